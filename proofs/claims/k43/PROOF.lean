import PyProof.Rows.All
import Wide.All
import OpenK.AllK
import Wide.FinOn
import PyProof.EqAt
import PyProof.EqKinds
import PyProof.TupleCall
import KE.KDictSum
import PyProof.SliceStr2
import PyProof.NeKinds
import PyProof.StrWalks
import PyProof.ConsumeWalk
import KE.KSortTup
import PyProof.StationsW
import OpenK.KOwn
import PyProof.RulesAs
import PyProof.NsDelKeeps
import PyProof.InstStoreFacts
import OpenK.KCls
import PyProof.ExcArgs
import PyProof.ExcAttrAll.ValueError
import KE.KIsAll
import PyProof.Rows.SetFrom
import PyProof.Rows.SortStr
import PyProof.SumAny
import PyProof.EnumMake
import KE.KRevIter
import PyProof.MeetsStr
import PyProof.ListRange
import PyProof.Rows.Range3
import KE.KDictList
import PyProof.PureStr
import PyProof.WalkInts
import PyProof.ConsumeS
import PyProof.ZipIter
import PyProof.AttrMissHeap
import KE.KDictOf
import PyProof.DictItems
import KE.KItemsList
import KE.KEqDict
import PyProof.DictValues
import PyProof.DictWalks
import PyProof.Rows.StrNews
import PySem.Challenge.RW_creasecourt_k43_laid_edge_by_edge
open Array renaming getElem?_eq_some_iff->Xg,getElem?_toList->XC,getD->XN,length_toList->XT,getElem?_eq_none->YU,replicate->a1s,getElem?_setIfInBounds->a1t,getElem?_eq_getElem->a1R,append_assoc->a3a,toList_inj->a3J,toList->a4D,map->a5K
open Bool renaming and_eq_true->Vq,false_eq_true->Vy,false_ne_true->V7,not_true->W6,not_false->XB,or_eq_true->Yb,and_eq_true_iff->Yw,eq_iff_iff->Zo,or_true->Zw,not_eq_true'->ZP,or_false->a2g,and_true->a2h,false_and->a4p,and_false->a4q,and_assoc->a4r,true_and->a4C
open Classical renaming choose->Ym,choose_spec->YR
open False renaming elim->Wl
open ForInStep renaming yield->YB
open Function renaming comp_def->a2M
open Int renaming emod_lt_of_pos->Wx,emod_nonneg->WK,toNat_natCast->ZT,neg_mul->ZU,add_zero->a2L,le_refl->a5D
open List renaming length_map->Vm,set_cons_zero->Vs,set_cons_succ->Vt,getElem?_eq_some_iff->Vx,map_cons->VE,prefix_refl->VF,size_toArray->VG,getElem?_eq_getElem->VH,mem_cons_of_mem->VI,map_map->VN,mem_cons_self->VO,mem_cons->VP,length_append->VR,replicate->VW,mem_map->VY,cons_append->VZ,getElem?_map->V0,length_cons->V1,nil_append->V2,mem_of_getElem?->V8,zipWith_cons_cons->V9,range->Wc,getElem?_append_left->We,all_cons->Wf,getElem?_set_self->Wg,length->Wm,getD->Wo,map_append->Wq,find?_cons->Wv,getElem?_eq_none_iff->WC,mem_append_right->WI,length_filter_le->WJ,getElem?_set_ne->WM,pairwise_iff_getElem->WQ,mem_singleton->WR,mem_range->WT,mem_append->WU,all_eq_true->WZ,not_mem_nil->Xd,getElem?_append_right->Xh,replicate_succ->Xu,filterMap_cons->Xv,filter_append->XA,length_replicate->XD,length_set->XF,foldl_cons->XG,any_cons->XQ,length_take->XY,getElem?_replicate->XZ,zip_cons_cons->X5,mem_filter->X9,flatten_cons->Yl,map_congr_left->YE,length_pos_iff->YF,getElem_of_mem->YG,mem_filterMap->YL,find?_eq_none->YM,length_eq_zero_iff->YQ,getElem?_eq_none->Y3,take_length->Y5,lookup_cons->Y6,getElem_mem->Y7,lookup->Zh,nodup_cons->Zk,length_nil->Zl,append_nil->Zm,take_succ->Zy,contains_cons->Zz,mem_of_find?_eq_some->ZI,drop_eq_getElem_cons->ZJ,range'->ZN,range'_succ->ZZ,length_drop->Z0,filter_cons->Z1,countP_cons->Z2,range_succ_eq_map->Z5,map_nil->Z6,set_append_right->a0f,length_singleton->a0g,map_eq_nil_iff->a0v,zip_nil_right->a0E,zipWith->a0L,pairwise_map->a0M,nodup_append->a0N,length_range->a0O,getElem?_set->a0P,foldl_append->a0Q,find?_append->a0R,any_map->a0S,singleton_perm_singleton->a1p,range_succ->a1u,of_mem_zip->a1v,length_zip->a1w,idxOf_lt_length_of_mem->a1H,take_of_length_le->a2t,all_map->a2u,take_append_drop->a2H,mem_iff_getElem?->a2I,getElem?_zipWith->a2J,dropLast_eq_take->a2K,mem_append_left->a2R,flatMap_append->a2X,foldl->a3n,map_inj_left->a3G,ext_getElem?->a3H,append_assoc->a3I,ext_getElem->a3T,range_zero->a4c,find?_some->a4d,filter_nil->a4e,tail_drop->a4l,perm_cons->a4m,map->a4n,drop_zero->a4o,map_id'->a4R,tail->a5W
open List.Pairwise renaming nil->a1Q,map->a5c,imp->a5d
open List.Perm renaming eq_of_pairwise->a1q
open List.cons renaming injEq->a0J
open Nat renaming le_refl->Vv,ne_of_lt->VB,lt_of_lt_of_le->VL,zero_le->Wn,le_trans->Wu,ne_of_gt->W8,lt_irrefl->Xz,lt_or_ge->X8,not_lt->Yx,le_succ->Yy,lt_succ_self->YD,lt_trichotomy->YZ,lt_trans->Y0,le_of_lt->Y1,succ_le_succ->Zd,not_lt_zero->Zv,lt_succ_of_lt->ZS,succ_pos->a0c,le_of_eq->a0d,succ_mul->a0Z,le_succ_of_le->a1a,min_eq_left->a1F,mul_le_mul->a1Z,exists_eq_add_of_le->a2s,sub_zero->a2G,le_of_lt_succ->a3S,le_of_not_lt->a4b,lt_succ_iff->a4k,add_zero->a5a,add_comm->a5b,log2_lt->a5C,mod_lt->a5V
open Ne renaming symm->WB
open Option renaming bind_eq_some_iff->Vj,map_eq_some_iff->Vn,bind_some->VJ,map_some->VT,isSome_iff_exists->W5,isSome_map->ZE,getD_none->a3l,none->a4B
open Option.some renaming inj->VX,injEq->a5U
open Or renaming inr->a2Q,inl->a3R
open Prod renaming ext->WS,ext_iff->a2q
open Prod.mk renaming inj->a0b,injEq->a3Q
open PyProof.Rows renaming seqObj->WV,callWith_type1->Xm,IntsAre->X6,IsTup->Yu,callWith_builtin1->YK,envOfC->YY,entry_list_sort->ZC,slot_list_sort->ZW,args_list_sort->ZY,AllBare->Z8,sortedAll_old->a0D,sortedAll_at->a0I,subscriptTail->a1b,listUpdate_at->a1c,sortedHeap->a1l,lt_int->a1E,seqEpoch_at->a2d,Subscript_->a2D,subscriptTail_builtinR->a3r,plain_sorted->a3s,entry_sorted->a3u,args_sorted1->a3w,kind_sorted->a3Y,list_sort_plain->a5n,get?_update_seq->a5o,wpAny_notIn_heap->a5p,sorted_ints->a5q,oneLt_int->a5r,mul_int->a5s,mirror_perm->a5t,floordiv_int->a5u,entry_proto_collect'->a5v,entry_list_iadd'->a5w,call_len_slot->a5x,bubble_perm->a5y,bubble->a5z,assign_Tuple_tuple->a5A,assign_Tuple->a5B,tail_any->a5N,sortedHeap_old->a5O
open PyProof.Rows.Boot renaming dict->X3,sorted->YO,tuple->a0e,list->a0l,int->a0m,sum->a3y,str->a3z,len->a3A,isinstance->a3B,bool->a3C,any->a3D,all->a3E
open PySem renaming wpAny_bind->Vl,Shared->Vp,wpAny_pure->Vr,sizeLine->VA,wpAny->VD,model->VM,Program->VQ,sizeLine_eq->VS,Around->VU,starEach->V5,World->V6,wpAny_mono->Wa,mainGlobals->Wh,wpAny_holding->Wi,Heap->Wj,compareOp->Wt,wpAny_loadPart_at->Wy,DictEntry->WD,wpAny_dictEntries->WE,mem_of_lookup->WG,sysModules->WL,cLine->WX,Obj->WY,wpAny_call_entry->W0,bootBuiltins->W3,Pos->W4,wpAny_newObj_type->W7,wpAny_notOrdered_dict->W9,FuncData->Xc,wpAny_truthy_bool->Xi,excClassObj->Xk,wpAny_Call_Name_kw->Xo,tupleKind->Xw,assignEach->Xx,rawInt->XR,codeAny_builtin->XS,wpAny_field->XU,intKind->XW,NameKind->XX,typeLookup->X0,Scope->X1,Params->X2,wpAny_isSubtype_exc->X4,sliceBounds->Yd,wpAny_setField_rec->Yg,backTo->Yi,wpAny_passesOwn->Yo,plainId_quiet->Yq,behindInMarks->Yr,attributeBase->Ys,wpAny_pyIter_list->Yz,wpAny_setField->YH,binaryOp->YI,CmpOp->YS,wpAny_execs_nil->YV,wpAny_dictEpoch->YW,wpAny_pyIter_tuple->YX,foldedSetIterable->Y8,compEnvC->Y9,Paired->Zc,Keyword->Ze,wpAny_isInstance->Zp,wpAny_execs_cons->Zq,call_meets->Zr,pyNext->ZA,wpAny_typeOf->ZK,codeAny_mono->ZL,codeAny->ZM,swapsWith->ZQ,getattributeRaised->ZX,Env->Z7,wpAny_standAt->Z9,wpAny_newList->a0a,wpAny_Call_method0_late->a0h,checkBuiltinCall->a0i,atKey->a0j,SetTable->a0k,wpAny_pyNext_list_item->a0o,wpAny_isOneOf_itemiter->a0p,evalArgs_none->a0q,wpAny_specialOf->a0t,letOwnedTupleGo->a0u,wpAny_pyNext_list_end->a0x,keywordEach->a0F,firstArgMember->a0G,codeAny_call_builtin->a0H,wpAny_rule->a1i,wpAny_load->a1j,wpAny_call->a1k,assign->a1m,slot_list_getitem->a1z,callerA->a1C,bindArgs->a1D,Model->a1G,BindsTo->a1K,wpAny_forIn_list->a1S,setFlight->a1T,noteFrame->a1U,kt_code_dict_new->a1V,PassesOwn->a1Y,subscripted->a2c,wpAny_updateSeq->a2j,wpAny_richCompare_same_room->a2n,valueAt->a2o,getItem->a2p,OwnTail->a2r,wpAny_newTuple->a2w,wpAny_Expr_any->a2x,setField->a2y,pyIter->a2z,callType_codes->a2A,backToKw->a2B,Result->a2E,Operator->a2F,wpAny_getItem_list_slice->a2T,swappedStores->a2U,ExceptHandler->a2Z,wpAny_pyNext_tuple_item->a3b,wpAny_callSpecial?_slot->a3c,slicePick->a3d,bindL->a3f,bindC->a3g,wpAny_pyNext_tuple_end->a3p,typeOf->a3q,isTrue->a3t,call_meetsIn->a3v,wpAny_isOneOf_keyiter->a3K,builtinLookup_eq_fast->a3L,unbindBehindTheSuite->a3X,getAttr?->a3Z,IntMulOk->a4f,GenState->a4g,wpAny_Name->a4s,typeIs_int->a4t,sub_AttributeError->a4u,sliceRange->a4v,isInstance->a4w,closureFor->a4x,checkCount->a4y,builtinsNs->a4z,wpAny_pyIter_slot->a4E,wpAny_pyIter_enum->a4F,wpAny_assign_Name->a4G,wpAny_Return_some->a4H,wpAny_Assign_Name->a4I,relabel->a4J,leaving->a4K,call_sum_walkAnyS->a4L,wpAny_pyIter_zip->a4S,lastMarks->a4T,cellsFrom->a4U,Tok->a4V,Sem->a4W,call->a4X,wpAny_loadPart'->a5j,typeNameOfWhole->a5k,typeLookup_type->a5l,size_of_entries->a5m,wpAny_tryCatch->a5L,wpAny_fieldsOf->a5M,refuseLoop_ref->a5P,recursionLimit->a5Q,newExc->a5R,isSubtype_stop->a5T
open PySem.Around renaming under_plainId->Xa,under->a2i
open PySem.Builtin renaming sorted->a0B
open PySem.Builtin.Dict renaming updateFrom->Xj,showsAll->Xs,dictSlotArgs->Yc,selfAndRest->Zn,entriesForEmpty->a0w,addKeywords->a0U,samePairs->a1g,pairItems->a1h,quietEq->a1y,noArgs->a1J,readDirectly->a5F,pendingCount->a5G,mergeDict->a5H,merge->a5I,dictSlotNone->a5J
open PySem.Builtin.Dict_items renaming ownsTuple->YJ,ownedTupleIsFree->ZG,ownedTupleFields->ZH,pairFromOwner->ZV,newIterator->a3V,dictOf->a3W
open PySem.Builtin.Int renaming intBits->V4,intTooBig->YN
open PySem.Builtin.List renaming listTooLong->Yn,listExtendWith->a0C,listSameRef->a0T
open PySem.Builtin.ObjectAttr renaming storeInDict->Z3,newKeyGuard->a3U
open PySem.Builtin.Range renaming rangeSize->a5i
open PySem.Builtin.Str renaming occurrences->WW
open PySem.Builtin.Tuple renaming tupleHashOf->a5g,tupleCompareSizes->a5h
open PySem.Calls renaming callWith_builtin->YT,call_function_entry->ZF,spliced_cons->a0A,spliced_nil->a0K,Name_function_global->a1I
open PySem.Challenge renaming rw_creasecourt_k43_laid_edge_by_edge->WN,pw_creasecourt_k43_laid_edge_by_edge->WO
open PySem.Code renaming isFrame->a2v,quiet_builtin->a3o,frames->a5f
open PySem.Data renaming fields->ZO,dict->a1e,cell->a1f,seq->a2S
open PySem.EntryCells renaming newEntry->a2b
open PySem.F renaming excBase_ValueError->Zu,store_ValueError->ZD,slot_dict_items->a1L,slot_dict_clear->a1M,plainAttrs_list->a1N,plainAttrs_dict->a1O,sub_dict_dict->a2f,slot_dict_ne->a2k,slot_dict_eq->a2l
open PySem.Heap renaming get?_push_of_some->Vo,lt_size->Vu,get?_push_size->VC,get?_update_other->Wr,get?_update_self->WA,size_push->Yv,SameBut->YA,get?_none_of_le->Zi,ExtBut->a1r,get?_update_ne->a2Y
open PySem.Heap.DictOfH renaming new->a5E
open PySem.Heap.IsSliceOf renaming new->a1x
open PySem.Heap.IsTuple renaming push->Y4
open PySem.Heap.SameBut renaming update->Ye,refl->a2a
open PySem.NameKind renaming free->Xr,cell->XE
open PySem.Obj renaming mapSeq->Xb,data_mapFields->X7,isFreed_of_fields->Yk,mapFields->Zg,data_mapDictKeys->a0s,cls_mapFields->a0Y,isFreed_of_dict->a3m,mapDictKeys->a4j
open PySem.Obj.ExactDict renaming mapDictKeys->a4Z
open PySem.Paired renaming length->a1P,snoc->a4A
open PySem.PassesOwn renaming never->a2P
open PySem.SeqAt renaming ne_of_list_tuple->Xf,EqAt->Z4
open PySem.SeqAt.EqAt renaming int_int->a2e
open PySem.SetTable renaming below->Zj,slot->a3x,has->a3M
open PySem.SetTable.below renaming go->Zb
open PySem.SetTable.layClean renaming free->a0y
open PySem.SetTable.probe renaming go->Za
open PySem.Str renaming ofString->Xy
open PySem.Value renaming ref->Vz,int->V3,none->Wb,type->Ws,builtin->Xl,bool->XM,str->a0V,float->a4N,bytes->a4O
open PySem.W renaming Frag->Vk,keepIn->Ww,nsIn->Wz,findIn->WH,kas_place->W2,fnOf->Xe,kia_one->Xp,kas_desc->Xq,kas_rev->XH,kas_asc->XI,kas_descPart->Yh,looks_findIn->Yj,Looks->YC,mg_of->Y2,codeIn->Zs,specialIn->Zx,kas_tail3->ZR,callWith_K->a0r,methodObj->a0z,kitOne->a1n,kas_sort->a1A,kas_bin->a1B,hashAt->a1W,cellsFrom_some->a1X,kitx_list->a2N,kitx_dict->a2O,plainGet->a2W,kas_count->a3e,takesIn->a3h,instObj->a3i,findCls->a3j,OpenLaw->a3k,mroIn->a3N,excIn->a3O,WalkO->a3P,isFn->a4a,KasT->a5e,kHook->a5S
open PySem.W.KasFin renaming intro->a4Q
open PySem.W.KasT renaming ret->XJ,ask->a0n
open PySem.W.Looks renaming here->Yp
open PySem.W.OpenLaw renaming row->a2m
open PySem.W.OpenRow renaming toRowW->a3F
open PySem.W.RowW renaming records->a4P
open PySem.W.WData renaming int->Zf,weightAll->Zt,layable->a1d,weight->a1o,layableAll->a4Y
open PySem.W.WShape renaming has->a4M
open PySem.Walks renaming tuple->a2C,list->a2V
open Std.Legacy.Range renaming size->a4h,forIn_eq_forIn_range'->a4i
open Sum renaming inr->a0W,inl->a0X
open True renaming intro->Yt
local macro_rules|`(tactic| omega) => `(tactic| lia)
set_option compiler.extract_closed false
set_option bootstrap.genMatcherCode false
set_option Elab.async false
set_option linter.all false
set_option maxRecDepth 100000
set_option linter.all false
namespace L2
open PySem PySem.Spec PyProof.Rows
noncomputable abbrev a9:=Sum Int Str
noncomputable def vE:a9->Value->Bool
 | .inl k,v=>Value.isInt k v
 | .inr x,v=>Value.isStrOf x v
noncomputable def AL (w:V6):a9->Int
 | .inl k=>hashInt k
 | .inr x=>hashStr w x
theorem jG:∀ {k:a9}{v:Value},vE k v=true->(∃ i t,k=a0X i/\v=V3 i t)\/(∃ x t,k=a0W x/\v=a0V x t)
 | .inl i,v,h=>by
  obtain ⟨t,e⟩:=Value.isInt_shape (k:=i) (v:=v) h
  exact .inl ⟨i,t,rfl,e⟩
 | .inr x,v,h=>by
  obtain ⟨t,e⟩:=Value.isStrOf_shape (x:=x) (v:=v) h
  exact .inr ⟨x,t,rfl,e⟩
theorem Hd (a b:Int):decide ((a0X a:a9)=a0X b)=(a == b):=by
 by_cases e:a=b
 ·subst e;simp
 ·have h:¬ (a0X a:a9)=a0X b:=fun q=>e (Sum.inl.inj q)
  rw [decide_eq_false h]
  exact (beq_eq_false_iff_ne.mpr e).symm
theorem He (a b:Str):decide ((a0W a:a9)=a0W b)=decide (a=b):=by
 by_cases e:a=b
 ·subst e;simp
 ·have h:¬ (a0W a:a9)=a0W b:=fun q=>e (Sum.inr.inj q)
  rw [decide_eq_false h,decide_eq_false e]
theorem Hf (a:Int)(b:Str):decide ((a0X a:a9)=a0W b)=false:=decide_eq_false (fun q=>nomatch q)
theorem Hg (a:Str)(b:Int):decide ((a0W a:a9)=a0X b)=false:=decide_eq_false (fun q=>nomatch q)
noncomputable def lJ (prog:VQ)(w:V6):PySem.KeyKind prog w a9 where
 is:=vE
 hash:=AL w
 inj:=fun v a b l d=>by
  rcases jG l with ⟨i,t,rfl,rfl⟩|⟨x,t,rfl,rfl⟩
  ·rcases jG d with ⟨j,u,rfl,e⟩|⟨y,u,rfl,e⟩
   ·injection e with e1 _;rw [e1]
   ·exact nomatch e
  ·rcases jG d with ⟨j,u,rfl,e⟩|⟨y,u,rfl,e⟩
   ·exact nomatch e
   ·injection e with e1 _;rw [e1]
 byValue:=fun k v h=>by
  rcases jG h with ⟨i,t,rfl,rfl⟩|⟨x,t,rfl,rfl⟩<;>rfl
 pyHash:=fun c h=>by
  rcases jG c with ⟨i,t,rfl,rfl⟩|⟨x,t,rfl,rfl⟩
  ·exact wpAny_pyHash_int h
  ·exact wpAny_pyHash_str h
 eqBool:=fun m c h=>by
  rcases jG m with ⟨i,t,rfl,rfl⟩|⟨x,t,rfl,rfl⟩
  ·rcases jG c with ⟨j,u,rfl,rfl⟩|⟨y,u,rfl,rfl⟩
   ·rw [Hd] at h;exact wpAny_eqBool_int h
   ·rw [Hf] at h;exact SeqAt.EqAt.int_str i t y u _ _ _ _ h
  ·rcases jG c with ⟨j,u,rfl,rfl⟩|⟨y,u,rfl,rfl⟩
   ·rw [Hg] at h;exact SeqAt.EqAt.str_int x t j u _ _ _ _ h
   ·rw [He] at h;exact wpAny_eqBool_str h
 «strs»:=fun k x t v h=>by
  rcases jG h with ⟨i,u,rfl,e⟩|⟨y,u,rfl,e⟩
  ·exact nomatch e
  ·injection e with e1 _
   subst e1
   cases v<;>rfl
end L2
namespace L2
open PySem PySem.Spec PyProof.Rows
inductive V where
 | non|bl (b:Bool)|int (i:Int)|str (x:Str)|byt (b:Array UInt8)|flt (b:UInt64)|ref (a:Addr)|ty (n:String)
 deriving DecidableEq
noncomputable def RelV:V->Value->Prop
 | .non,u=>u=Wb
 | .bl b,u=>u=XM b
 | .int i,u=>∃ t,u=V3 i t
 | .str x,u=>∃ t,u=a0V x t
 | .byt b,u=>∃ t,u=a4O b t
 | .flt b,u=>∃ t,u=a4N b t
 | .ref a,u=>u=Vz a
 | .ty n,u=>u=Ws n
noncomputable abbrev Vals:List V->List Value->Prop:=Zc RelV
theorem Vals.length {xs:List V}{us:List Value}(r:Vals xs us):xs.length=us.length:=a1P r
theorem Vals.get:∀ {xs:List V}{us:List Value}{i:Nat}{x:V},Vals xs us->xs[i]? = some x->∃ u,us[i]? = some u/\RelV x u
 | _,_,_,_,.nil,e=>by simp at e
 | _,_,0,_,.cons r _,e=>by simp at e;subst e;exact ⟨_,rfl,r⟩
 | _,_,i+1,x,.cons _ t,e=>by
  obtain ⟨u,a,b⟩:=Vals.get (i:=i) (x:=x) t (by simpa using e)
  exact ⟨u,by simpa using a,b⟩
theorem Vals.set {x:V}{u:Value}(r:RelV x u):∀ {xs:List V}{us:List Value}(i:Nat),Vals xs us->Vals (xs.set i x) (us.set i u)
 | _,_,_,.nil=>.nil
 | _,_,0,.cons _ t=>.cons r t
 | _,_,i+1,.cons q t=>.cons q (Vals.set r i t)
theorem Vals.append:∀ {xs a:List V}{us ws:List Value},Vals xs us->Vals a ws->Vals (xs++a) (us++ws)
 | _,_,_,_,.nil,s=>s
 | _,_,_,_,.cons r t,s=>.cons r (Vals.append t s)
theorem Vals.take:∀ {xs:List V}{us:List Value}(n:Nat),Vals xs us->Vals (xs.take n) (us.take n)
 | _,_,0,_=>.nil
 | _,_,_+1,.nil=>.nil
 | _,_,n+1,.cons r t=>.cons r (Vals.take n t)
theorem Vals.drop:∀ {xs:List V}{us:List Value}(n:Nat),Vals xs us->Vals (xs.drop n) (us.drop n)
 | _,_,0,r=>r
 | _,_,_+1,.nil=>.nil
 | _,_,n+1,.cons _ t=>Vals.drop n t
noncomputable def RelO:Option V->Option Value->Prop
 | some v,some u=>RelV v u
 | none,none=>True
 | _,_=>False
noncomputable def KV {κ:Type}:List (κ×V)->List (κ×Value)->Prop:=Zc fun (p:κ×V)(q:κ×Value)=>p.1=q.1/\RelV p.2 q.2
noncomputable def kV:a9->V
 | .inl i=>.int i
 | .inr x=>.str x
inductive HO where
 | lst (xs:List V)
 | tup (xs:List V)
 | dK (kvs:List (a9×V))|dT (kvs:List (List a9×V))
 | set (S:Int->Bool)(n:Nat)
 | ins (C dx:Addr)(fs:List (Str×V))
 | own (x:Addr)
 | xd (fs:List (Str×V))
 | met (f x:Addr)
 | rng (lo hi:Int)
 | frz (o:WY)(u:HO)
 | tbl (ps:Array Value)
 | ext (φ:Wj->Prop)
noncomputable abbrev Hp:=Addr->Option HO
noncomputable def aK (H:Hp)(a:Addr)(o:HO):Hp:=fun b=>if b=a then some o else H b
theorem cG {H:Hp}{a:Addr}{o:HO}:aK H a o a=some o:=by unfold aK;rw [if_pos rfl]
theorem a8 {H:Hp}{a b:Addr}{o:HO}(h:b≠a):aK H a o b=H b:=by unfold aK;rw [if_neg h]
theorem eM {H:Hp}{a b:Addr}{o:HO}(h:H a=some o)(h':H b=none):a≠b:=by
 intro e;subst e;rw [h] at h';cases h'
section
variable (P:VQ)(w:V6)
noncomputable def TupN (h:Wj)(a:Addr)(xs:Array Value):Prop:=∃ o,h.get? a=some o/\o.cls=.type "tuple"/\∃ n,o.data=.seq xs n/\o.dict=none
theorem TupN.tup {h:Wj}{a:Addr}{xs:Array Value}(x:TupN h a xs):Yu h a xs:=let ⟨o,e,c,n,d,_⟩:=x;⟨o,e,c,n,d⟩
theorem TupN.new (h:Wj)(items:Array Value):TupN (h.push { cls:=.type "tuple",data:=.seq items }) h.objs.size items:=⟨_,VC _ rfl,rfl,_,rfl,rfl⟩
noncomputable def ObjOk (H:Hp)(h:Wj)(a:Addr):HO->Prop
 | .lst c=>c.length<=VA/\∃ (b:List Value)(n:Nat),Vals c b/\h.get? a=some { cls:=.type "list",data:=.seq b.toArray n }
 | .tup c=>c.length<=VA/\∃ b:List Value,Vals c b/\TupN h a b.toArray
 | .dK kvs=>kvs.length<=VA/\(a == WL)=false/\∃ l,KV kvs l/\h.DictOf (lJ P w) a l
 | .dT kvs=>kvs.length<=VA/\(a == WL)=false/\∃ c:List (List a9×Addr×Value),
   Zc (fun (p:List a9×V)(q:List a9×Addr×Value)=>p.1=q.1/\H q.2.1=some (.tup (p.1.map kV))/\RelV p.2 q.2.2) kvs c /\
   ∃ o e m,h.get? a=some o/\o.ExactDict/\o.data=.dict e m/\e.toList=c.map (entryOfKey (Xw (lJ P w)))/\(c.map (·.1)).Nodup
 | .set S n=>h.SetOf (XW P w) a S n
 | .ins C dx fs=>H dx=some (.own a)/\fs.length<=1000/\dx≠a/\h.get? a=some (a3i C dx) /\
   ∃ d,h.Ns1 dx d/\(∀ f,RelO (fs.lookup f) (d f))/\PySem.Within d (fs.map (·.1))
 | .own _=>∃ o,h.get? a=some o
 | .xd fs=>∃ d,h.Ns1 a d/\∀ f,RelO (fs.lookup f) (d f)
 | .rng lo hi=>∃ t u v,h.get? a=some { cls:=.type "range",data:=.fields #[.int lo t,.int hi u,.int 1 v] }
 | .frz o u=>h.get? a=some o/\ObjOk H h a u
 | .tbl ps=>h.get? a=some { cls:=.none,data:=.fields ps }
 | .met f x=>h.get? a=some (a0z (.ref f) (.ref x))
 | .ext φ=>φ h/\(∃ o,h.get? a=some o)/\∀ i j:Wj,φ i->(∀ o,i.get? a=some o->j.get? a=some o)->φ j
noncomputable def HOk (H:Hp)(h:Wj):Prop:=∀ a o,H a=some o->ObjOk P w H h a o
end
section
variable {P:VQ}{w:V6}{H H':Hp}{h h':Wj}{a:Addr}{o:HO}
theorem ObjOk.lt (x:ObjOk P w H h a o):a<h.objs.size:=by
 cases o with
 | lst c=>obtain ⟨_,_,_,_,e⟩:=x;exact Vu e
 | tup c=>obtain ⟨_,_,_,p⟩:=x;exact p.tup.lt
 | dK b=>obtain ⟨_,_,_,_,o,_,_,e,_⟩:=x;exact Vu e
 | dT b=>obtain ⟨_,_,_,_,o,_,_,e,_⟩:=x;exact Vu e
 | set S n=>obtain ⟨o,_,_,_,e,_⟩:=x;exact Vu e
 | ins C d fs=>obtain ⟨_,_,_,e,_⟩:=x;exact Vu e
 | own y=>obtain ⟨_,e⟩:=x;exact Vu e
 | xd fs=>obtain ⟨_,⟨_,_,_,e,_⟩,_⟩:=x;exact Vu e
 | rng j i=>obtain ⟨_,_,_,e⟩:=x;exact Vu e
 | frz l u=>obtain ⟨e,_⟩:=x;exact Vu e
 | tbl m=>exact Vu (show h.get? a=some _ from x)
 | met f y=>exact Vu (show h.get? a=some _ from x)
 | ext q=>obtain ⟨_,⟨_,e⟩,_⟩:=x;exact Vu e
theorem Zc.mapP {e i:Type}{F G:e->i->Prop}:∀ {c:List e}{d:List i},Zc F c d->(∀ a b,F a b->G a b)->Zc G c d
 | _,_,.nil,_=>.nil
 | _,_,.cons r t,f=>.cons (f _ _ r) (Zc.mapP t f)
theorem ObjOk.stay (x:ObjOk P w H h a o)(k:∀ b u,(b=a\/H b=some (.own a))->h.get? b=some u->h'.get? b=some u)
  (J:∀ b,H b=some (.own a)->H' b=some (.own a))(K:∀ b s,H b=some (.tup s)->H' b=some (.tup s)):ObjOk P w H' h' a o:=by
 induction o with
 | lst s=>obtain ⟨z,m,n,r,e⟩:=x;exact ⟨z,m,n,r,k _ _ (.inl rfl) e⟩
 | tup s=>obtain ⟨z,m,r,i,e,c⟩:=x;exact ⟨z,m,r,i,k _ _ (.inl rfl) e,c⟩
 | dK A=>obtain ⟨z,y,M,r,i,l,j,e,c⟩:=x;exact ⟨z,y,M,r,i,l,j,k _ _ (.inl rfl) e,c⟩
 | dT A=>
  obtain ⟨z,y,s,r,i,l,j,e,c⟩:=x
  exact ⟨z,y,s,Zc.mapP r fun p q z=>⟨z.1,K _ _ z.2.1,z.2.2⟩,i,l,j,k _ _ (.inl rfl) e,c⟩
 | set S n=>obtain ⟨i,l,j,t,e,c⟩:=x;exact ⟨i,l,j,t,k _ _ (.inl rfl) e,c⟩
 | ins C N fs=>
  obtain ⟨d,z,ne,e,B,⟨E,l,j,I,c⟩,r⟩:=x
  exact ⟨J _ d,z,ne,k _ _ (.inl rfl) e,B,⟨E,l,j,k _ _ (.inr d) I,c⟩,r⟩
 | own y=>obtain ⟨i,e⟩:=x;exact ⟨i,k _ _ (.inl rfl) e⟩
 | xd fs=>obtain ⟨B,⟨E,l,j,e,c⟩,r⟩:=x;exact ⟨B,⟨E,l,j,k _ _ (.inl rfl) e,c⟩,r⟩
 | rng Q O=>obtain ⟨t,u,v,e⟩:=x;exact ⟨t,u,v,k _ _ (.inl rfl) e⟩
 | frz i u L=>obtain ⟨e,q⟩:=x;exact ⟨k _ _ (.inl rfl) e,L q⟩
 | tbl G=>
  have e:h.get? a=some { cls:=.none,data:=.fields G }:=x
  show h'.get? a=some { cls:=.none,data:=.fields G }
  exact k a _ (.inl rfl) e
 | met f y=>
  have e:h.get? a=some (a0z (.ref f) (.ref y)):=x
  show h'.get? a=some (a0z (.ref f) (.ref y))
  exact k a _ (.inl rfl) e
 | ext R=>obtain ⟨p,⟨o,e⟩,st⟩:=x;exact ⟨st _ _ p fun o q=>k _ _ (.inl rfl) q,⟨o,k _ _ (.inl rfl) e⟩,st⟩
theorem HOk.lt (x:HOk P w H h)(e:H a=some o):a<h.objs.size:=(x a o e).lt
theorem HOk.fresh (x:HOk P w H h)(e:h.objs.size<=a):H a=none:=by
 cases q:H a with
 | none=>rfl
 | some u=>exact absurd (VL (x.lt q) e) (Xz _)
theorem HOk.kept (x:HOk P w H h)(k:∀ b u,h.get? b=some u->h'.get? b=some u):HOk P w H h':=fun a o e=>
 (x a o e).stay (fun b u _ q=>k b u q) (fun _ q=>q) fun _ _ q=>q
theorem HOk.laid (x:HOk P w H h)(k:∀ b u,h.get? b=some u->h'.get? b=some u)(j:h.objs.size<=a)(new:ObjOk P w (aK H a o) h' a o):HOk P w (aK H a o) h':=fun b u e=>by
 have i:=x.fresh j
 by_cases d:b=a
 ·subst d;rw [cG] at e;cases e;exact new
 ·rw [a8 d] at e
  exact (x b u e).stay (fun c v _ q=>k c v q) (fun c q=>by rw [a8 (eM q i)];exact q) fun c l q=>by rw [a8 (eM q i)];exact q
end
noncomputable def Rd (H:Hp)(a:Addr)(u:HO):Prop:=H a=some u\/∃ o,H a=some (.frz o u)
theorem Rd.of {H:Hp}{a:Addr}{u:HO}(h:H a=some u):Rd H a u:=.inl h
theorem Rd.ok {P:VQ}{w:V6}{H:Hp}{h:Wj}{a:Addr}{u:HO}(r:Rd H a u)(x:HOk P w H h):ObjOk P w H h a u:=by
 rcases r with r|⟨o,r⟩
 ·exact x a u r
 ·obtain ⟨_,q⟩:=x a _ r
  exact q
noncomputable def pJ:Option HO->Prop
 | some (.lst _)=>True
 | some (.dK _)=>True
 | some (.dT _)=>True
 | some (.set _ _)=>True
 | some (.ins _ _ _)=>True
 | some (.ext _)=>True
 | _=>False
section
variable {P:VQ}{w:V6}{H:Hp}{h h':Wj}{x e:Addr}{o':HO}
theorem HOk.write (ok:HOk P w H h)(l:pJ (H x))(o:e=x\/H e=some (.own x))(k:∀ b u,b≠e->h.get? b=some u->h'.get? b=some u)(n:∃ u,h'.get? e=some u)
  (new:ObjOk P w (aK H x o') h' x o'):HOk P w (aK H x o') h':=fun b u q=>by
 have d:∀ c y,H c=some (.own y)->c≠x:=fun c y r z=>by subst z;rw [r] at l;exact l
 have i:∀ c m,H c=some (.tup m)->c≠x:=fun c m r z=>by subst z;rw [r] at l;exact l
 by_cases j:b=x
 ·subst j;rw [cG] at q;cases q;exact new
 ·rw [a8 j] at q
  by_cases a:b=e
  ·have p:H b=some (.own x):=by
    rcases o with z|z
    ·exact absurd (a.trans z) j
    ·rw [a];exact z
   rw [q] at p;cases p
   obtain ⟨v,s⟩:=n
   exact ⟨v,by rw [a];exact s⟩
  ·refine (ok b u q).stay (fun c v hc r=>k c v ?_ r) (fun c r=>by rw [a8 (d c b r)];exact r) fun c m r=>by rw [a8 (i c m r)];exact r
   rcases hc with rfl|hc
   ·exact a
   ·rintro rfl
    rcases o with z|z
    ·exact d c b hc z
    ·rw [hc] at z;cases z;exact j rfl
end
structure Un (fs ex:List Addr)(H H':Hp)(h h':Wj):Prop where
 keep:∀ b o,h.get? b=some o->H b=none->b∉fs->b∉ex->h'.get? b=some o
 slot:∀ b o,h.get? b=some o->H b=none->b∈fs->b∉ex->∃ sl,h'.get? b=some { o with slots:=sl }
 free:∀ b o,h.get? b=some o->H b=none->b∉ex->H' b=none
 there:∀ b o,h.get? b=some o->b∉ex->∃ o',h'.get? b=some o'
 tups:∀ b xs,H b=some (.tup xs)->H' b=some (.tup xs)
 frzs:∀ b o u,H b=some (.frz o u)->H' b=some (.frz o u)
 tbls:∀ b ps,H b=some (.tbl ps)->∃ more,H' b=some (.tbl (ps++more))
section
variable {fs fs' ex ex':List Addr}{H H1 H2:Hp}{h h1 h2 h':Wj}{a x e:Addr}{o:HO}
theorem Un.any (u:Un fs ex H H1 h h1){b:Addr}{c:WY}(q:h.get? b=some c)(n:H b=none)(i:b∉ex):∃ j,h1.get? b=some { c with slots:=j }:=by
 by_cases d:b∈fs
 ·exact u.slot b c q n d i
 ·exact ⟨c.slots,u.keep b c q n d i⟩
theorem Un.trans (a:Un fs ex H H1 h h1)(b:Un fs ex H1 H2 h1 h2):Un fs ex H H2 h h2 where
 keep:=fun c i q n hc d=>b.keep c i (a.keep c i q n hc d) (a.free c i q n d) hc d
 slot:=fun c i q n hc d=>by
  obtain ⟨w,j⟩:=a.slot c i q n hc d
  obtain ⟨r,m⟩:=b.slot c _ j (a.free c i q n d) hc d
  exact ⟨r,m⟩
 free:=fun c i q n d=>by
  obtain ⟨p,j⟩:=a.there c i q d
  exact b.free c p j (a.free c i q n d) d
 there:=fun c i q d=>by
  obtain ⟨p,j⟩:=a.there c i q d
  exact b.there c p j d
 tups:=fun c l q=>b.tups c l (a.tups c l q)
 frzs:=fun c i l q=>b.frzs c i l (a.frzs c i l q)
 tbls:=fun c v q=>by
  obtain ⟨s,j⟩:=a.tbls c v q
  obtain ⟨u,m⟩:=b.tbls c _ j
  exact ⟨s++u,by rw [m,a3a]⟩
theorem Un.kept (k:∀ b u,h.get? b=some u->h'.get? b=some u):Un fs ex H H h h':=
 ⟨fun b c q _ _ _=>k b c q,fun b c q _ _ _=>⟨c.slots,k b c q⟩,fun _ _ _ n _=>n,fun b c q _=>⟨c,k b c q⟩,fun _ _ q=>q,fun _ _ _ q=>q,fun _ d q=>⟨#[],by rw [q];simp⟩⟩
theorem Un.refl:Un fs ex H H h h:=Un.kept fun _ _ q=>q
theorem Un.laid (k:∀ b u,h.get? b=some u->h'.get? b=some u)(d:h.objs.size<=a)(c:H a=none):Un fs ex H (aK H a o) h h' where
 keep:=fun b u q _ _ _=>k b u q
 slot:=fun b u q _ _ _=>⟨u.slots,k b u q⟩
 free:=fun b u q n _=>by rw [a8 (VB (VL (Vu q) d))];exact n
 there:=fun b u q _=>⟨u,k b u q⟩
 tups:=fun b i q=>by rw [a8 (eM q c)];exact q
 frzs:=fun b u i q=>by rw [a8 (eM q c)];exact q
 tbls:=fun b j q=>⟨#[],by rw [a8 (eM q c),q];simp⟩
theorem Un.write (d:pJ (H x))(p:e=x\/H e=some (.own x))(k:∀ b u,b≠e->h.get? b=some u->h'.get? b=some u)(i:∃ u,h'.get? e=some u):Un fs ex H (aK H x o) h h':=by
 have m:∀ b,H b=none->b≠x:=fun b n z=>by subst z;rw [n] at d;exact d
 have l:∀ b,H b=none->b≠e:=fun b n z=>by
  subst z
  rcases p with r|r
  ·exact m b n r
  ·rw [n] at r;cases r
 have j:∀ b u,H b=some u->¬ pJ (some u)->b≠x:=fun b u q s z=>by subst z;rw [q] at d;exact s d
 refine ⟨fun b u q n _ _=>k b u (l b n) q,fun b u q n _ _=>⟨u.slots,k b u (l b n) q⟩,fun b u q n _=>by rw [a8 (m b n)];exact n,fun b u q _=>?_,
  fun b v q=>by rw [a8 (j b _ q fun z=>z)];exact q,fun b u v q=>by rw [a8 (j b _ q fun z=>z)];exact q,fun b w q=>⟨#[],by rw [a8 (j b _ q fun z=>z),q];simp⟩⟩
 by_cases c:b=e
 ·subst c;exact i
 ·exact ⟨u,k b u c q⟩
theorem Un.mono (u:Un fs ex H H1 h h1)(l:∀ b∈fs,b∈fs')(i:∀ b∈ex,b∈ex'):Un fs' ex' H H1 h h1:=
 ⟨fun b d q n j c=>u.keep b d q n (fun z=>j (l b z)) fun z=>c (i b z),fun _ _ q n _ c=>u.any q n fun z=>c (i _ z),fun b d q n c=>u.free b d q n fun z=>c (i b z),fun b d q c=>u.there b d q fun z=>c (i b z),u.tups,u.frzs,u.tbls⟩
end
noncomputable def rM (h:Wj)(H:Hp):List Addr:=(Wc h.objs.size).filter fun a=>(H a).isSome
noncomputable def jH (h:Wj)(H:Hp):Wj:=PySem.W.hideAll h (rM h H)
theorem Hh (h:Wj)(H:Hp):(jH h H).objs.size=h.objs.size:=PySem.W.hideAll_size _ _
theorem Hi {h:Wj}{H:Hp}{b:Addr}{o:WY}(e:h.get? b=some o)(n:H b=none):(jH h H).get? b=some o:=
 PySem.W.hideAll_get _ e fun a=>by
  have q:(H b).isSome=true:=(X9.mp a).2
  rw [n] at q;simp at q
theorem Hj {h:Wj}{H:Hp}{b:Addr}{o:WY}(e:(jH h H).get? b=some o):h.get? b=some o/\H b=none:=by
 have a:h.get? b=some o:=PySem.W.of_hideAll (rM h H) e
 refine ⟨a,?_⟩
 cases q:H b with
 | none=>rfl
 | some x=>
  have c:b∈rM h H:=X9.mpr ⟨WT.mpr (Vu a),by simp [q]⟩
  have z:(jH h H).get? b=none:=PySem.W.hideAll_none (rM h H) c
  rw [z] at e;cases e
noncomputable def rN (g h:Wj)(L:Addr):List (Addr×WY):=(Wc h.objs.size).filterMap fun a=>if a=L\/(g.get? a).isSome=true then none else (h.get? a).map fun o=>(a,o)
theorem vF {g h:Wj}{L a:Addr}{o:WY}(h1:a≠L)(c:g.get? a=none)(b:h.get? a=some o):(a,o)∈rN g h L:=
 YL.mpr ⟨a,WT.mpr (Vu b),by simp [h1,c,b]⟩
theorem Hk {g h:Wj}{L:Addr}{p:Addr×WY}(c:p∈rN g h L):p.1≠L/\g.get? p.1=none/\h.get? p.1=some p.2:=by
 obtain ⟨b,_,e⟩:=YL.mp c
 split at e
 ·cases e
 ·rename_i a
  cases q:h.get? b with
  | none=>rw [q] at e;simp at e
  | some u=>
   rw [q] at e
   simp only [VT,a5U] at e
   subst e
   refine ⟨fun z=>a (.inl z),?_,q⟩
   show g.get? b=none
   cases r:g.get? b with
   | none=>rfl
   | some v=>exact (a (.inr (by simp [r]))).elim
noncomputable def rest (g h:Wj)(L d:Addr):List (Addr×WY):=(rN g h L).filter fun p=>decide (p.1≠d)
theorem Hl {g h:Wj}{L:Addr}:News g L h (rN g h L):=fun p d=>let ⟨a,b,c⟩:=Hk d;⟨c,a,b⟩
end L2
namespace L2
open PySem PySem.Spec PyProof.Rows
structure Mod (K:Vk)(mg:Str->Option Value)(base:Wj):Prop where
 kin:K.In base
 glob:base.Ns Wh mg
 blt:∃ mb,base.Ns a4z mb/\∀ x:Str,x ≠ "__name__"->mb x=W3 x
 nolimit:base.NoLimit
structure Cx where
 prog:VQ
 w:V6
 K:Vk
 mg:Str->Option Value
 base:Wj
 A:VU
 N:List Str
 s₀:Vp
 H₀:Hp
 env:Z7
 outer:List Z7
 stack:List Z7
 ex:List Addr
 fn:Str->Bool
 calm:Bool
 pn:List (Addr×WY)
 xe:Value->Vp->Prop
noncomputable def dJ (l:List Z7):List Addr:=l.filterMap (·.frame)
noncomputable abbrev Cx.fs (X:Cx):List Addr:=dJ X.outer
noncomputable def pK (a:X1)(x:Str):Prop:=a.names.lookup x=some .local\/a.names.lookup x=some .cell\/a.names.lookup x=some .free
noncomputable def Loc (a:X1)(x:Str):Prop:=a.names.lookup x=some .local\/a.names.lookup x=some .cell
noncomputable def Hn (env:Z7)(h:Wj)(m:Str->Option Value)(x:Str)(u:Value):Prop:=
 (env.kindOf x=some .local/\m x=some u)\/((env.kindOf x=some .cell\/env.kindOf x=some .free)/\∃ c,env.cells.lookup x=some c/\h.IsCell c (some u))
structure Cx.Ok (X:Cx):Prop where
 mod:Mod X.K X.mg X.base
 kind:X.env.scope.kind=.function
 glob:X.env.globals=Wh
 blt:X.env.builtins=a4z
 above:X.s₀.heap.objs.size<=X.env.locals
 inj:∀ x y c,X.env.cells.lookup x=some c->X.env.cells.lookup y=some c->x=y
 has:∀ x,(X.env.kindOf x=some .cell\/X.env.kindOf x=some .free)->∃ c,X.env.cells.lookup x=some c
 cab:∀ x c,X.fn x=true->X.env.cells.lookup x=some c->X.s₀.heap.objs.size<=c
 hd:X.calm=true->X.A.handled=none
 frames:X.A.frames=some X.stack
 stk:X.stack=X.outer\/(X.stack=X.env::X.outer/\X.env.frame=some X.env.locals)
 exf:∀ b∈X.ex,b≠X.env.locals/\∀ x c,X.env.cells.lookup x=some c->c≠b
 bs:∀ b o,X.base.get? b=some o->X.s₀.heap.get? b=some o/\X.H₀ b=none
 bsz:X.base.objs.size<=X.s₀.heap.objs.size
 noex:∀ b o,X.base.get? b=some o->b∉X.ex
 exfs:∀ b∈X.ex,b∉X.fs
 funs:X.s₀.heap.FunFrames X.base X.outer
 frf:∀ b∈X.fs,X.H₀ b=none
structure Inv (X:Cx)(a5X:List (Addr×WY))(σ:List (Option V))(H:Hp)(s:Vp):Prop where
 ok:X.Ok
 os:s.os=X.s₀.os
 bare:Z8 s.gens
 base:Un X.fs X.ex X.H₀ H X.s₀.heap s.heap
 loc:∃ m,s.heap.Ns X.env.locals m/\∀ (i:Nat)(x:Str)(v:V),X.N[i]? = some x->σ[i]? = some (some v)->pK X.env.scope x->∃ u,RelV v u/\Hn X.env s.heap m x u
 cell:∀ x c,X.env.cells.lookup x=some c->∃ v,s.heap.IsCell c v
 free:H X.env.locals=none
 freeC:∀ x c,X.env.cells.lookup x=some c->H c=none
 pin:∀ p∈X.pn++a5X,s.heap.get? p.1=some p.2/\H p.1=none/\p.1≠X.env.locals/\p.1∉X.fs/\∀ v,p.2.data≠.cell v
 hok:HOk X.prog X.w H s.heap
 len:σ.length=X.N.length
section
variable {X:Cx}{a5X:List (Addr×WY)}{σ:List (Option V)}{H H':Hp}{s:Vp}{h':Wj}
theorem Cx.Ok.nofr (ok:X.Ok){b:Addr}{o:WY}(e:X.base.get? b=some o):b∉X.fs:=fun a=>by
 have:=(ok.funs.mem a).1
 rw [e] at this;cases this
theorem Inv.bs (I:Inv X a5X σ H s):∀ b o,X.base.get? b=some o->s.heap.get? b=some o/\H b=none:=fun b o e=>
 ⟨I.base.keep b o (I.ok.bs b o e).1 (I.ok.bs b o e).2 (I.ok.nofr e) (I.ok.noex b o e),I.base.free b o (I.ok.bs b o e).1 (I.ok.bs b o e).2 (I.ok.noex b o e)⟩
theorem Inv.bk (I:Inv X a5X σ H s):∀ b o,X.base.get? b=some o->s.heap.get? b=some o:=fun b o e=>(I.bs b o e).1
theorem Inv.mod (I:Inv X a5X σ H s):Mod X.K X.mg X.base:=I.ok.mod
theorem Inv.kIn (I:Inv X a5X σ H s):X.K.In s.heap:=I.ok.mod.kin.keeps I.bk
theorem Inv.nolimit (I:Inv X a5X σ H s):s.heap.NoLimit:=I.ok.mod.nolimit.keeps I.bk
theorem Inv.fr (I:Inv X a5X σ H s):∃ m,Fr X.base X.env.locals s.heap m:=
 let ⟨m,a,_⟩:=I.loc
 ⟨m,a,I.bk,Wu I.ok.bsz I.ok.above⟩
theorem Inv.lt (I:Inv X a5X σ H s):X.env.locals<s.heap.objs.size:=let ⟨_,a,_⟩:=I.loc;a.lt
theorem Inv.sz (I:Inv X a5X σ H s):X.s₀.heap.objs.size<=s.heap.objs.size:=Wu I.ok.above (Y1 I.lt)
theorem Inv.nofs (I:Inv X a5X σ H s){a:Addr}(h:s.heap.objs.size<=a):a∉X.fs:=fun b=>by
 obtain ⟨_,o,c,_⟩:=I.ok.funs.mem b
 exact absurd (VL (Vu c) (Wu I.sz h)) (Xz _)
theorem Inv.cne (I:Inv X a5X σ H s):∀ x c,X.env.cells.lookup x=some c->c≠X.env.locals:=fun x c e z=>by
 obtain ⟨v,o,d,hd⟩:=I.cell x c e
 obtain ⟨m,⟨j,i,h,b,a,_⟩,_⟩:=I.loc
 rw [z,b] at d;cases d;rw [a] at hd;cases hd
theorem Inv.funs (I:Inv X a5X σ H s):s.heap.FunFrames X.base X.outer:=by
 have all:∀ (l:List Z7),(∀ b∈dJ l,b∈X.fs)->X.s₀.heap.FunFrames X.base l->s.heap.FunFrames X.base l:=by
  intro l
  induction l with
  | nil=>intro _ _;trivial
  | cons i r u=>
   intro h m
   obtain ⟨j,⟨L,o,d,n,p,hd⟩,q⟩:=m
   have a:L∈X.fs:=h L (by unfold dJ;rw [Xv,d];exact VO)
   obtain ⟨v,e⟩:=I.base.slot L o p (I.ok.frf L a) a fun z=>I.ok.exfs L z a
   exact ⟨j,⟨L,_,d,n,e,hd⟩,u (fun b c=>h b (by unfold dJ;rw [Xv,d];exact VI _ c)) q⟩
 exact all X.outer (fun _ c=>c) I.ok.funs
theorem Inv.stack (I:Inv X a5X σ H s):s.heap.FunFrames X.base X.stack:=by
 rcases I.ok.stk with e|⟨e,a⟩
 ·rw [e];exact I.funs
 ·rw [e]
  obtain ⟨m,b,_⟩:=I.loc
  refine .cons (by rw [I.ok.kind];decide) a b ?_ I.funs
  exact Zi (Wu I.ok.bsz I.ok.above)
theorem Inv.stkSub (I:Inv X a5X σ H s):∀ b∈dJ X.stack,b∈X.env.locals::X.fs:=fun b a=>by
 rcases I.ok.stk with e|⟨e,c⟩
 ·rw [e] at a;exact VI _ a
 ·rw [e] at a
  unfold dJ at a
  rw [Xv,c] at a
  exact a
theorem Inv.stkFree (I:Inv X a5X σ H s):∀ b∈dJ X.stack,H b=none:=fun b a=>by
 rcases VP.mp (I.stkSub b a) with e|a
 ·rw [e];exact I.free
 ·obtain ⟨_,o,c,_⟩:=I.ok.funs.mem a
  exact I.base.free b o c (I.ok.frf b a) fun z=>I.ok.exfs b z a
theorem Inv.step {g':Array a4g}{t':Nat}{d':Drawn}{ch:List Addr}(I:Inv X a5X σ H s)
  (j:∀ b∈ch,(b∈X.ex\/X.s₀.heap.objs.size<=b)/\b≠X.env.locals/\(∀ x c,X.env.cells.lookup x=some c->c≠b)/\∀ p∈X.pn++a5X,p.1≠b)
  (w:∀ b o,b≠X.env.locals->b∉X.fs->b∉ch->s.heap.get? b=some o->H b=none->h'.get? b=some o)
  (slot:∀ b o,b≠X.env.locals->b∈X.fs->b∉ch->s.heap.get? b=some o->H b=none->∃ U,h'.get? b=some { o with slots:=U })(free:∀ b o,b∉ch->s.heap.get? b=some o->H b=none->H' b=none)
  (J:∀ b o,b∉ch->s.heap.get? b=some o->∃ O,h'.get? b=some O)
  (R:∀ b E,H b=some (.tup E)->H' b=some (.tup E))(M:∀ b o u,H b=some (.frz o u)->H' b=some (.frz o u))(Q:∀ b T,H b=some (.tbl T)->∃ more,H' b=some (.tbl (T++more)))
  (ns:∀ m,s.heap.Ns X.env.locals m->h'.Ns X.env.locals m)(hok:HOk X.prog X.w H' h')(hg:Z8 g') :
  Inv X a5X σ H' { s with heap:=h',gens:=g',drawn:=d',toks:=t' }:=by
 have N:∀ b o,X.s₀.heap.get? b=some o->b≠X.env.locals:=fun b o e=>VB (VL (Vu e) I.ok.above)
 have B:∀ b o,X.s₀.heap.get? b=some o->b∉X.ex->b∉ch:=fun b o e a G=>by
  rcases (j b G).1 with z|z
  ·exact a z
  ·exact absurd (VL (Vu e) z) (Xz _)
 have h:∀ x c,X.env.cells.lookup x=some c->∀ v,s.heap.IsCell c v->h'.IsCell c v:=fun x c e v ⟨o,K,hd⟩=>by
  have y:c∉ch:=fun z=>(j c z).2.2.1 x c e rfl
  by_cases hc:c∈X.fs
  ·obtain ⟨U,q⟩:=slot c o (I.cne x c e) hc y K (I.freeC x c e)
   exact ⟨_,q,hd⟩
  ·exact ⟨o,w c o (I.cne x c e) hc y K (I.freeC x c e),hd⟩
 refine ⟨I.ok,I.os,hg,⟨fun b o e n G a=>?_,fun b o e n G a=>?_,fun b o e n a=>?_,fun b o e a=>?_,fun b E e=>R b E (I.base.tups b E e),fun b o E e=>M b o E (I.base.frzs b o E e),fun b T e=>?_⟩,?_,fun x c e=>?_,?_,fun x c e=>?_,fun p Z=>?_,hok,I.len⟩
 ·exact w b o (N b o e) G (B b o e a) (I.base.keep b o e n G a) (I.base.free b o e n a)
 ·obtain ⟨U,A⟩:=I.base.slot b o e n G a
  obtain ⟨Y,L⟩:=slot b _ (N b o e) G (B b o e a) A (I.base.free b o e n a)
  exact ⟨Y,L⟩
 ·obtain ⟨O,A⟩:=I.base.there b o e a
  exact free b O (B b o e a) A (I.base.free b o e n a)
 ·obtain ⟨O,A⟩:=I.base.there b o e a
  exact J b O (B b o e a) A
 ·obtain ⟨m1,A⟩:=I.base.tbls b T e
  obtain ⟨m2,L⟩:=Q b _ A
  exact ⟨m1++m2,by rw [L,a3a]⟩
 ·obtain ⟨m,hn,hl⟩:=I.loc
  refine ⟨m,ns m hn,fun i x v A L e3=>?_⟩
  obtain ⟨u,r,l⟩:=hl i x v A L e3
  refine ⟨u,r,?_⟩
  rcases l with l|⟨k,c,e,z⟩
  ·exact .inl l
  ·exact .inr ⟨k,c,e,h x c e _ z⟩
 ·obtain ⟨v,z⟩:=I.cell x c e
  exact ⟨v,h x c e v z⟩
 ·obtain ⟨m,⟨o,_,_,K,_⟩,_⟩:=I.loc
  exact free _ o (fun z=>(j _ z).2.1 rfl) K I.free
 ·obtain ⟨v,o,K,hd⟩:=I.cell x c e
  exact free c o (fun z=>(j c z).2.2.1 x c e rfl) K (I.freeC x c e)
 ·obtain ⟨e,n,ne,nf,d⟩:=I.pin p Z
  have y:p.1∉ch:=fun z=>(j p.1 z).2.2.2 p Z rfl
  exact ⟨w p.1 p.2 ne nf y e n,free p.1 p.2 y e n,ne,nf,d⟩
theorem Inv.un {t':Nat}(I:Inv X a5X σ H s)(u:Un X.fs [] H H' s.heap h')(hok:HOk X.prog X.w H' h'):Inv X a5X σ H' { s with heap:=h',toks:=t' }:=by
 obtain ⟨m,⟨o,v,q,i,r⟩,_⟩:=id I.loc
 obtain ⟨y,j⟩:=u.any i I.free (by simp)
 exact I.step (g':=s.gens) (d':=s.drawn) (ch:=[]) (fun _ z=>nomatch z) (fun b o _ h _ e n=>u.keep b o e n h (by simp)) (fun b o _ h _ e n=>u.slot b o e n h (by simp)) (fun b o _ e n=>u.free b o e n (by simp)) (fun b o _ e=>u.there b o e (by simp)) u.tups u.frzs u.tbls (fun w l=>by
  obtain ⟨x,d,c,a,p⟩:=l
  rw [i] at a;cases a
  exact ⟨_,d,c,j,p⟩) hok I.bare
theorem Inv.call {g':Array a4g}{t':Nat}{d':Drawn}{ch:List Addr}(I:Inv X a5X σ H s)(u:Un (dJ X.stack) ch H H' s.heap h')(hok:HOk X.prog X.w H' h')(v:Z8 g')
  (a:∀ b∈ch,(b∈X.ex\/X.s₀.heap.objs.size<=b)/\b≠X.env.locals/\(∀ x c,X.env.cells.lookup x=some c->c≠b)/\∀ p∈X.pn++a5X,p.1≠b) :
  Inv X a5X σ H' { s with heap:=h',gens:=g',drawn:=d',toks:=t' }:=by
 obtain ⟨m,⟨o,B,A,l,r⟩,_⟩:=id I.loc
 obtain ⟨J,j⟩:=u.any l I.free fun z=>(a _ z).2.1 rfl
 exact I.step (ch:=ch) a (fun b o j q hc e n=>u.keep b o e n (fun z=>(VP.mp (I.stkSub b z)).elim j q) hc) (fun b o _ _ hc e n=>u.any e n hc) (fun b o hc e n=>u.free b o e n hc) (fun b o hc e=>u.there b o e hc) u.tups u.frzs u.tbls (fun E w=>by
  obtain ⟨G,i,h,d,y⟩:=w
  rw [l] at d;cases d
  exact ⟨_,i,h,j,y⟩) hok v
theorem Inv.turned {t':Nat}{a:Addr}(I:Inv X a5X σ H s)(k:∀ b o,b≠a->s.heap.get? b=some o->h'.get? b=some o)(B:H a=none)(h:a≠X.env.locals)
  (h1:a∈X.ex\/X.s₀.heap.objs.size<=a)(l:∀ x c,X.env.cells.lookup x=some c->c≠a)(w:∀ p∈X.pn++a5X,p.1≠a):Inv X a5X σ H { s with heap:=h',toks:=t' }:=by
 have d:∀ b u,H b=some u->b≠a:=fun b u e z=>by rw [z,B] at e;cases e
 refine I.step (g':=s.gens) (d':=s.drawn) (ch:=[a]) (fun b y=>?_) (fun b o _ _ hc e _=>k b o (fun z=>hc (by simp [z])) e) (fun b o _ _ hc e _=>⟨o.slots,k b o (fun z=>hc (by simp [z])) e⟩) (fun _ _ _ _ n=>n)
  (fun b o hc e=>⟨o,k b o (fun z=>hc (by simp [z])) e⟩) (fun _ _ e=>e) (fun _ _ _ e=>e) (fun b G e=>⟨#[],by rw [e];simp⟩) (fun m A=>?_) (fun b u e=>?_) I.bare
 ·have e:b=a:=by simpa using y
  subst e
  exact ⟨h1,h,l,w⟩
 ·obtain ⟨o,j,i,E,r⟩:=A
  exact ⟨o,j,i,k _ o (WB h) E,r⟩
 ·refine (I.hok b u e).stay (fun c v hc q=>k c v ?_ q) (fun _ q=>q) fun _ _ q=>q
  rcases hc with z|z
  ·rw [z];exact d b u e
  ·exact d c _ z
theorem Inv.tok (I:Inv X a5X σ H s)(t:Nat):Inv X a5X σ H { s with toks:=t }:=I.un (h':=s.heap) (t':=t) Un.refl I.hok
theorem Inv.kept {t':Nat}(I:Inv X a5X σ H s)(k:∀ b u,s.heap.get? b=some u->h'.get? b=some u):Inv X a5X σ H { s with heap:=h',toks:=t' }:=I.un (Un.kept k) (I.hok.kept k)
theorem Inv.laid {a:Addr}{o:HO}{t':Nat}(I:Inv X a5X σ H s)(k:∀ b u,s.heap.get? b=some u->h'.get? b=some u)(c:s.heap.objs.size<=a)(new:ObjOk X.prog X.w (aK H a o) h' a o) :
  Inv X a5X σ (aK H a o) { s with heap:=h',toks:=t' }:=I.un (Un.laid k c (I.hok.fresh c)) (I.hok.laid k c new)
theorem Inv.write {x e:Addr}{o:HO}{t':Nat}(I:Inv X a5X σ H s)(d:pJ (H x))(c:e=x\/H e=some (.own x))(k:∀ b u,b≠e->s.heap.get? b=some u->h'.get? b=some u)(a:∃ u,h'.get? e=some u)
  (new:ObjOk X.prog X.w (aK H x o) h' x o):Inv X a5X σ (aK H x o) { s with heap:=h',toks:=t' }:=I.un (Un.write d c k a) (I.hok.write d c k a new)
theorem Inv.pins_of {a:List (Addr×WY)}(I:Inv X a5X σ H s)(h:∀ p∈a,s.heap.get? p.1=some p.2/\H p.1=none/\p.1≠X.env.locals/\p.1∉X.fs/\∀ v,p.2.data≠.cell v):Inv X a σ H s:=
 ⟨I.ok,I.os,I.bare,I.base,I.loc,I.cell,I.free,I.freeC,fun p b=>(WU.mp b).elim (fun z=>I.pin p (a2R _ z)) (h p),I.hok,I.len⟩
theorem vG {N:List Str}(e:N.Nodup){i j:Nat}{x:Str}(a:N[i]? = some x)(b:N[j]? = some x):i=j:=by
 obtain ⟨h,c⟩:=Vx.mp a
 obtain ⟨l,d⟩:=Vx.mp b
 exact (List.getElem_inj e).mp (c.trans d.symm)
theorem rO {M:a1G}{A:VU}{E:Value->Vp->Prop}{i:Nat}{x:Str}{v:V}{u:Value}{Q:Unit->Vp->Prop}(I:Inv X a5X σ H s)(hN:X.N.Nodup)(hi:X.N[i]? = some x)(G:Loc X.env.scope x)(r:RelV v u)
  (h:∀ s',Inv X a5X (σ.set i (some v)) H s'->(∃ a,YA a s.heap s'.heap/\(a=X.env.locals\/X.env.cells.lookup x=some a))->Q () s')(hf:X.fn x=true\/X.env.scope.names.lookup x=some .local:=by first|exact .inl rfl|exact .inr rfl|assumption):VD M A (storeName X.env x u) Q E s:=by
 obtain ⟨m,hn,hl⟩:=id I.loc
 have Z:(X.env.scope.kind == .class||(X.env.scope.kind == .module&&X.env.locals != X.env.globals))=false:=by rw [I.ok.kind];rfl
 have L:i<σ.length:=by rw [I.len];exact (Vx.mp hi).1
 have cne:=I.cne
 have B:∀ {a:Addr}{h':Wj},(∃ o,s.heap.get? a=some o/\H a=none)->YA a s.heap h'->HOk X.prog X.w H h':=fun {a h'} ha l b ob e=>by
  obtain ⟨_,_,J⟩:=ha
  refine (I.hok b ob e).stay (fun c w' hc q=>(l.2 c ?_).trans q) (fun _ q=>q) fun _ _ q=>q
  rintro rfl
  rcases hc with rfl|hc
  ·rw [J] at e;cases e
  ·rw [J] at hc;cases hc
 rcases G with N|N
 ·refine wpAny_storeName_local N hn (fun h' hn' l=>?_) Z
  obtain ⟨oL,_,_,hoL,_⟩:=id hn
  refine h _ ⟨I.ok,I.os,I.bare,⟨fun b o e n O G=>?_,fun b o e n O G=>?_,I.base.free,fun b o e G=>?_,I.base.tups,I.base.frzs,I.base.tbls⟩,⟨_,hn',fun j y v' w K e3=>?_⟩,fun y c e=>?_,I.free,I.freeC,fun p hp=>?_,B ⟨oL,hoL,I.free⟩ l,by simpa using I.len⟩ ⟨_,l,.inl rfl⟩
  ·exact (l.2 b (VB (VL (Vu e) I.ok.above))).trans (I.base.keep b o e n O G)
  ·obtain ⟨sl,w⟩:=I.base.slot b o e n O G
   exact ⟨sl,(l.2 b (VB (VL (Vu e) I.ok.above))).trans w⟩
  ·obtain ⟨o',w⟩:=I.base.there b o e G
   exact ⟨o',(l.2 b (VB (VL (Vu e) I.ok.above))).trans w⟩
  ·by_cases T:j=i
   ·subst T
    rw [hi] at w;cases w
    rw [Wg L] at K
    cases K
    exact ⟨u,r,.inl ⟨N,by simp⟩⟩
   ·rw [WM (WB T)] at K
    obtain ⟨u',r',q⟩:=hl j y v' w K e3
    refine ⟨u',r',?_⟩
    rcases q with ⟨k,e⟩|⟨k,c,e,z⟩
    ·refine .inl ⟨k,?_⟩
     have:y≠x:=fun e=>T (vG hN w (e ▸ hi))
     simp [this,e]
    ·exact .inr ⟨k,c,e,z.sameBut l (cne y c e)⟩
  ·obtain ⟨w',z⟩:=I.cell y c e
   exact ⟨w',z.sameBut l (cne y c e)⟩
  ·obtain ⟨e,n,ne,nf,d⟩:=I.pin p hp
   exact ⟨(l.2 p.1 ne).trans e,n,ne,nf,d⟩
 ·have R:X.fn x=true:=by
   rcases hf with z|z
   ·exact z
   ·rw [z] at N;cases N
  obtain ⟨c,hc⟩:=I.ok.has x (.inl N)
  obtain ⟨w',z⟩:=I.cell x c hc
  refine wpAny_storeName_cell I.ok.kind N hc z (fun h' U l=>?_)
  obtain ⟨oc,hoc,hocd⟩:=id z
  refine h { s with heap:=h' } ⟨I.ok,I.os,I.bare,⟨fun b o e n O G=>?_,fun b o e n O G=>?_,I.base.free,fun b o e G=>?_,I.base.tups,I.base.frzs,I.base.tbls⟩,⟨m,hn.sameBut l (WB (cne x c hc)),fun j y v' w K e3=>?_⟩,fun y c' e=>?_,I.free,I.freeC,fun p hp=>?_,B ⟨oc,hoc,I.freeC x c hc⟩ l,by simpa using I.len⟩ ⟨c,l,.inr hc⟩
  ·exact (l.2 b (VB (VL (Vu e) (I.ok.cab x c R hc)))).trans (I.base.keep b o e n O G)
  ·obtain ⟨sl,w⟩:=I.base.slot b o e n O G
   exact ⟨sl,(l.2 b (VB (VL (Vu e) (I.ok.cab x c R hc)))).trans w⟩
  ·obtain ⟨o',w⟩:=I.base.there b o e G
   exact ⟨o',(l.2 b (VB (VL (Vu e) (I.ok.cab x c R hc)))).trans w⟩
  ·by_cases T:j=i
   ·subst T
    rw [hi] at w;cases w
    rw [Wg L] at K
    cases K
    exact ⟨u,r,.inr ⟨.inl N,c,hc,U⟩⟩
   ·rw [WM (WB T)] at K
    obtain ⟨u',r',q⟩:=hl j y v' w K e3
    refine ⟨u',r',?_⟩
    rcases q with q|⟨k,c',e,z'⟩
    ·exact .inl q
    ·refine .inr ⟨k,c',e,z'.sameBut l ?_⟩
     rintro rfl
     exact T (vG hN w (I.ok.inj _ _ _ e hc ▸ hi))
  ·by_cases Y:c'=c
   ·subst Y;exact ⟨_,U⟩
   ·obtain ⟨w2,z2⟩:=I.cell y c' e
    exact ⟨w2,z2.sameBut l Y⟩
  ·obtain ⟨e,n,ne,nf,d⟩:=I.pin p hp
   refine ⟨(l.2 p.1 ?_).trans e,n,ne,nf,d⟩
   intro q
   rw [q,hoc] at e
   have q':oc=p.2:=VX e
   exact d w' (by rw [<- q'];exact hocd)
theorem AM {M:a1G}{A:VU}{E:Value->Vp->Prop}{i:Nat}{x:Str}{v:V}{u:Value}{Q:Unit->Vp->Prop}(I:Inv X a5X σ H s)(c:X.N.Nodup)(e:X.N[i]? = some x)(j:Loc X.env.scope x)(r:RelV v u)
  (h:∀ a,Inv X a5X (σ.set i (some v)) H a->Q () a)(d:X.fn x=true\/X.env.scope.names.lookup x=some .local:=by first|exact .inl rfl|exact .inr rfl|assumption):VD M A (storeName X.env x u) Q E s:=
 rO I c e j r (fun a b _=>h a b) d
theorem Inv.call' {a:Vp}{ch:List Addr}(I:Inv X a5X σ H s)(l:a.os=s.os)(u:Un (dJ X.stack) ch H H' s.heap a.heap)(hok:HOk X.prog X.w H' a.heap)(j:Z8 a.gens)
  (d:∀ b∈ch,(b∈X.ex\/X.s₀.heap.objs.size<=b)/\b≠X.env.locals/\(∀ x c,X.env.cells.lookup x=some c->c≠b)/\∀ p∈X.pn++a5X,p.1≠b):Inv X a5X σ H' a:=by
 obtain ⟨h',i,h,n,m⟩:=a
 have e:m=s.os:=l
 subst e
 exact I.call (g':=i) (t':=n) (d':=h) u hok j d
end
noncomputable abbrev XK:=Value->Option Addr->Hp->Prop
noncomputable abbrev St:=List (Option V)
noncomputable abbrev VK:=V->Hp->Prop
noncomputable abbrev TE:=St->Hp->VK->Prop
noncomputable abbrev TT:=St->Hp->(Bool->Hp->Prop)->Prop
noncomputable abbrev TA:=St->Hp->(List V->Hp->Prop)->Prop
structure Ends where
 nx:St->Hp->Prop
 rt:VK
 bk:St->Hp->Prop:=fun _ _=>False
 ct:St->Hp->Prop:=fun _ _=>False
noncomputable abbrev TS:=Ends->St->Hp->Prop
noncomputable def EP (X:Cx)(a5X:List (Addr×WY))(σ:St)(Q:VK)(u:Value)(a:Vp):Prop:=∃ v H',Inv X a5X σ H' a/\RelV v u/\Q v H'
noncomputable def TP (X:Cx)(a5X:List (Addr×WY))(σ:St)(Q:Bool->Hp->Prop)(b:Bool)(a:Vp):Prop:=∃ H',Inv X a5X σ H' a/\Q b H'
noncomputable def AP (X:Cx)(a5X:List (Addr×WY))(σ:St)(Q:List V->Hp->Prop)(us:List Value)(a:Vp):Prop:=∃ vs H',Inv X a5X σ H' a/\Vals vs us/\Q vs H'
noncomputable def SP (X:Cx)(a5X:List (Addr×WY))(D:Ends)(f:Flow)(c:Vp):Prop:=
 match f with
 | .next=>∃ a b,Inv X a5X a b c/\D.nx a b
 | .brk=>∃ a b,Inv X a5X a b c/\D.bk a b
 | .cont=>∃ a b,Inv X a5X a b c/\D.ct a b
 | .ret u=>∃ v a b,Inv X a5X a b c/\RelV v u/\D.rt v b
noncomputable def PE (X:Cx)(e:Expr)(t:TE):Prop:=
 ∀ (a5X:List (Addr×WY))(s:Vp)(σ:St)(H:Hp)(Q:VK),Inv X a5X σ H s->t σ H Q->VD (VM X.prog X.w) X.A (eval e X.env) (EP X a5X σ Q) X.xe s
noncomputable def PT (X:Cx)(e:Expr)(t:TT):Prop:=
 ∀ (a5X:List (Addr×WY))(s:Vp)(σ:St)(H:Hp)(Q:Bool->Hp->Prop),Inv X a5X σ H s->t σ H Q->VD (VM X.prog X.w) X.A (a3t e X.env (eval e X.env)) (TP X a5X σ Q) X.xe s
noncomputable def PW (X:Cx)(e:Expr)(t:TT):Prop:=
 ∀ (a:a4W Value)(a5X:List (Addr×WY))(s:Vp)(σ:St)(H:Hp)(Q:Bool->Hp->Prop),Inv X a5X σ H s->t σ H Q->VD (VM X.prog X.w) X.A (a3t e X.env a) (TP X a5X σ Q) X.xe s
theorem PW.pt {X:Cx}{e:Expr}{t:TT}(h:PW X e t):PT X e t:=h _
noncomputable def PA (X:Cx)(es:List Expr)(t:TA):Prop:=
 ∀ (pos:W4)(a5X:List (Addr×WY))(s:Vp)(σ:St)(H:Hp)(Q:List V->Hp->Prop),Inv X a5X σ H s->t σ H Q->VD (VM X.prog X.w) X.A (spliced (Yi pos (V5 es X.env))) (AP X a5X σ Q) X.xe s
noncomputable def PS (X:Cx)(st:Stmt)(t:TS):Prop:=
 ∀ (a5X:List (Addr×WY))(s:Vp)(σ:St)(H:Hp)(D:Ends),Inv X a5X σ H s->t D σ H->VD (VM X.prog X.w) X.A (exec st X.env) (SP X a5X D) X.xe s
noncomputable def PSs (X:Cx)(st:List Stmt)(t:TS):Prop:=
 ∀ (a5X:List (Addr×WY))(s:Vp)(σ:St)(H:Hp)(D:Ends),Inv X a5X σ H s->t D σ H->VD (VM X.prog X.w) X.A (execs st X.env) (SP X a5X D) X.xe s
theorem aP {c:Type}{t:a4W c}{Q b:c->Vp->Prop}{M:a1G}{A:VU}{E:Value->Vp->Prop}{s:Vp}(h:VD M A t Q E s)(d:∀ a s,Q a s->b a s):VD M A t b E s:=Wa h d fun _ _ x=>x
end L2
namespace L2
open PySem PySem.Spec PyProof.Rows
section
variable {X:Cx}
noncomputable def pL (i:Nat):TE:=fun σ H Q=>∃ v,σ[i]? = some (some v)/\Q v H
noncomputable def tC (v:V):TE:=fun _ H Q=>Q v H
theorem rP {i:Nat}{x:Str}{pos:W4}(n:X.N[i]? = some x)(w:pK X.env.scope x)(hd:(x == ("__debug__":Str))=false:=by decide) (j:(x == ("__classdict__":Str))=false:=by decide):PE X (.Name x pos) (pL i):=by
 intro d s y H Q I h
 obtain ⟨v,e,h⟩:=h
 obtain ⟨m,q,o⟩:=I.loc
 obtain ⟨u,r,l⟩:=o i x v n e w
 have fin:EP X d y Q u s:=⟨v,H,I,r,h⟩
 rcases l with ⟨b,p⟩|⟨b,c,hc,a⟩
 ·exact a4s (wpAny_loadName_local I.ok.kind b q p fin) hd
 ·rcases b with b|b
  ·exact a4s (wpAny_loadName_cell I.ok.kind b hc a fin) hd
  ·exact a4s (wpAny_loadName_free I.ok.kind b hc a fin j) hd
theorem Ho {i j pos}:PE X (.Constant (.int i) j pos) (tC (.int i)):=fun _ _ _ H _ I h=>wpAny_Constant_int ⟨.int i,H,I.tok _,⟨_,rfl⟩,h⟩
theorem Hq {b j pos}:PE X (.Constant (.bool b) j pos) (tC (.bl b)):=fun _ _ _ H _ I h=>Constant_bool ⟨.bl b,H,I,rfl,h⟩
theorem Hr {j pos}:PE X (.Constant .none j pos) (tC .non):=fun _ _ _ H _ I h=>Constant_none ⟨.non,H,I,rfl,h⟩
theorem AN {x j pos}:PE X (.Constant (.str x) j pos) (tC (.str x)):=fun _ _ _ H _ I h=>Calls.Constant_str ⟨.str x,H,I.tok _,⟨_,rfl⟩,h⟩
noncomputable def Gl (X:Cx)(x:Str):Prop:=X.env.kindOf x=some .globalImplicit
theorem lK {E:Value->Vp->Prop}{a5X:List (Addr×WY)}{s:Vp}{σ:St}{H:Hp}{x:Str}{u:Value}{pos:W4}{Q:Value->Vp->Prop}(I:Inv X a5X σ H s)(a:Gl X x)(b:X.mg x=some u)(h:Q u s)
  (hd:(x == ("__debug__":Str))=false:=by decide):VD (VM X.prog X.w) X.A (eval (.Name x pos) X.env) Q E s:=
 a1I I.ok.kind a (Calls.loadGlobal_global (by rw [I.ok.glob];exact I.mod.glob.keeps I.bk) b h) hd
theorem jI {E:Value->Vp->Prop}{a5X:List (Addr×WY)}{s:Vp}{σ:St}{H:Hp}{x:Str}{u:Value}{pos:W4}{Q:Value->Vp->Prop}(I:Inv X a5X σ H s)(c:Gl X x)(d:X.mg x=none)(i:W3 x=some u)(h:Q u s)
  (e:x ≠ "__name__":=by decide) (hd:(x == ("__debug__":Str))=false:=by decide):VD (VM X.prog X.w) X.A (eval (.Name x pos) X.env) Q E s:=by
 obtain ⟨j,a,b⟩:=I.mod.blt
 exact a1I I.ok.kind c (Calls.loadGlobal_builtin (by rw [I.ok.glob];exact I.mod.glob.keeps I.bk) d (by rw [I.ok.blt];exact a.keeps I.bk) ((b x e).trans i) h) hd
theorem Hs {x:Str}{v:V}{u:Value}{pos:W4}(a:Gl X x)(b:X.mg x=some u)(r:RelV v u)(hd:(x == ("__debug__":Str))=false:=by decide):PE X (.Name x pos) (tC v):=
 fun _ _ _ H _ I h=>lK I a b ⟨v,H,I,r,h⟩ hd
theorem Ht {x:Str}{v:V}{u:Value}{pos:W4}(a:Gl X x)(b:X.mg x=none)(d:W3 x=some u)(r:RelV v u)(c:x ≠ "__name__":=by decide) (hd:(x == ("__debug__":Str))=false:=by decide):PE X (.Name x pos) (tC v):=
 fun _ _ _ H _ I h=>jI I a b d ⟨v,H,I,r,h⟩ c hd
variable {a b:Expr}{ta tb:TE}{pos:W4}
variable {tA tB':TT}{rest:List Expr}
noncomputable def Hu (t u:TT):TT:=fun σ H Q=>t σ H fun c d=>if c=true then u σ d Q else Q false d
noncomputable def Hv (t u:TT):TT:=fun σ H Q=>t σ H fun c d=>if c=true then Q true d else u σ d Q
noncomputable def Hw (t:TT):TT:=fun σ H Q=>t σ H fun c d=>Q (!c) d
theorem Hx (i:PT X a tA):PW X (.BoolOp .And [a] pos) tA:=by
 intro m d s j H Q I h
 refine isTrue_and (aP (i d s j H Q I h) fun c l e=>?_)
 cases c with
 | true=>exact isTrue_and_nil e
 | false=>exact e
theorem Hy (i:PT X a tA):PW X (.BoolOp .Or [a] pos) tA:=by
 intro m d s j H Q I h
 refine isTrue_or (aP (i d s j H Q I h) fun c l e=>?_)
 cases c with
 | false=>exact isTrue_or_nil e
 | true=>exact e
theorem Hz (m:PT X a tA)(n:PW X (.BoolOp .And (b::rest) pos) tB'):PW X (.BoolOp .And (a::b::rest) pos) (Hu tA tB'):=by
 intro p d s l H Q I h
 refine isTrue_and (aP (m d s l H _ I h) fun c o ⟨e,i,j⟩=>?_)
 cases c with
 | true=>exact n p d o l e Q i j
 | false=>exact ⟨e,i,j⟩
theorem HA (m:PT X a tA)(n:PW X (.BoolOp .Or (b::rest) pos) tB'):PW X (.BoolOp .Or (a::b::rest) pos) (Hv tA tB'):=by
 intro p d s l H Q I h
 refine isTrue_or (aP (m d s l H _ I h) fun c o ⟨e,i,j⟩=>?_)
 cases c with
 | true=>exact ⟨e,i,j⟩
 | false=>exact n p d o l e Q i j
theorem HB (i:PT X a tA):PT X (.UnaryOp .Not a pos) (Hw tA):=by
 intro d s j H Q I h
 exact isTrue_not (i d s j H (fun c e=>Q (!c) e) I h)
noncomputable def HC (ta tb:TE):TE:=fun σ H Q=>ta σ H fun x d=>∃ c,x=.bl c/\if c=true then tb σ d Q else Q (.bl false) d
noncomputable def HD (ta tb:TE):TE:=fun σ H Q=>ta σ H fun x d=>∃ c,x=.bl c/\if c=true then Q (.bl true) d else tb σ d Q
noncomputable def HE (ta:TE):TE:=fun σ H Q=>ta σ H fun x d=>∃ c,x=.bl c/\Q (.bl (!c)) d
theorem HF {op} {t:TE}(h:PE X a t):PE X (.BoolOp op [a] pos) t:=fun a5X s σ H Q I hw=>BoolOp_one (h a5X s σ H Q I hw)
theorem HG (m:PE X a ta)(n:PE X (.BoolOp .And (b::rest) pos) tb):PE X (.BoolOp .And (a::b::rest) pos) (HC ta tb):=by
 intro d s l H Q I h
 refine BoolOp_and (aP (m d s l H _ I h) fun v p ⟨x,i,j,o,e⟩=>?_)
 obtain ⟨c,rfl,e⟩:=e
 cases o
 refine Xi ?_
 cases c with
 | true=>exact n d p l i Q j e
 | false=>exact ⟨.bl false,i,j,rfl,e⟩
theorem HH (m:PE X a ta)(n:PE X (.BoolOp .Or (b::rest) pos) tb):PE X (.BoolOp .Or (a::b::rest) pos) (HD ta tb):=by
 intro d s l H Q I h
 refine BoolOp_or (aP (m d s l H _ I h) fun v p ⟨x,i,j,o,e⟩=>?_)
 obtain ⟨c,rfl,e⟩:=e
 cases o
 refine Xi ?_
 cases c with
 | false=>exact n d p l i Q j e
 | true=>exact ⟨.bl true,i,j,rfl,e⟩
theorem HI (l:PE X a ta):PE X (.UnaryOp .Not a pos) (HE ta):=by
 intro d s n H Q I h
 refine UnaryOp_ (aP (l d s n H _ I h) fun v o ⟨x,i,j,m,e⟩=>?_)
 obtain ⟨c,rfl,e⟩:=e
 cases m
 exact not_of (Xi ⟨.bl (!c),i,j,rfl,e⟩)
noncomputable def HJ (t:TT)(ta tb:TE):TE:=fun σ H Q=>t σ H fun c d=>if c=true then ta σ d Q else tb σ d Q
theorem HK {c:Expr}(hc:PT X c tA)(o:PE X a ta)(p:PE X b tb):PE X (.IfExp c a b pos) (HJ tA ta tb):=by
 intro e s i H Q I h
 refine wpAny_IfExp (aP (hc e s i H _ I h) fun d n ⟨j,l,m⟩=>?_)
 cases d with
 | true=>exact o e n i j Q l m
 | false=>exact p e n i j Q l m
end
end L2
namespace L2
open PySem PySem.Spec PyProof.Rows
noncomputable def SqL (K:Vk)(H:Hp)(a:Addr)(xs:List V):Prop:=
 Rd H a (.lst xs) \/
  ∃ (o:WY)(b:Array Value)(n:Nat),K.lookup a=some o/\o.cls=.type "list"/\o.dict=none/\o.data=.seq b n/\b.size<=VA/\Vals xs b.toList
noncomputable def SqT (K:Vk)(H:Hp)(a:Addr)(xs:List V):Prop:=
 Rd H a (.tup xs) \/
  ∃ (o:WY)(b:Array Value)(n:Nat),K.lookup a=some o/\o.cls=.type "tuple"/\o.dict=none/\o.data=.seq b n/\b.size<=VA/\Vals xs b.toList
noncomputable def HL:Value->Option V
 | .none=>some .non
 | .bool b=>some (.bl b)
 | .int i _=>some (.int i)
 | .str x _=>some (.str x)
 | .bytes b _=>some (.byt b)
 | .float b _=>some (.flt b)
 | .ref a=>some (.ref a)
 | .type n=>some (.ty n)
 | _=>none
theorem RelV.abs {x:V}{u:Value}(r:RelV x u):HL u=some x:=by
 cases x with
 | non=>cases r;rfl
 | bl _=>cases r;rfl
 | int _=>obtain ⟨t,rfl⟩:=r;rfl
 | str _=>obtain ⟨t,rfl⟩:=r;rfl
 | byt _=>obtain ⟨t,rfl⟩:=r;rfl
 | flt _=>obtain ⟨t,rfl⟩:=r;rfl
 | ref _=>cases r;rfl
 | ty _=>cases r;rfl
theorem RelV.inj {x y:V}{u:Value}(r:RelV x u)(q:RelV y u):x=y:=VX (r.abs.symm.trans q.abs)
theorem Vals.inj:∀ {xs a:List V}{us:List Value},Vals xs us->Vals a us->xs=a
 | _,_,_,.nil,.nil=>rfl
 | _,_,_,.cons r t,.cons r' t'=>by rw [r.inj r',Vals.inj t t']
section
variable {X:Cx}{a5X:List (Addr×WY)}{σ:St}{H:Hp}{s:Vp}{a:Addr}{xs ys:List V}
theorem SqL.of {K:Vk}(h:H a=some (.lst xs)):SqL K H a xs:=.inl (.inl h)
theorem SqT.of {K:Vk}(h:H a=some (.tup xs)):SqT K H a xs:=.inl (.inl h)
theorem Inv.list (I:Inv X a5X σ H s)(h:SqL X.K H a xs):∃ b:List Value,Vals xs b/\PlainL s.heap a b.toArray/\xs.length<=VA:=by
 rcases h with h|⟨o,b,n,c,hc,hd,d,i,r⟩
 ·obtain ⟨z,b,n,r,e⟩:=h.ok I.hok
  exact ⟨b,r,⟨_,n,e,rfl,rfl,rfl⟩,z⟩
 ·refine ⟨b.toList,r,⟨o,n,I.kIn a o c,hc,hd,by simpa using d⟩,?_⟩
  have e:=r.length
  simp only [XT] at e
  omega
theorem Inv.tuple (I:Inv X a5X σ H s)(h:SqT X.K H a xs):∃ b:List Value,Vals xs b/\Yu s.heap a b.toArray/\xs.length<=VA:=by
 rcases h with h|⟨o,b,n,c,hc,hd,d,i,r⟩
 ·obtain ⟨z,b,r,p⟩:=h.ok I.hok
  exact ⟨b,r,p.tup,z⟩
 ·refine ⟨b.toList,r,⟨o,I.kIn a o c,hc,n,by simpa using d⟩,?_⟩
  have e:=r.length
  simp only [XT] at e
  omega
theorem Inv.tupN (I:Inv X a5X σ H s)(h:SqT X.K H a xs):∃ b:List Value,Vals xs b/\TupN s.heap a b.toArray:=by
 rcases h with h|⟨o,b,n,c,hc,hd,d,e,r⟩
 ·obtain ⟨z,b,r,p⟩:=h.ok I.hok
  exact ⟨b,r,p⟩
 ·exact ⟨b.toList,r,o,I.kIn a o c,hc,n,by simpa using d,hd⟩
theorem Inv.list_inj (I:Inv X a5X σ H s)(h:SqL X.K H a xs)(h':SqL X.K H a ys):xs=ys:=by
 obtain ⟨c,r,⟨o,n,e,_,_,d⟩,_⟩:=I.list h
 obtain ⟨b,l,⟨p,m,j,_,_,i⟩,_⟩:=I.list h'
 rw [e] at j;cases j
 rw [d] at i
 injection i with d1 _
 have:c=b:=by simpa using congrArg a4D d1
 subst this
 exact r.inj l
theorem Inv.tuple_inj (I:Inv X a5X σ H s)(h:SqT X.K H a xs)(h':SqT X.K H a ys):xs=ys:=by
 obtain ⟨c,r,⟨o,e,_,n,d⟩,_⟩:=I.tuple h
 obtain ⟨b,l,⟨p,j,_,m,i⟩,_⟩:=I.tuple h'
 rw [e] at j;cases j
 rw [d] at i
 injection i with d1 _
 have:c=b:=by simpa using congrArg a4D d1
 subst this
 exact r.inj l
end
noncomputable abbrev Cx.wish (X:Cx)(E:Value->Vp->Prop):Cx:={ X with xe:=E }
noncomputable abbrev Cx.nox (X:Cx):Cx:=X.wish fun _ _=>False
theorem Cx.Ok.wish {X:Cx}(ok:X.Ok)(E:Value->Vp->Prop):(X.wish E).Ok:=
 ⟨ok.mod,ok.kind,ok.glob,ok.blt,ok.above,ok.inj,ok.has,ok.cab,ok.hd,ok.frames,ok.stk,ok.exf,ok.bs,ok.bsz,ok.noex,ok.exfs,ok.funs,ok.frf⟩
theorem Cx.Ok.unwish {X:Cx}{E:Value->Vp->Prop}(ok:(X.wish E).Ok):X.Ok:=
 ⟨ok.mod,ok.kind,ok.glob,ok.blt,ok.above,ok.inj,ok.has,ok.cab,ok.hd,ok.frames,ok.stk,ok.exf,ok.bs,ok.bsz,ok.noex,ok.exfs,ok.funs,ok.frf⟩
section
variable {X:Cx}{a5X:List (Addr×WY)}{σ:St}{H:Hp}{s:Vp}{E:Value->Vp->Prop}
theorem Inv.wish (I:Inv X a5X σ H s)(E:Value->Vp->Prop):Inv (X.wish E) a5X σ H s:=⟨I.ok.wish E,I.os,I.bare,I.base,I.loc,I.cell,I.free,I.freeC,I.pin,I.hok,I.len⟩
theorem Inv.unwish (I:Inv (X.wish E) a5X σ H s):Inv X a5X σ H s:=⟨I.ok.unwish,I.os,I.bare,I.base,I.loc,I.cell,I.free,I.freeC,I.pin,I.hok,I.len⟩
theorem SP.unwish {D:Ends}{f:Flow}{c:Vp}(h:SP (X.wish E) a5X D f c):SP X a5X D f c:=by
 cases f with
 | next=>obtain ⟨a,b,I,q⟩:=h;exact ⟨a,b,I.unwish,q⟩
 | brk=>obtain ⟨a,b,I,q⟩:=h;exact ⟨a,b,I.unwish,q⟩
 | cont=>obtain ⟨a,b,I,q⟩:=h;exact ⟨a,b,I.unwish,q⟩
 | ret u=>obtain ⟨v,a,b,I,r,q⟩:=h;exact ⟨v,a,b,I.unwish,r,q⟩
theorem PE.nox {e:Expr}{t:TE}(h:PE X.nox e t):PE X e t:=fun a5X s σ H Q I hw=>
 Wa (h a5X s σ H Q (I.wish _) hw) (fun _ _ ⟨v,a,b,r,q⟩=>⟨v,a,b.unwish,r,q⟩) fun _ _ z=>Wl z
theorem PT.nox {e:Expr}{t:TT}(h:PT X.nox e t):PT X e t:=fun a5X s σ H Q I hw=>
 Wa (h a5X s σ H Q (I.wish _) hw) (fun _ _ ⟨a,b,q⟩=>⟨a,b.unwish,q⟩) fun _ _ z=>Wl z
theorem PSs.nox {st:List Stmt}{t:TS}(h:PSs X.nox st t):PSs X st t:=fun a5X s σ H D I hw=>
 Wa (h a5X s σ H D (I.wish _) hw) (fun _ _ q=>q.unwish) fun _ _ z=>Wl z
end
section
variable {X:Cx}{st:Stmt}{rest:List Stmt}{t u:TS}{e:Expr}{te:TE}{pos:W4}
noncomputable def AO:TS:=fun D σ H=>D.nx σ H
noncomputable def HM (t u:TS):TS:=fun D σ H=>t { D with nx:=u D } σ H
theorem HN:PSs X [] AO:=fun _ _ σ H _ I h=>YV ⟨σ,H,I,h⟩
theorem HP (h1:PS X st t)(i:PSs X rest u):PSs X (st::rest) (HM t u):=by
 intro a s l H D I h
 refine Zq (aP (h1 a s l H { D with nx:=u D } I h) fun f j q=>?_)
 cases f with
 | next=>
  obtain ⟨b,c,d,q⟩:=q
  exact i a j b c D d q
 | ret v=>exact q
 | brk=>exact q
 | cont=>exact q
theorem HQ (h1:PS X st t):PSs X [st] t:=by
 intro a s b H D I h
 refine Zq (aP (h1 a s b H D I h) fun f c q=>?_)
 cases f with
 | next=>exact YV q
 | ret v=>exact q
 | brk=>exact q
 | cont=>exact q
theorem HR:PS X (.Pass pos) AO:=fun _ _ σ H _ I h=>wpAny_Pass ⟨σ,H,I,h⟩
theorem Inv.quiet {a5X:List (Addr×WY)}{σ:St}{H:Hp}{s:Vp}(I:Inv X a5X σ H s):interactive X.env=false:=by simp [interactive,I.ok.kind]
noncomputable def HS (te:TE):TS:=fun D σ H=>te σ H fun _ a=>D.nx σ a
theorem HU (i:PE X e te)(j:ZQ e none pos.line X.env=pure false:=by rfl):PS X (.Expr e pos) (HS te):=by
 intro a s b H D I h
 exact a2x (aP (i a s b H _ I h) fun v n ⟨x,c,d,m,l⟩=>⟨b,c,d,l⟩) I.quiet j
noncomputable def HV (te:TE):TS:=fun D σ H=>te σ H D.rt
theorem HW (i:PE X e te):PS X (.Return (some e) pos) (HV te):=by
 intro a s b H D I h
 exact a4H (aP (i a s b H _ I h) fun v m ⟨x,c,d,l,j⟩=>⟨x,b,c,d,l,j⟩)
noncomputable def HX:TS:=fun D _ H=>D.rt .non H
theorem HY:PS X (.Return none pos) HX:=fun _ _ σ H _ I h=>wpAny_Return_none ⟨.non,σ,H,I,rfl,h⟩
noncomputable def HZ (c:TT)(t u:TS):TS:=fun D σ H=>c σ H fun b a=>if b=true then t D σ a else u D σ a
theorem Ia {c:Expr}{a b:List Stmt}{p:TT}(hc:PT X c p)(q:PSs X a t)(r:PSs X b u):PS X (.If c a b pos) (HZ p t u):=by
 intro i s j H D I h
 refine wpAny_If (aP (hc i s j H _ I h) fun d o ⟨l,m,n⟩=>?_)
 cases d with
 | true=>exact q i o j l D m n
 | false=>exact r i o j l D m n
end
noncomputable abbrev TG:=V->St->Hp->(St->Hp->Prop)->Prop
noncomputable abbrev m3:=List V->St->Hp->(St->Hp->Prop)->Prop
noncomputable def PG (X:Cx)(a:Expr)(t:TG):Prop:=
 ∀ (a5X:List (Addr×WY))(s:Vp)(σ:St)(H:Hp)(v:V)(u:Value)(Q:St->Hp->Prop),Inv X a5X σ H s->RelV v u->t v σ H Q->
  VD (VM X.prog X.w) X.A (a1m a X.env u) (fun _ d=>∃ b c,Inv X a5X b c d/\Q b c) X.xe s
noncomputable def pM (X:Cx)(d:List Expr)(t:m3):Prop:=
 ∀ (a5X:List (Addr×WY))(s:Vp)(σ:St)(H:Hp)(vs:List V)(us:List Value)(Q:St->Hp->Prop),Inv X a5X σ H s->Vals vs us->t vs σ H Q->
  VD (VM X.prog X.w) X.A (assignInOrder ((Xx d X.env).map (·.2)) us) (fun _ c=>∃ a b,Inv X a5X a b c/\Q a b) X.xe s
noncomputable abbrev Ib:=V->V->V->Hp->(Hp->Prop)->Prop
section
variable {X:Cx}{pos:W4}
noncomputable def vH (i:Nat):TG:=fun v σ H Q=>Q (σ.set i (some v)) H
theorem AQ {i:Nat}{x:Str}(c:X.N.Nodup)(e:X.N[i]? = some x)(j:Loc X.env.scope x)(d:X.fn x=true\/X.env.scope.names.lookup x=some .local:=by first|exact .inl rfl|exact .inr rfl|assumption):PG X (.Name x pos) (vH i):=by
 intro b s m H v u Q I r h
 exact a4G (AM I c e j r (fun l a=>⟨_,H,a,h⟩) d)
noncomputable def AR:m3:=fun vs σ H Q=>vs=[]/\Q σ H
noncomputable def AS (t:TG)(u:m3):m3:=fun vs σ H Q=>∃ v r,vs=v::r/\t v σ H fun a H'=>u r a H' Q
theorem Ic:pM X [] AR:=by
 intro a s b H d c Q I r h
 obtain ⟨e,h⟩:=h
 subst e
 cases r
 exact assignInOrder_nil ⟨b,H,I,h⟩
theorem Ie {e:Expr}{es:List Expr}{t:TG}{u:m3}(h1:PG X e t)(j:pM X es u)
  (l:(Xx (e::es) X.env).map (·.2)=a1m e X.env::(Xx es X.env).map (·.2):=by rfl):pM X (e::es) (AS t u):=by
 intro a s p H x q Q I r h
 obtain ⟨v,w,i,h⟩:=h
 subst i
 cases r with
 | cons r n=>
  rw [l]
  refine assignInOrder_cons (aP (h1 a s p H _ _ _ I r h) fun _ o ⟨b,c,d,m⟩=>?_)
  exact j a o b c _ _ Q d n m
noncomputable def AU (b:TE)(g:TG):TS:=fun D σ H=>b σ H fun x a=>g x σ a D.nx
theorem Ig {tg e:Expr}{b:TE}{g:TG}(j:PE X e b)(l:PG X tg g)(m:swapsWithSole [tg] e pos.line X.env=pure false:=by rfl)(hw:a2U [tg] e X.env=pure none:=by rfl)
  (h1:(Xx [tg] X.env).map (·.2)=[a1m tg X.env]:=by rfl):PS X (.Assign [tg] e pos) (AU b g):=by
 intro a s c H D I h
 refine wpAny_Assign_stores (aP (j a s c H _ I h) fun v p ⟨x,d,i,o,n⟩=>?_) m hw
 rw [h1]
 exact aP (l a p c d x v _ i o n) fun _ r q=>q
theorem Ih {i:Nat}{x:Str}{e:Expr}{c:TE}{a:W4}(m:X.N.Nodup)(p:X.N[i]? = some x)(r:Loc X.env.scope x)(n:PE X e c)(q:ZQ e (some (.Name x a)) pos.line X.env=pure false:=by rfl)(o:X.fn x=true\/X.env.scope.names.lookup x=some .local:=by first|exact .inl rfl|exact .inr rfl|assumption) :
  PS X (.Assign [.Name x a] e pos) (AU c (vH i)):=by
 intro b s z H D I h
 refine a4I (aP (n b s z H _ I h) fun v A ⟨y,d,j,w,u⟩=>?_) q
 exact AM j m p r w (fun B l=>⟨_,d,l,u⟩) o
end
section
variable {X:Cx}{pos:W4}
noncomputable def Ii (c:TT)(i:TS):TS:=fun D σ H=>∃ W:Nat->St->Hp->Prop,(∃ m,W m σ H)/\∀ m σ H,W m σ H->
 c σ H fun b e=>if b=true then ∃ N:St->Hp->Prop,(∀ a d,N a d->∃ h,h<m/\W h a d)/\i { D with nx:=N,ct:=N,bk:=D.nx } σ e else D.nx σ e
theorem Ij {c:Expr}{body:List Stmt}{G:TT}{E:TS}(B:a1Y (VM X.prog X.w) X.A X.env X.xe)(hc:PT X c G)(K:PSs X body E):PS X (.While c body [] pos) (Ii G E):=by
 intro e s U H D I h
 obtain ⟨W,⟨L,R⟩,turn⟩:=h
 refine wpAny_While (codeAny_whileLoop (fun n M=>∃ j w,Inv X e j w M/\W n j w) ?_ L ⟨U,H,I,R⟩)
 rintro n O ⟨d,x,J,T⟩
 refine Yo B (aP (hc e O d x _ J (turn n d x T)) fun b Q ⟨y,z,l⟩=>?_)
 cases b with
 | true=>
  obtain ⟨N,A,l⟩:=l
  rw [if_pos rfl]
  refine Yo B (aP (K e Q d y _ z l) fun f Y m=>?_)
  cases f with
  | next=>
   obtain ⟨a,i,o,r⟩:=m
   obtain ⟨q,p,u⟩:=A a i r
   exact ⟨q,p,a,i,o,u⟩
  | cont=>
   obtain ⟨a,i,o,r⟩:=m
   obtain ⟨q,p,u⟩:=A a i r
   exact ⟨q,p,a,i,o,u⟩
  | brk=>exact m
  | ret v=>exact m
 | false=>
  rw [if_neg V7]
  exact YV ⟨d,y,z,l⟩
end
structure It where
 go:Nat->Hp->Prop
 yld:Nat->Hp->V->Hp->Prop
 stop:Nat->Hp->Prop
noncomputable def fH (X:Cx)(a5X:List (Addr×WY))(H:Hp)(b:Addr):Prop:=
 H b=none/\b≠X.env.locals/\b∉X.fs/\(b∈X.ex\/X.s₀.heap.objs.size<=b)/\(∀ x c,X.env.cells.lookup x=some c->c≠b)/\∀ p∈X.pn++a5X,p.1≠b
theorem Inv.fpOk {X:Cx}{a5X:List (Addr×WY)}{σ:St}{H H':Hp}{s:Vp}{b:Addr}(I:Inv X a5X σ H s)(a:s.heap.objs.size<=b)(d:H' b=none):fH X a5X H' b:=by
 refine ⟨d,W8 (VL I.lt a),I.nofs a,.inr (Wu I.sz a),fun x c e z=>?_,fun p h z=>?_⟩
 ·obtain ⟨v,q⟩:=I.cell x c e
  exact absurd (VL q.lt (by rw [z];exact a)) (Xz _)
 ·exact absurd (VL (Vu (I.pin p h).1) (by rw [z];exact a)) (Xz _)
structure Turn (P:VQ)(w:V6)(K:Vk)(tg:Expr)(J:It)(fp:List Addr)(it:Addr)(tn:Nat->Wj->Prop):Prop where
 mem:it∈fp
 obj:∀ i h,tn i h->∀ b∈fp,∃ o,h.get? b=some o/\∀ v,o.data≠.cell v
 keep:∀ i h h',tn i h->(∀ b∈fp,∀ o,h.get? b=some o->h'.get? b=some o)->tn i h'
 item:∀ (X:Cx),X.prog=P->X.w=w->X.K=K->X.calm=true->∀ (i:Nat)(a5X:List (Addr×WY))(s:Vp)(σ:St)(H:Hp)(E:Value->Vp->Prop),Inv X a5X σ H s->(∀ b∈fp,fH X a5X H b)->tn i s.heap->J.go i H->
  VD (VM P w) X.A (ZA (.ref it)) (fun r s1=>∃ u,r=some u /\
   VD (VM P w) X.A (a0u tg (.ref it) u) (fun _ s2=>∃ x H',Inv X a5X σ H' s2/\RelV x u/\J.yld i H x H'/\tn (i+1) s2.heap/\∀ b∈fp,H' b=none) E s1) E s
 done:∀ (X:Cx),X.prog=P->X.w=w->X.K=K->X.calm=true->∀ (i:Nat)(a5X:List (Addr×WY))(s:Vp)(σ:St)(H:Hp)(E:Value->Vp->Prop),Inv X a5X σ H s->(∀ b∈fp,fH X a5X H b)->tn i s.heap->J.stop i H->
  VD (VM P w) X.A (ZA (.ref it)) (fun r s1=>r=none/\Inv X a5X σ H s1) E s
 self:∀ (A:VU)(i:Nat)(s:Vp)(Q:Value->Vp->Prop)(E:Value->Vp->Prop),tn i s.heap->Q (.ref it) s->VD (VM P w) A (a2z (.ref it)) Q E s
noncomputable abbrev TI:=St->Hp->(It->Hp->Prop)->Prop
noncomputable def rQ (X:Cx)(a5X:List (Addr×WY))(σ:St)(tg:Expr)(R:It->Hp->Prop)(a:Value)(s2:Vp):Prop:=
 ∃ (d:Addr)(c:List Addr)(e:Nat->Wj->Prop)(J:It)(H':Hp),a=.ref d/\Inv X a5X σ H' s2/\Turn X.prog X.w X.K tg J c d e/\e 0 s2.heap/\(∀ b∈c,fH X a5X H' b)/\R J H'
noncomputable def PI (X:Cx)(tg iter:Expr)(b:TI):Prop:=
 ∀ (a5X:List (Addr×WY))(s:Vp)(σ:St)(H:Hp)(R:It->Hp->Prop),Inv X a5X σ H s->b σ H R->
  VD (VM X.prog X.w) X.A (eval iter X.env) (fun v a=>VD (VM X.prog X.w) X.A (a2z v) (rQ X a5X σ tg R) X.xe a) X.xe s
theorem vJ {M:a1G}{A:VU}{E:Value->Vp->Prop}{s:Vp}{tg:Expr}{b:Addr}{u:Value}{o:WY}{n:String}{vs:Array Value}{Q:Unit->Vp->Prop}(d:s.heap.get? b=some o)(hc:o.cls=.type n)(hd:o.data=.fields vs)
  (c:["enumerate","zip","dict_itemiterator","dict_reverseitemiterator","odict_iterator","itertools.zip_longest","itertools.pairwise"].contains n=false) (a:Q () s):VD M A (a0u tg (.ref b) u) Q E s:=by
 unfold a0u
 cases tg<;>first
  | exact Vr a
  | (cases u<;>first
    | exact Vr a
    | (refine Vl (a1j d ?_)
       rw [hc,hd]
       show VD M A (if (["enumerate","zip","dict_itemiterator","dict_reverseitemiterator","odict_iterator","itertools.zip_longest","itertools.pairwise"].contains n&&vs[0]? == some (XR _))=true then _ else _) Q E s
       rw [if_neg (by intro h;rw [c,a4p] at h;cases h)]
       exact Vr a))
noncomputable def vK (K:Vk)(a:Addr):It:=
 ⟨fun i H=>∃ b x,SqL K H a b/\b[i]? = some x,fun i H x c=>c=H/\∀ b,SqL K H a b->b[i]? = some x,fun i H=>∃ b,SqL K H a b/\b.length<=i⟩
noncomputable def vL (K:Vk)(a:Addr):It:=
 ⟨fun i H=>∃ b x,SqT K H a b/\b[i]? = some x,fun i H x c=>c=H/\∀ b,SqT K H a b->b[i]? = some x,fun i H=>∃ b,SqT K H a b/\b.length<=i⟩
noncomputable def pN (lo:Int)(n:Nat):It:=⟨fun i _=>i<n,fun i H x H'=>H'=H/\x=.int (lo+i),fun i _=>n<=i⟩
theorem Ik {P:VQ}{w:V6}{K:Vk}{tg:Expr}(a l:Addr):Turn P w K tg (vK K a) [l] l (fun i h=>h.IsListIter l a i) where
 mem:=by simp
 obj:=fun i h st b j=>by
  have e:b=l:=by simpa using j
  subst e
  obtain ⟨o,e,c,d⟩:=st
  exact ⟨o,e,fun v z=>by rw [d] at z;cases z⟩
 keep:=fun i h q st k=>st.at fun o e=>k l (by simp) o e
 item:=by
  intro X N hw M hc i m s U H E I r st O
  subst N hw M
  obtain ⟨xs,x,y,Q⟩:=O
  obtain ⟨R,T,p,hz⟩:=I.list y
  obtain ⟨u,hu,ru⟩:=T.get Q
  obtain ⟨A,B,f2,G,J,L⟩:=r l (by simp)
  refine a0o st p.isList (x:=u) (by simpa using hu) fun q n sb=>?_
  have Y:Inv X m U H { s with heap:=q }:=I.turned (t':=s.toks) (fun b o j e=>(sb.2 b j).trans e) A B G J L
  obtain ⟨o,e,c,d⟩:=id n
  exact ⟨u,rfl,vJ (s:={ s with heap:=q }) e c d (by decide) ⟨x,H,Y,ru,⟨rfl,fun ys hy=>by rw [I.list_inj hy y];exact Q⟩,n,fun b j=>(r b j).1⟩⟩
 done:=by
  intro X N hw M hc i m s U H E I r st O
  subst N hw M
  obtain ⟨xs,y,Q⟩:=O
  obtain ⟨R,T,p,hz⟩:=I.list y
  obtain ⟨A,B,f2,G,J,L⟩:=r l (by simp)
  have hl:=T.length
  exact a0x (I.ok.hd hc) st p.isList (by simp;omega) fun q Z=>⟨rfl,I.turned (t':=s.toks) (fun b o j e=>Z b o j e) A B G J L⟩
 self:=fun _ _ _ _ _ st h=>wpAny_pyIter_listiter st h
theorem Il {P:VQ}{w:V6}{K:Vk}{tg:Expr}(a l:Addr):Turn P w K tg (vL K a) [l] l (fun i h=>h.IsTupleIter l a i) where
 mem:=by simp
 obj:=fun i h st b j=>by
  have e:b=l:=by simpa using j
  subst e
  obtain ⟨o,e,c,d⟩:=st
  exact ⟨o,e,fun v z=>by rw [d] at z;cases z⟩
 keep:=fun i h r st k=>st.at fun o e=>k l (by simp) o e
 item:=by
  intro X O hw N hc i n s U H E I y st Q
  subst O hw N
  obtain ⟨xs,x,A,R⟩:=Q
  obtain ⟨m,T,p,hz⟩:=I.tuple A
  obtain ⟨u,hu,ru⟩:=T.get R
  obtain ⟨B,G,f2,J,L,M⟩:=y l (by simp)
  refine a3b st (show s.heap.IsTuple a m.toArray from p) (x:=u) (by simpa using hu) fun r q sb=>?_
  have Y:Inv X n U H { s with heap:=r }:=I.turned (t':=s.toks) (fun b o j e=>(sb.2 b j).trans e) B G J L M
  obtain ⟨o,e,c,d⟩:=id q
  exact ⟨u,rfl,vJ (s:={ s with heap:=r }) e c d (by decide) ⟨x,H,Y,ru,⟨rfl,fun ys hy=>by rw [I.tuple_inj hy A];exact R⟩,q,fun b j=>(y b j).1⟩⟩
 done:=by
  intro X O hw N hc i n s U H E I y st Q
  subst O hw N
  obtain ⟨xs,A,R⟩:=Q
  obtain ⟨m,T,p,hz⟩:=I.tuple A
  obtain ⟨B,G,f2,J,L,M⟩:=y l (by simp)
  have hl:=T.length
  exact a3p (I.ok.hd hc) st (show s.heap.IsTuple a m.toArray from p) (by simp;omega) fun r Z=>⟨rfl,I.turned (t':=s.toks) (fun b o j e=>Z b o j e) B G J L M⟩
 self:=fun _ _ _ _ _ st h=>wpAny_pyIter_tupleiter st h
theorem Im {P:VQ}{w:V6}{K:Vk}{tg:Expr}(a:Addr)(lo:Int)(n:Nat):Turn P w K tg (pN lo n) [a] a (fun i h=>IsRangeIter h a (lo+(i:Nat) * 1) ((n:Int) - (i:Nat)) 1) where
 mem:=by simp
 obj:=fun i h st b c=>by
  have e:b=a:=by simpa using c
  subst e
  exact ⟨_,st,fun v z=>by
   have R:ZO _=a1f v:=z
   cases R⟩
 keep:=fun i h l st k=>k a (by simp) _ st
 item:=by
  intro X A hw y hc i d s J H E I m st B
  subst A hw y
  obtain ⟨p,q,N,r,u,x⟩:=m a (by simp)
  have W:=Walks.range (prog:=X.prog) (w:=X.w) (I.ok.hd hc) a lo 1 n
  refine W.item i s _ _ B st fun v l G O j Q=>?_
  obtain ⟨t,rfl⟩:=O
  have L:Inv X d J H { s with heap:=l,toks:=G }:=I.turned (fun b o c e=>Q b o (by simpa using c) e) p q r u x
  refine ⟨_,rfl,vJ (s:={ s with heap:=l,toks:=G }) (n:="range_iterator") j rfl rfl (by decide) ⟨.int (lo+i),H,L,⟨t,?_⟩,⟨rfl,rfl⟩,j,fun b c=>(m b c).1⟩⟩
  rw [Int.mul_one]
 done:=by
  intro X A hw y hc i d s J H E I m st B
  subst A hw y
  obtain ⟨p,q,N,r,u,x⟩:=m a (by simp)
  exact wpAny_pyNext_range_end (I.ok.hd hc) st (by have:n<=i:=B;omega) fun l M=>⟨rfl,I.turned (t':=s.toks) (fun b o c e=>M b o c e) p q r u x⟩
 self:=fun _ _ _ _ _ st h=>wpAny_pyIter_rangeiter st h
end L2
namespace L2
open PySem PySem.Spec PyProof.Rows
section
variable {X:Cx}{tg:Expr}
theorem AV {a5X:List (Addr×WY)}{σ:St}{H:Hp}{s:Vp}{R:It->Hp->Prop}{E:Value->Vp->Prop}{lo a:Int}{t u v:a4V}{tk:Nat}(I:Inv X a5X σ H s)(h1:-(2 ^ 62)<=lo)(i:lo<2 ^ 62)(j:-(2 ^ 62)<=a)(l:a<2 ^ 62)
  (q:R (pN lo (a - lo).toNat) H):VD (VM X.prog X.w) X.A (a2z (.ref s.heap.objs.size)) (rQ X a5X σ tg R) E { s with heap:=s.heap.push { cls:=.type "range",data:=.fields #[.int lo t,.int a u,.int 1 v] },toks:=tk }:=by
 refine wpAny_pyIter_range (IsRange.new ..) (small_one h1 i j l) ?_
 have c:Inv X a5X σ H { s with heap:=s.heap.push { cls:=.type "range",data:=.fields #[.int lo t,.int a u,.int 1 v] },toks:=tk }:=I.kept fun b o e=>Vo _ e
 refine ⟨(s.heap.push { cls:=.type "range",data:=.fields #[.int lo t,.int a u,.int 1 v] }).objs.size,[(s.heap.push { cls:=.type "range",data:=.fields #[.int lo t,.int a u,.int 1 v] }).objs.size],_,_,H,rfl,
  c.kept (t':=tk) fun b o e=>Vo _ e,Im _ lo (a - lo).toNat,?_,fun b m=>?_,q⟩
 ·have d:lo+((0:Nat):Int) * 1=lo:=by simp
  have h:(((a - lo).toNat:Nat):Int) - ((0:Nat):Int)=a5i lo a 1:=by rw [rangeSize_one];split<;>omega
  show IsRangeIter _ _ (lo+((0:Nat):Int) * 1) ((((a - lo).toNat:Nat):Int) - ((0:Nat):Int)) 1
  rw [d,h]
  exact VC _ rfl
 ·have e:b=(s.heap.push { cls:=.type "range",data:=.fields #[.int lo t,.int a u,.int 1 v] }).objs.size:=by simpa using m
  subst e
  exact c.fpOk (Vv _) (c.hok.fresh (Vv _))
noncomputable def Io (b:TA):TI:=fun σ H R=>b σ H fun vs a=>∃ j:Int,vs=[.int j]/\-(2 ^ 62)<=j/\j<2 ^ 62/\R (pN 0 j.toNat) a
noncomputable def Ip (b:TA):TI:=fun σ H R=>b σ H fun vs a=>∃ i j:Int,vs=[.int i,.int j]/\(-(2 ^ 62)<=i/\i<2 ^ 62/\-(2 ^ 62)<=j/\j<2 ^ 62)/\R (pN i (j - i).toNat) a
theorem Iq {a:Expr}{d:TA}{p pos:W4}(m:Gl X "range") (n:X.mg "range" = none) (l:PA X [a] d)(o:V5 [a] X.env=[(false,eval a X.env)]:=by rfl):PI X tg (.Call (.Name "range" p) [a] [] pos) (Io d):=by
 intro b s x H R I h
 refine Call_ (jI I m n boot_range (Xm (aP (l pos b s x H _ I h) fun A z ⟨B,y,i,v,c⟩=>?_) o rfl))
 obtain ⟨j,e,c,u,q⟩:=c
 subst e
 cases v with
 | cons r w=>
  cases w
  obtain ⟨t,rfl⟩:=r
  exact call_range_1 (AV i (by omega) (by omega) c u (by simpa using q))
theorem Ir {a b:Expr}{n:TA}{p pos:W4}(v:Gl X "range") (w:X.mg "range" = none) (u:PA X [a,b] n)(x:V5 [a,b] X.env=[(false,eval a X.env),(false,eval b X.env)]:=by rfl)(c:V5 [b] X.env=[(false,eval b X.env)]:=by rfl) :
  PI X tg (.Call (.Name "range" p) [a,b] [] pos) (Ip n):=by
 intro d s G H R I h
 refine Call_ (jI I v w boot_range (Xm (aP (u pos d s G H _ I h) fun M K ⟨N,J,o,E,l⟩=>?_) (by rw [x,c]) (by rw [c];rfl)))
 obtain ⟨i,j,e,⟨l,y,z,A⟩,q⟩:=l
 subst e
 cases E with
 | cons r m=>
  cases m with
  | cons B m=>
   cases m
   obtain ⟨t,rfl⟩:=r
   obtain ⟨L,rfl⟩:=B
   exact call_range_2 (AV o l y z A q)
noncomputable def Iu (l:TI)(g:TG)(j:TS):TS:=fun D σ H=>l σ H fun J e=>∃ W:Nat->Nat->St->Hp->Prop,(∃ m,W 0 m σ e)/\∀ i m σ H,W i m σ H->
 (J.stop i H/\D.nx σ H)\/(J.go i H/\∃ N:St->Hp->Prop,(∀ b a,N b a->∃ d,d<m/\W (i+1) d b a)/\∀ x a,J.yld i H x a->g x σ a fun c h=>j { D with nx:=N,ct:=N,bk:=D.nx } c h)
noncomputable def pO (a:List Addr)(h:Wj):List (Addr×WY):=a.filterMap fun b=>(h.get? b).map fun o=>(b,o)
theorem rR {a:List Addr}{h:Wj}{b:Addr}{o:WY}(c:b∈a)(e:h.get? b=some o):(b,o)∈pO a h:=YL.mpr ⟨b,c,by rw [e];rfl⟩
theorem Iv {a:List Addr}{h:Wj}{p:Addr×WY}(i:p∈pO a h):p.1∈a/\h.get? p.1=some p.2:=by
 obtain ⟨b,d,e⟩:=YL.mp i
 cases q:h.get? b with
 | none=>rw [q] at e;cases e
 | some o=>
  rw [q] at e
  have c:(b,o)=p:=VX e
  subst c
  exact ⟨d,q⟩
theorem Inv.pinned {a5X:List (Addr×WY)}{σ:St}{H:Hp}{s:Vp}{a:List Addr}(I:Inv X a5X σ H s)(m:∀ b∈a,fH X a5X H b)(n:∀ b∈a,∃ o,s.heap.get? b=some o/\∀ v,o.data≠.cell v):Inv X (a5X++pO a s.heap) σ H s:=
 I.pins_of fun p q=>(WU.mp q).elim (fun z=>I.pin p (WI _ z)) fun z=>by
  obtain ⟨h,e⟩:=Iv z
  obtain ⟨i,j,l,_⟩:=m p.1 h
  obtain ⟨o,c,d⟩:=n p.1 h
  rw [e] at c;cases c
  exact ⟨e,i,j,l,d⟩
theorem Inv.unpinned {a5X pl:List (Addr×WY)}{σ:St}{H:Hp}{s:Vp}(I:Inv X (a5X++pl) σ H s):Inv X a5X σ H s:=I.pins_of fun p a=>I.pin p (WI _ (a2R _ a))
theorem Iw {iter:Expr}{body:List Stmt}{wi:TI}{g:TG}{tb:TS}{pos:W4}(K:a1Y (VM X.prog X.w) X.A X.env X.xe)(hc:X.calm=true)(hi:PI X tg iter wi)(hg:PG X tg g)(q:PSs X body tb)
  (hs:∀ x,Y8 iter X.env x=pure x:=by intro _;rfl):PS X (.For tg iter body [] pos) (Iu wi g tb):=by
 intro c s σ H D I h
 refine wpAny_For (aP (hi c s σ H _ I h) fun v s1 h1=>aP h1 fun itv s2 h2=>?_) hs
 obtain ⟨it,E,tn,J,H2,e,I2,T,st2,f2,W,⟨m0,w0⟩,turn⟩:=h2
 subst e
  -- what stays true of the iterator's objects through the loop
 have w:∀ {H':Hp},(∀ b∈E,H' b=none)->∀ b∈E,fH X c H' b:=fun hn b q=>⟨hn b q,(f2 b q).2⟩
 refine codeAny_forLoop_any (fun n s'=>∃ i y H',Inv X c y H' s'/\tn i s'.heap/\(∀ b∈E,H' b=none)/\W i n y H') ?_ m0 ⟨0,σ,H2,I2,st2,fun b q=>(f2 b q).1,w0⟩
 rintro n s3 ⟨i,z,Q,I3,M,G,w3⟩
 rcases turn i n z Q w3 with ⟨O,qn⟩|⟨go,N,hN,step⟩
 ·refine Yo K (aP (T.done X rfl rfl rfl hc i c s3 z Q X.xe I3 (w G) M O) fun r s4 ⟨Y,I4⟩=>?_)
  subst Y
  exact YV ⟨z,Q,I4,qn⟩
 ·refine Yo K (aP (T.item X rfl rfl rfl hc i c s3 z Q X.xe I3 (w G) M go) fun r s4 ⟨u,Y,h4⟩=>?_)
  subst Y
  refine Yo K (aP h4 fun _ s5 ⟨x,H5,I5,r5,y5,B,U⟩=>?_)
  have R:=I5.pinned (w U) (T.obj _ _ B)
  refine Yo K (aP (hg _ s5 z H5 x u _ R r5 (step x H5 y5)) fun _ s6 ⟨σ6,H6,I6,q6⟩=>?_)
  refine Yo K (aP (q _ s6 σ6 H6 _ I6 q6) fun f Z A=>?_)
  have p:∀ {a:St}{j:Hp},Inv X (c++pO E s5.heap) a j Z->N a j->∃ m,m<n/\∃ i y H',Inv X c y H' Z/\tn i Z.heap/\(∀ b∈E,H' b=none)/\W i m y H':=fun {a j} l L=>by
   obtain ⟨m',hm,w7⟩:=hN a j L
   refine ⟨m',hm,i+1,a,j,l.unpinned,T.keep _ _ _ B fun b q o e=>(l.pin (b,o) (WI _ (WI _ (rR q e)))).1,fun b q=>?_,w7⟩
   obtain ⟨o,e,d⟩:=T.obj _ _ B b q
   exact (l.pin (b,o) (WI _ (WI _ (rR q e)))).2.1
  cases f with
  | next=>obtain ⟨a,j,l,L⟩:=A;exact p l L
  | cont=>obtain ⟨a,j,l,L⟩:=A;exact p l L
  | brk=>obtain ⟨a,j,l,A⟩:=A;exact ⟨a,j,l.unpinned,A⟩
  | ret v=>obtain ⟨x7,a,j,l,r7,A⟩:=A;exact ⟨x7,a,j,l.unpinned,r7,A⟩
end
end L2
namespace L2
open PySem PySem.Spec PyProof.Rows
noncomputable abbrev R2:=V->V->Hp->VK->Prop
noncomputable def OpR (X:Cx)(f:Value->Value->a4W Value)(r:R2):Prop:=
 ∀ (a5X:List (Addr×WY))(s:Vp)(σ:St)(H:Hp)(x y:V)(v u:Value)(Q:VK),Inv X a5X σ H s->RelV x v->RelV y u->r x y H Q->
  VD (VM X.prog X.w) X.A (f v u) (EP X a5X σ Q) X.xe s
noncomputable def vO (X:Cx)(f:Value->a4W Value)(r:V->Hp->VK->Prop):Prop:=
 ∀ (a5X:List (Addr×WY))(s:Vp)(σ:St)(H:Hp)(x:V)(v:Value)(Q:VK),Inv X a5X σ H s->RelV x v->r x H Q->
  VD (VM X.prog X.w) X.A (f v) (EP X a5X σ Q) X.xe s
noncomputable def CallR (X:Cx)(f:Value)(r:List V->Hp->VK->Prop):Prop:=
 ∀ (a5X:List (Addr×WY))(s:Vp)(σ:St)(H:Hp)(xs:List V)(us:List Value)(Q:VK),Inv X a5X σ H s->Vals xs us->r xs H Q->
  VD (VM X.prog X.w) X.A (call f us) (EP X a5X σ Q) X.xe s
noncomputable def Iy (X:Cx)(r:V->Hp->(Bool->Hp->Prop)->Prop):Prop:=
 ∀ (a5X:List (Addr×WY))(s:Vp)(σ:St)(H:Hp)(x:V)(v:Value)(Q:Bool->Hp->Prop),Inv X a5X σ H s->RelV x v->r x H Q->
  VD (VM X.prog X.w) X.A (truthy v) (TP X a5X σ Q) X.xe s
noncomputable def pP (r:R2)(c d:TE):TE:=fun σ H Q=>c σ H fun x a=>d σ a fun y b=>r x y b Q
noncomputable def Iz (r:V->Hp->VK->Prop)(b:TE):TE:=fun σ H Q=>b σ H fun x a=>r x a Q
noncomputable def rI (C:Int->Int->Prop)(g:Int->Int->V):R2:=fun x y H Q=>∃ i j,x=.int i/\y=.int j/\C i j/\Q (g i j) H
noncomputable def fW (g:Int->Int->V):R2:=fun x y H Q=>∃ i j,x=.int i/\y=.int j/\Q (g i j) H
noncomputable def rU (g:Int->V):V->Hp->VK->Prop:=fun x H Q=>∃ i,x=.int i/\Q (g i) H
section
variable {X:Cx}{a b c:Expr}{ta tb tc:TE}{pos:W4}
theorem vP (o:PE X a ta)(p:PE X b tb){a5X:List (Addr×WY)}{s:Vp}{σ:St}{H:Hp}{R:V->V->Hp->Prop}(I:Inv X a5X σ H s)
  (h:ta σ H fun x l=>tb σ l fun y d=>R x y d){Q:Value->Vp->Prop}{f:Value->Value->a4W Value}
  (q:∀ v u j x y d,Inv X a5X σ d j->RelV x v->RelV y u->R x y d->VD (VM X.prog X.w) X.A (f v u) Q X.xe j) :
  VD (VM X.prog X.w) X.A (eval a X.env) (fun v e=>VD (VM X.prog X.w) X.A (eval b X.env) (fun u i=>VD (VM X.prog X.w) X.A (f v u) Q X.xe i) X.xe e) X.xe s:=by
 refine aP (o a5X s σ H _ I h) fun v B ⟨x,l,m,z,r⟩=>?_
 refine aP (p a5X B σ l _ m r) fun u j ⟨y,d,n,A,w⟩=>?_
 exact q v u j x y d n z A w
theorem IA {op:a2F}{r:R2}(m:OpR X (YI op) r)(j:PE X a ta)(l:PE X b tb):PE X (.BinOp a op b pos) (pP r ta tb):=by
 intro d s w H Q I h
 exact wpAny_BinOp (vP j l I h fun v u p x y e i n o q=>m d p w e x y v u Q i n o q)
theorem IB {op:UnaryOp}{r:V->Hp->VK->Prop}(m:vO X (unaryOp op) r)(l:PE X a ta):PE X (.UnaryOp op a pos) (Iz r ta):=by
 intro d s e H Q I h
 exact UnaryOp_ (aP (l d s e H _ I h) fun v p ⟨x,i,j,o,n⟩=>m d p e i x v Q j o n)
theorem vQ {f:Value->Value->a4W Value}{C:Int->Int->Prop}{g:Int->Int->Int}
  (d:∀ (i j:Int)(t u:a4V)(s:Vp)(Q:Value->Vp->Prop)(E:Value->Vp->Prop),C i j->Q (.int (g i j) s.toks) { s with toks:=s.toks+1 }->VD (VM X.prog X.w) X.A (f (.int i t) (.int j u)) Q E s) :
  OpR X f (rI C fun i j=>.int (g i j)):=by
 intro e s o H x y v u Q I l m h
 obtain ⟨i,j,rfl,rfl,hc,q⟩:=h
 obtain ⟨t,rfl⟩:=l
 obtain ⟨n,rfl⟩:=m
 exact d i j t n s _ _ hc ⟨.int (g i j),H,I.tok _,⟨_,rfl⟩,q⟩
theorem AW {f:Value->Value->a4W Value}{g:Int->Int->Int}
  (d:∀ (i j:Int)(t u:a4V)(s:Vp)(Q:Value->Vp->Prop)(E:Value->Vp->Prop),Q (.int (g i j) s.toks) { s with toks:=s.toks+1 }->VD (VM X.prog X.w) X.A (f (.int i t) (.int j u)) Q E s) :
  OpR X f (fW fun i j=>.int (g i j)):=by
 intro e s o H x y v u Q I l m h
 obtain ⟨i,j,rfl,rfl,q⟩:=h
 obtain ⟨t,rfl⟩:=l
 obtain ⟨n,rfl⟩:=m
 exact d i j t n s _ _ ⟨.int (g i j),H,I.tok _,⟨_,rfl⟩,q⟩
theorem rS {f:Value->Value->a4W Value}{g:Int->Int->Bool}
  (d:∀ (i j:Int)(t u:a4V)(s:Vp)(Q:Value->Vp->Prop)(E:Value->Vp->Prop),Q (.bool (g i j)) s->VD (VM X.prog X.w) X.A (f (.int i t) (.int j u)) Q E s) :
  OpR X f (fW fun i j=>.bl (g i j)):=by
 intro e s o H x y v u Q I l m h
 obtain ⟨i,j,rfl,rfl,q⟩:=h
 obtain ⟨t,rfl⟩:=l
 obtain ⟨n,rfl⟩:=m
 exact d i j t n s _ _ ⟨.bl (g i j),H,I,rfl,q⟩
noncomputable def CMul (i j:Int):Prop:=(-(2 ^ 64)<i/\i<2 ^ 64)\/(-(2 ^ 64)<j/\j<2 ^ 64)
theorem CMul.ok {i j:Int}(h:CMul i j):a4f i j:=by
 rcases h with ⟨d,e⟩|⟨d,e⟩
 ·exact .of_left (intBits_le_64 d e)
 ·exact .of_right (intBits_le_64 d e)
theorem op_add:OpR X (YI .Add) (fW fun i j=>.int (i+j)):=AW fun _ _ _ _ _ _ _ q=>add_int q
theorem IC:OpR X (YI .Sub) (fW fun i j=>.int (i - j)):=AW fun _ _ _ _ _ _ _ q=>sub_int q
theorem ID:OpR X (YI .Mod) (rI (fun _ j=>0<j) fun i j=>.int (i % j)):=vQ fun i j _ _ _ _ _ hc q=>by
 have d:(0:Int)<j:=hc
 exact mod_int' (by omega) (by rw [Int.fmod_eq_emod_of_nonneg i (by omega)];exact q)
theorem kB {f:Value->a4W Value}{g:Int->Int}
  (d:∀ (i:Int)(t:a4V)(s:Vp)(Q:Value->Vp->Prop)(E:Value->Vp->Prop),Q (.int (g i) s.toks) { s with toks:=s.toks+1 }->VD (VM X.prog X.w) X.A (f (.int i t)) Q E s) :
  vO X f (rU fun i=>.int (g i)):=by
 intro e s l H x v Q I j h
 obtain ⟨i,rfl,q⟩:=h
 obtain ⟨t,rfl⟩:=j
 exact d i t s _ _ ⟨.int (g i),H,I.tok _,⟨_,rfl⟩,q⟩
theorem IE:vO X (unaryOp .USub) (rU fun i=>.int (-i)):=kB fun _ _ _ _ _ q=>neg_int q
end
section
variable {X:Cx}{a b c:Expr}{ta tb tc:TE}{pos:W4}
theorem lL {a5X:List (Addr×WY)}{σ:St}{H:Hp}{s:Vp}{Q:VK}{k k':Bool}(I:Inv X a5X σ H s)(q:Q (.bl k) H)(e:k=k'):EP X a5X σ Q (.bool k') s:=by
 subst e
 exact ⟨.bl k,H,I,rfl,q⟩
theorem vT:OpR X (Wt .Lt) (fW fun i j=>.bl (decide (i<j))):=rS fun _ _ _ _ _ _ _ q=>lt_int q
theorem vU:OpR X (Wt .LtE) (fW fun i j=>.bl (decide (i<=j))):=rS fun _ _ _ _ _ _ _ q=>le_int q
theorem vV:OpR X (Wt .Gt) (fW fun i j=>.bl (decide (j<i))):=rS fun _ _ _ _ _ _ _ q=>gt_int q
theorem vW:OpR X (Wt .GtE) (fW fun i j=>.bl (decide (j<=i))):=rS fun _ _ _ _ _ _ _ q=>ge_int q
theorem AX:OpR X (Wt .In) (fun x y H Q=>∃ i j,x=.str i/\y=.str j/\Q (.bl (!(WW j i 0 j.length 1).isEmpty)) H):=by
 intro d s n H x y v u Q I e l h
 obtain ⟨i,j,rfl,rfl,q⟩:=h
 obtain ⟨t,rfl⟩:=e
 obtain ⟨m,rfl⟩:=l
 exact in_str (lL I q rfl)
theorem AY:OpR X (Wt .Is) (fun x y H Q=>y=.non/\Q (.bl (decide (x=.non))) H):=by
 intro e s j H x y v u Q I d i h
 obtain ⟨rfl,q⟩:=h
 cases i
 refine is_none_gen (lL I q ?_)
 cases x<;>first
  | (cases d;rfl)
  | (obtain ⟨t,rfl⟩:=d;rfl)
theorem AZ:OpR X (Wt .IsNot) (fun x y H Q=>y=.non/\Q (.bl (!decide (x=.non))) H):=by
 intro e s j H x y v u Q I d i h
 obtain ⟨rfl,q⟩:=h
 cases i
 refine isnot_none_gen (lL I q ?_)
 cases x<;>first
  | (cases d;rfl)
  | (obtain ⟨t,rfl⟩:=d;rfl)
theorem OpR.or {f:Value->Value->a4W Value}{r e:R2}(h:OpR X f r)(h':OpR X f e):OpR X f (fun x y H Q=>r x y H Q\/e x y H Q):=by
 intro d s l H x y v u Q I i j q
 rcases q with q|q
 ·exact h d s l H x y v u Q I i j q
 ·exact h' d s l H x y v u Q I i j q
theorem c6 (b:Expr){op:YS}(h:op≠.In:=by decide)(i:op≠.NotIn:=by decide):Yr op b=false:=by
 have d:(op == CmpOp.In)=false:=by cases op<;>first|rfl|exact absurd rfl h
 have e:(op == CmpOp.NotIn)=false:=by cases op<;>first|rfl|exact absurd rfl i
 cases b<;>simp [Yr,d,e]
theorem IF {op:YS}{r:R2}(n:OpR X (Wt op) r)(j:PE X a ta)(l:PE X b tb)(m:Yr op b=false):PE X (.Compare a [op] [b] pos) (pP r ta tb):=by
 intro d s z H Q I h
 exact wpAny_Compare1 (vP j l I h fun v u w x y e i o p q=>n d w z e x y v u Q i o p q) m
noncomputable def A1 (t:TE):TT:=fun σ H Q=>t σ H fun x H'=>∃ k,x=.bl k/\Q k H'
theorem IG {op:YS}{r:R2}(B:OpR X (Wt op) r)(q:PE X a ta)(w:PE X b tb)(A:Yr op b=false):PT X (.Compare a [op] [b] pos) (A1 (pP r ta tb)):=by
 intro d s i H Q I h
 refine wpAny_isTrue_Compare1 (aP (q d s i H _ I h) fun v N ⟨x,j,n,K,E⟩=>aP (w d N i j _ n E) fun u O ⟨y,l,o,L,G⟩=>
  aP (B d O i l x y v u _ o K L G) fun c R ⟨z,m,p,M,k,e,J⟩=>?_) A
 subst e
 cases M
 exact Xi ⟨m,p,J⟩
noncomputable def vX (r j:R2)(ta tb tc:TE):TE:=fun σ H Q=>ta σ H fun x e=>tb σ e fun y h=>r x y h fun z d=>∃ k,z=.bl k /\
 (if k=true then tc σ d fun l i=>j y l i Q else Q (.bl false) d)
theorem IH {op j:YS}{r q:R2}(O:OpR X (Wt op) r)(m:OpR X (Wt j) q)(L:PE X a ta)(M:PE X b tb)(hc:PE X c tc)
  (N:a4T [op,j] [b,c]=false:=by with_unfolding_all rfl):PE X (.Compare a [op,j] [b,c] pos) (vX r q ta tb tc):=by
 intro i s l H Q I h
 refine Compare_chain (aP (L i s l H _ I h) fun v s1 ⟨x,A,G,Y,R⟩=>chain_link (aP (M i s1 l A _ G R) fun u s2 ⟨y,B,J,w,T⟩=>
  aP (O i s2 l B x y v u _ J Y w T) fun d s3 ⟨z,n,o,Z,k,e,p⟩=>?_)) N
 subst e
 cases Z
 refine Xi ?_
 cases k with
 | false=>exact ite_ff ⟨.bl false,n,o,rfl,p⟩
 | true=>exact ite_tt (chain_last (aP (hc i s3 l n _ o p) fun w' s4 ⟨z',E,K,r4,U⟩=>m i s4 l E y z' u w' Q K w r4 U))
theorem II {op j:YS}{r q:R2}(Y:OpR X (Wt op) r)(m:OpR X (Wt j) q)(R:PE X a ta)(T:PE X b tb)(hc:PE X c tc)
  (U:a4T [op,j] [b,c]=false:=by with_unfolding_all rfl):PT X (.Compare a [op,j] [b,c] pos) (A1 (vX r q ta tb tc)):=by
 intro i s l H Q I h
 refine isTrue_chain (aP (R i s l H _ I h) fun v s1 ⟨x,A,J,r1,q1⟩=>test_link (aP (T i s1 l A _ J q1) fun u s2 ⟨y,B,K,w,q2⟩=>
  aP (Y i s2 l B x y v u _ K r1 w q2) fun d s3 ⟨z,n,o,r3,k,e,p⟩=>?_)) U
 subst e
 cases r3
 refine Xi ?_
 cases k with
 | false=>
  obtain ⟨k',N,Z⟩:=p
  cases N
  exact ite_ff ⟨n,o,Z⟩
 | true=>
  refine ite_tt (test_last (aP (hc i s3 l n _ o p) fun w' s4 ⟨z',E,L,r4,q4⟩=>aP (m i s4 l E y z' u w' _ L w r4 q4) fun d' s5 ⟨z2,G,M,r5,k2,O,q5⟩=>?_))
  subst O
  cases r5
  exact Xi ⟨G,M,q5⟩
noncomputable def vY (K:Vk)(x:V)(H:Hp)(k:Bool):Prop:=
 match x with
 | .non=>k=false
 | .bl b=>k=b
 | .int i=>k=(i != 0)
 | .str y=>y.length<=VA/\k=((y.length:Int) != 0)
 | .byt y=>y.size<=VA/\k=((y.size:Int) != 0)
 | .ref p=>(∃ e,SqL K H p e/\k = !e.isEmpty)\/(∃ e,SqT K H p e/\k = !e.isEmpty)\/∃ d,H p=some (.dK d)/\k = !d.isEmpty
 | _=>False
theorem IJ {κ:Type}{kvs:List (κ×V)}{vs:List (κ×Value)}(r:KV kvs vs):(!vs.isEmpty) = !kvs.isEmpty:=by
 cases r<;>rfl
theorem A2 {xs:List V}{d:List Value}(r:Vals xs d):(!d.toArray.isEmpty) = !xs.isEmpty:=by
 cases r<;>simp
theorem lM:(VA:Nat)<2 ^ 63:=by rw [VS];decide
theorem IK:Iy X (fun x H Q=>∃ k,vY X.K x H k/\Q k H):=by
 intro E s M H x v Q I o h
 obtain ⟨k,e,q⟩:=h
 have K:=lM
 have L:VA=16777216:=VS
 cases x with
 | non=>
  cases o
  have d:k=false:=e
  subst d
  exact truthy_none ⟨H,I,q⟩
 | bl b=>
  cases o
  have d:k=b:=e
  subst d
  exact Xi ⟨H,I,q⟩
 | int i=>
  obtain ⟨t,rfl⟩:=o
  have d:k=(i != 0):=e
  subst d
  exact PySem.P.truthy_int ⟨H,I,q⟩
 | str y=>
  obtain ⟨t,rfl⟩:=o
  obtain ⟨J,d⟩:y.length<=VA/\k=((y.length:Int) != 0):=e
  subst d
  exact PySem.P.truthy_str (by omega) ⟨H,I.tok _,q⟩
 | byt y=>
  obtain ⟨t,rfl⟩:=o
  obtain ⟨J,d⟩:y.size<=VA/\k=((y.size:Int) != 0):=e
  subst d
  exact PySem.W.truthy_bytes (by omega) ⟨H,I.tok _,q⟩
 | ref p=>
  cases o
  have d:(∃ n,SqL X.K H p n/\k = !n.isEmpty)\/(∃ n,SqT X.K H p n/\k = !n.isEmpty)\/∃ j,H p=some (.dK j)/\k = !j.isEmpty:=e
  rcases d with ⟨n,u,d⟩|⟨n,u,d⟩|⟨j,u,d⟩
  ·subst d
   obtain ⟨z,r,A,B⟩:=I.list u
   have l:=r.length
   exact wpAny_truthy_list A.isList (by simp only [VG];omega) ⟨H,I.tok _,by rw [A2 r];exact q⟩
  ·subst d
   obtain ⟨z,r,A,B⟩:=I.tuple u
   have l:=r.length
   exact truthy_tuple A (by simp only [VG];omega) ⟨H,I.tok _,by rw [A2 r];exact q⟩
  ·subst d
   obtain ⟨B,G,w,r,m⟩:j.length<=VA/\(p == WL)=false/\∃ w,KV j w/\s.heap.DictOf (lJ X.prog X.w) p w:=I.hok p _ u
   have l:j.length=w.length:=a1P r
   exact wpAny_truthy_dict G m (by omega) ⟨H,I.tok _,by rw [IJ r];exact q⟩
 | _=>exact (show False from e).elim
theorem IL (n:PE X a ta)(o:∀ d,a3t a X.env d=(do let v <- d;standAt a.pos;holding [v] (truthy v))) :
  PT X a (fun i H Q=>ta i H fun x j=>∃ k,vY X.K x j k/\Q k j):=by
 intro e s i H Q I h
 exact isTrue_plain (aP (n e s i H _ I h) fun v r ⟨x,l,m,q,p⟩=>IK e r i l x v Q m q p) (o _)
theorem op_add_str:OpR X (YI .Add) (fun x y H Q=>∃ i j,x=.str i/\y=.str j/\i.length+j.length<=VA/\Q (.str (i++j)) H):=by
 intro d s p H x y v u Q I l m h
 obtain ⟨i,j,rfl,rfl,e,q⟩:=h
 obtain ⟨t,rfl⟩:=l
 obtain ⟨n,rfl⟩:=m
 exact add_str (fun n o=>⟨.str (i++j),H,I.tok _,⟨_,rfl⟩,q⟩) e
theorem eD {x:V}{us:List Value}(r:Vals [x] us):∃ u,us=[u]/\RelV x u:=by
 cases r with
 | cons d e=>cases e;exact ⟨_,rfl,d⟩
theorem IM {x y:V}{us:List Value}(r:Vals [x,y] us):∃ u d,us=[u,d]/\RelV x u/\RelV y d:=by
 cases r with
 | cons e h=>
  cases h with
  | cons i j=>cases j;exact ⟨_,_,rfl,e,i⟩
theorem IP:CallR X (.type "int") (fun xs H Q=>(∃ i,xs=[.int i]/\Q (.int i) H)\/∃ k,xs=[.bl k]/\Q (.int (if k then 1 else 0)) H):=by
 intro d s l H xs j Q I r h
 rcases h with ⟨i,rfl,q⟩|⟨k,rfl,q⟩
 ·obtain ⟨u,rfl,t,rfl⟩:=eD r
  exact call_int_int ⟨.int i,H,I,⟨_,rfl⟩,q⟩
 ·obtain ⟨u,rfl,e⟩:=eD r
  cases e
  exact call_int_bool ⟨.int (if k then 1 else 0),H,I.tok _,⟨_,rfl⟩,q⟩
end
end L2
namespace L2
open PySem PySem.Spec PyProof.Rows
structure ObjM (h:Wj)(x dx C:Addr)(mA:Str->Option Value):Prop where
 obj:h.get? x=some (a3i C dx)
 ns:h.Ns1 dx mA
 ne:dx≠x
section
variable {prog:VQ}{w:V6}{A:VU}{E:Value->Vp->Prop}{s:Vp}{K:Vk}{x dx C f:Addr}{mA:Str->Option Value}{name:Str}{v:Value}
end
theorem RelO.some_of {v:V}{o:Option Value}(r:RelO (some v) o):∃ u,o=some u/\RelV v u:=by
 cases o with
 | none=>exact (show False from r).elim
 | some u=>exact ⟨u,rfl,r⟩
theorem IQ {v:V}{u:Value}(r:RelV v u):PySem.W.handedIn u=true:=by
 cases v with
 | non=>cases (show u=Wb from r);rfl
 | bl b=>cases (show u=XM b from r);rfl
 | int i=>obtain ⟨t,e⟩:=(show ∃ t,u=V3 i t from r);cases e;rfl
 | str x=>obtain ⟨t,e⟩:=(show ∃ t,u=a0V x t from r);cases e;rfl
 | byt b=>obtain ⟨t,e⟩:=(show ∃ t,u=a4O b t from r);cases e;rfl
 | flt b=>obtain ⟨t,e⟩:=(show ∃ t,u=a4N b t from r);cases e;rfl
 | ref a=>cases (show u=Vz a from r);rfl
 | ty n=>cases (show u=Ws n from r);rfl
section
variable {P:VQ}{w:V6}{H H':Hp}{h h':Wj}{a C dx:Addr}{fs fs':List (Str×V)}
end
structure Cls (K:Vk)(C:Addr):Prop where
 pg:a2W K C Str.empty=true
 hd:PySem.W.hasDictIn K C=true
 po:PySem.W.plainOver K C=true
 sa:WH K (.ref C) "__setattr__" = some (some (.builtin "object.__setattr__"))
theorem Cls.get {K:Vk}{C:Addr}(c:Cls K C)(f:Str):a2W K C f=true:=c.pg
structure Con (K:Vk)(C:Addr)(f:Str)(v:V)(u:Value):Prop where
 at_:WH K (.ref C) f=some (some u)
 rel:RelV v u
 get:Zx K u "__get__" = some none
 cp:PySem.W.copiedNames.contains f=false
structure Meth (K:Vk)(C:Addr)(m:Str)(f:Addr):Prop where
 at_:WH K (.ref C) m=some (some (.ref f))
 fn:a4a K (.ref f)=true
 kp:Ww K (.ref f)=true
section
variable {X:Cx}{a5X:List (Addr×WY)}{σ:St}{H:Hp}{s:Vp}{a C dx:Addr}{fs:List (Str×V)}{f:Str}{v:V}{A:VU}{E:Value->Vp->Prop}
theorem IS {prog:VQ}{w:V6}{env:Z7}{e:Expr}{f:Str}{pos:W4}{s:Vp}{Q:Value->Vp->Prop}(c:Ys e f env (eval e env)=eval e env)
  (h:VD (VM prog w) A (eval e env) (fun o b=>VD (VM prog w) A (getAttr o f true) Q E b) E s):VD (VM prog w) A (eval (.Attribute e f pos) env) Q E s:=
 Attribute_any_ h (by rw [arm_eval_Attribute,c])
end
section
variable {X:Cx}{o e value:Expr}{f:Str}{pos pos' tpos:W4}{ta tv:TE}
end
section
variable {X:Cx}{a5X:List (Addr×WY)}{σ:St}{H:Hp}{s:Vp}{A:VU}{E:Value->Vp->Prop}{Q:Value->Vp->Prop}{c:Value}{b:Bool}
inductive TyOf (K:Vk)(H:Hp):V->Value->Prop where
 | non:TyOf K H .non (.type "NoneType")
 | bl (x:Bool):TyOf K H (.bl x) (.type "bool")
 | int (i:Int):TyOf K H (.int i) (.type "int")
 | str (x:Str):TyOf K H (.str x) (.type "str")
 | flt (x:UInt64):TyOf K H (.flt x) (.type "float")
 | lst {a:Addr}{xs:List V}(e:H a=some (.lst xs)):TyOf K H (.ref a) (.type "list")
 | frz {a:Addr}{o:WY}{xs:List V}(e:H a=some (.frz o (.lst xs))):TyOf K H (.ref a) (.type "list")
 | tup {a:Addr}{xs:List V}(e:H a=some (.tup xs)):TyOf K H (.ref a) (.type "tuple")
 | dK {a:Addr}{kvs:List (a9×V)}(e:H a=some (.dK kvs)):TyOf K H (.ref a) (.type "dict")
 | dT {a:Addr}{kvs:List (List a9×V)}(e:H a=some (.dT kvs)):TyOf K H (.ref a) (.type "dict")
 | ins {a C dx:Addr}{fs:List (Str×V)}(e:H a=some (.ins C dx fs))(cl:Cls K C)(ha:WH K (.ref C) "__class__" = some (some (.builtin "object.__class__")))
   (hn:Zx K (.builtin "object.__class__") "__get__" = some (some (.builtin "getset_descriptor.__get__"))) (htk:a3h K (.builtin "object.__class__")=some true)
   (hm:a3N K C (.type "object")=some true):TyOf K H (.ref a) (.ref C)
end
end L2
namespace L2
open PySem PySem.Spec PyProof.Rows
structure Room (k:Nat)(A:VU):Prop where
 hd:A.handled=none
 dp:A.depth+3 * k+5<a5Q
 un:A.units+16 * k+200<WX
theorem Room.deeper {k:Nat}{A:VU}(r:Room (k+1) A)(env:Z7):Room k (A.deeper env):=
 ⟨r.hd,by have:=r.dp;show A.depth+1+3 * k+5<_;omega,by have:=r.un;show A.units+3+16 * k+200<_;omega⟩
theorem IT {A:VU}{C:Addr}{us:List Value}{a:List (Str×Value)}:(A.under (.builtin "type.__call__" ⟨.ref C::us,a⟩)).depth=A.depth+1:=by
 first|rfl|simp [a2i,Code.weight,Code.isCreation,Code.isGuard,Code.isCaller,a5f,a2v,guardIds]
theorem IU {A:VU}{C:Addr}{us:List Value}{a:List (Str×Value)}:(A.under (.builtin "type.__call__" ⟨.ref C::us,a⟩)).units=A.units+1:=by
 first|rfl|simp [a2i,Code.cUnits,a5f,a2v]
theorem Room.make {k:Nat}{A:VU}(r:Room (k+1) A)(C:Addr)(us:List Value)(a:List (Str×Value)):Room k (A.under (.builtin "type.__call__" ⟨.ref C::us,a⟩)):=
 ⟨r.hd,by have:=r.dp;rw [IT];omega,by have:=r.un;rw [IU];omega⟩
theorem Room.depth {k:Nat}{A:VU}(r:Room k A):A.depth<a5Q:=by have:=r.dp;omega
theorem Room.units {k:Nat}{A:VU}(r:Room k A):A.units+64<WX:=by have:=r.un;omega
noncomputable def A3:TA:=fun _ H Q=>Q [] H
noncomputable def IV (c:TE)(tr:TA):TA:=fun σ H Q=>c σ H fun x a=>tr σ a fun xs b=>Q (x::xs) b
section
variable {X:Cx}{e:Expr}{es:List Expr}{te:TE}{t:TA}{pos:W4}
theorem A4:PA X [] A3:=fun _ _ _ _ H Q I h=>a0K ⟨[],H,I,.nil,h⟩
theorem vZ (l:PE X e te)(m:PA X es t)(n:V5 (e::es) X.env=(false,eval e X.env)::V5 es X.env:=by rfl):PA X (e::es) (IV te t):=by
 intro pos a s b H Q I h
 rw [n]
 show VD _ _ (spliced ((false,eval e X.env)::Yi pos (V5 es X.env))) _ _ s
 refine a0A (aP (l a s b H _ I h) fun u v ⟨x,c,i,q,o⟩=>?_)
 exact aP (m pos a v b c _ i o) fun z y ⟨w,d,j,r,p⟩=>⟨x::w,d,j,.cons q r,p⟩
noncomputable def IW (t:TA):TE:=fun σ H Q=>t σ H fun xs a=>xs.length<=VA/\∀ p,a p=none->Q (.ref p) (aK a p (.tup xs))
noncomputable def IX (t:TA):TE:=fun σ H Q=>t σ H fun xs a=>xs.length<=VA/\∀ p,a p=none->Q (.ref p) (aK a p (.lst xs))
theorem IY {x1} (h:PA X es t):PE X (.Tuple es x1 pos) (IW t):=by
 intro c s o H Q I l
 refine wpAny_Tuple_spliced (aP (h pos c s o H _ I l) fun m a ⟨n,d,i,r,z,q⟩=>⟨by rw [<- r.length];exact z,?_⟩)
 have j:d a.heap.objs.size=none:=i.hok.fresh (Vv _)
 refine ⟨.ref a.heap.objs.size,aK d a.heap.objs.size (.tup n),i.laid (t':=a.toks) (fun b u e=>Vo _ e) (Vv _) ?_,rfl,q _ j⟩
 exact ⟨z,m,r,⟨_,VC _ rfl,rfl,_,rfl,rfl⟩⟩
theorem IZ (h:PA X es t):PE X (.List es pos) (IX t):=by
 intro c s o H Q I l
 refine wpAny_List_spliced (aP (h pos c s o H _ I l) fun m a ⟨n,d,i,r,z,q⟩=>⟨by rw [<- r.length];exact z,?_⟩)
 have j:d a.heap.objs.size=none:=i.hok.fresh (Vv _)
 refine ⟨.ref a.heap.objs.size,aK d a.heap.objs.size (.lst n),i.laid (t':=a.toks) (fun b u e=>Vo _ e) (Vv _) ?_,rfl,q _ j⟩
 exact ⟨z,m,0,r,VC _ rfl⟩
end
noncomputable abbrev Sp:=List V->Hp->VK->XK->Prop
noncomputable abbrev fX:=List Z7->Hp->Vp->XK->Value->Vp->Prop
structure Env0 (P:VQ)(w:V6)(K:Vk)(mg:Str->Option Value)(base:Wj)(A:VU)(outer:List Z7)(s:Vp)(H:Hp):Prop where
 frames:A.frames=some outer
 mod:Mod K mg base
 bs:∀ b o,base.get? b=some o->s.heap.get? b=some o/\H b=none
 bsz:base.objs.size<=s.heap.objs.size
 funs:s.heap.FunFrames base outer
 frf:∀ b∈dJ outer,H b=none
 hok:HOk P w H s.heap
 bare:Z8 s.gens
noncomputable def CE (outer:List Z7)(P:VQ)(w:V6)(H:Hp)(s:Vp)(Q:VK)(u:Value)(a:Vp):Prop:=
 ∃ v b,a.os=s.os/\Z8 a.gens/\Un (dJ outer) [] H b s.heap a.heap/\HOk P w b a.heap/\RelV v u/\Q v b
noncomputable def CR (CX:fX)(outer:List Z7)(P:VQ)(w:V6)(H:Hp)(s:Vp)(Q:VK)(E:XK)(r:a2E)(a:Vp):Prop:=
 match r with
 | .ok (.ret u)=>CE outer P w H s Q u a
 | .ok _=>False
 | .error e=>CX outer H s E e a
structure FnOk (P:VQ)(w:V6)(K:Vk)(mg:Str->Option Value)(base:Wj)(CX:fX)(k:Nat)(f:Addr)(fd:Xc)(ps:List Str)(sp:Sp):Prop where
 len:∀ vs H Q E,sp vs H Q E->vs.length=ps.length
 run:∀ (A:VU)(outer:List Z7)(s:Vp)(H:Hp)(args:Args)(us:List Value)(vs:List V)(Q:VK)(E:XK),Room k A->Env0 P w K mg base A outer s H->a1K s fd args (ps.zip us)->Vals vs us->sp vs H Q E->
  ZM (VM P w) A (.call (.ref f) args) (CR CX outer P w H s Q E) s
theorem Env0.make {P:VQ}{w:V6}{K:Vk}{a:Str->Option Value}{base:Wj}{A:VU}{outer:List Z7}{s:Vp}{H:Hp}(e:Env0 P w K a base A outer s H)(C:Addr)(us:List Value)(b:List (Str×Value)) :
  Env0 P w K a base (A.under (.builtin "type.__call__" ⟨.ref C::us,b⟩)) outer s H:=⟨by first|exact e.frames|(simpa [a2i,Code.envs,a2v,pushEnvs] using e.frames),e.mod,e.bs,e.bsz,e.funs,e.frf,e.hok,e.bare⟩
section
variable {X:Cx}{a5X:List (Addr×WY)}{σ:St}{H:Hp}{s s':Vp}
theorem Inv.env0 (I:Inv X a5X σ H s):Env0 X.prog X.w X.K X.mg X.base X.A X.stack s H:=
 ⟨I.ok.frames,I.ok.mod,I.bs,Wu I.ok.bsz I.sz,I.stack,I.stkFree,I.hok,I.bare⟩
theorem Inv.after {Q:VK}{u:Value}(I:Inv X a5X σ H s)(h:CE X.stack X.prog X.w H s Q u s'):EP X a5X σ Q u s':=by
 obtain ⟨v,e,j,a,un,hok,r,q⟩:=h
 obtain ⟨i,g,d,t,c⟩:=s'
 obtain rfl:c=s.os:=j
 exact ⟨v,e,I.call (h':=i) (g':=g) (d':=d) (t':=t) (ch:=[]) un hok a (fun b z=>absurd z (by simp)),r,q⟩
end
noncomputable def v7 (sp:Sp)(a:List V)(E:XK)(t:TA):TE:=fun σ H Q=>t σ H fun vs b=>sp (vs++a) b Q E
noncomputable def Binds (K:Vk)(a:Xc)(ps:List Str)(ds:List Value):Prop:=
 ∀ (s:Vp)(us:List Value),K.In s.heap->(us++ds).length=ps.length->a1K s a ⟨us,[]⟩ (ps.zip (us++ds))
theorem Binds.all {K:Vk}{a:Xc}{ps:List Str}(h:∀ us:List Value,us.length=ps.length->a1D a ⟨us,[]⟩=pure (ps.zip us)):Binds K a ps []:=fun s us _ b=>by
 rw [Zm] at b ⊢
 exact .of_eq (h us b)
noncomputable def rV (CX:fX)(X:Cx)(E:XK):Prop:=∀ (a5X:List (Addr×WY))(σ:St)(H:Hp)(s:Vp)(e:Value)(a:Vp),Inv X a5X σ H s->CX X.stack H s E e a->X.xe e a
section
variable {X:Cx}{CX:fX}{k:Nat}{f C:Addr}{fd:Xc}{ps:List Str}{sp:Sp}{dvs:List V}{ds:List Value}{E:XK}{x m:Str}{p pos apos:W4}{e o:Expr}{es:List Expr}{ta:TE}{t:TA}
theorem A5 {a5X:List (Addr×WY)}{σ:St}{H:Hp}{s:Vp}{Q:VK}{us:List Value}{vs:List V}(F:FnOk X.prog X.w X.K X.mg X.base CX k f fd ps sp)(j:Room k X.A)(d:Binds X.K fd ps ds)(hd:Vals dvs ds)(l:rV CX X E)
  (I:Inv X a5X σ H s)(r:Vals vs us)(h:sp (vs++dvs) H Q E):VD (VM X.prog X.w) X.A (call (.ref f) us) (EP X a5X σ Q) X.xe s:=by
 have b:Vals (vs++dvs) (us++ds):=r.append hd
 have i:(us++ds).length=ps.length:=by rw [<- b.length];exact F.len _ _ _ _ h
 refine a1k (ZL (F.run X.A X.stack s H ⟨us,[]⟩ (us++ds) (vs++dvs) Q E j I.env0 (d s us I.kIn i) b h) fun r n a=>?_)
 cases r with
 | error e=>exact l a5X σ H s e n I a
 | ok c=>
  cases c with
  | ret u=>exact I.after a
  | next=>exact Wl a
  | brk=>exact Wl a
  | cont=>exact Wl a
theorem Ja (F:FnOk X.prog X.w X.K X.mg X.base CX k f fd ps sp)(w:Room k X.A)(n:Gl X x)(v:X.mg x=some (.ref f))(u:Ww X.K (.ref f)=true)(j:Binds X.K fd ps ds)(hd:Vals dvs ds)(y:rV CX X E)
  (i:PA X (e::es) t)(b:(x == ("__debug__":Str))=false:=by decide) (l:V5 (e::es) X.env=(false,eval e X.env)::V5 es X.env:=by rfl)(c:(Yi pos (V5 es X.env)).any (·.1)=false:=by rfl) :
  PE X (.Call (.Name x p) (e::es) [] pos) (v7 sp dvs E t):=by
 intro a s z H Q I h
 refine Xo (lK I n v ?_ b)
 refine a0r (h₀:=X.base) I.ok.mod.kin u (aP (i pos a s z H _ I h) fun G B ⟨J,A,d,r,q⟩=>⟨d.kIn,?_⟩) l c
 exact A5 F w j hd y d r q
theorem Jb (F:FnOk X.prog X.w X.K X.mg X.base CX k f fd ps sp)(l:Room k X.A)(d:Gl X x)(j:X.mg x=some (.ref f))(i:Ww X.K (.ref f)=true)(c:Binds X.K fd ps ds)(hd:Vals dvs ds)(n:rV CX X E)
  (a:(x == ("__debug__":Str))=false:=by decide):PE X (.Call (.Name x p) [] [] pos) (v7 sp dvs E A3):=by
 intro b s q H Q I h
 refine Xo (lK I d j ?_ a)
 exact PySem.W.callWith_K0 I.kIn i (A5 (us:=[]) F l c hd n I .nil h)
structure Mk (K:Vk)(C f:Addr):Prop where
 makes:PySem.W.makesIn K C=true
 init:WH K (.ref C) "__init__" = some (some (.ref f))
 fn:a4a K (.ref f)=true
 kp:Ww K (.ref C)=true
end
section
variable {X:Cx}{CX:fX}{k:Nat}{f C:Addr}{fd:Xc}{ps ks:List Str}{sp:Sp}{E:XK}{x m:Str}{p pos apos kpos:W4}{e o:Expr}{es:List Expr}{kws:List Ze}{te ta:TE}{t tk:TA}{nm:Option Str}
structure KBinds (K:Vk)(fd:Xc)(ps ks:List Str)(g:List Value->List Value->List Value)(gV:List V->List V->List V):Prop where
 to:∀ (s:Vp)(us ws:List Value),K.In s.heap->(g us ws).length=ps.length->a1K s fd ⟨us,ks.zip ws⟩ (ps.zip (g us ws))
 rel:∀ {vs:List V}{us:List Value}{zs:List V}{ws:List Value},Vals vs us->Vals zs ws->Vals (gV vs zs) (g us ws)
variable {g:List Value->List Value->List Value}{gV:List V->List V->List V}
end
structure FnScope (N P:List Str)(sc:X1):Prop where
 kind:sc.kind=.function
 co:sc.isCoroutine=false
 gen:sc.isGenerator=false
 nd:N.Nodup
 pre:N.take P.length=P
 par:∀ x∈P,sc.names.lookup x=some .local\/sc.names.lookup x=some .cell
 nofree:∀ y∈sc.names,y.2≠.free
theorem A6 {kindOf:Str->Option XX}{x:Str}:∀ {binds:List (Str×Value)}{m:Str->Option Value},(∀ v,(x,v)∉binds)->a3f kindOf binds m x=m x
 | [],_,_=>rfl
 | (n,v)::r,m,h=>by
  unfold a3f
  rw [A6 fun w hw=>h w (VI _ hw)]
  split
  ·have:x≠n:=by rintro rfl;exact h v VO
   simp [this]
  ·rfl
theorem A7 {kindOf:Str->Option XX}{x:Str}:∀ {binds:List (Str×Value)}{m:Str->Option Value},(∀ v,(x,v)∉binds)->a3g kindOf binds m x=m x
 | [],_,_=>rfl
 | (n,v)::r,m,h=>by
  unfold a3g
  rw [A7 fun w hw=>h w (VI _ hw)]
  split
  ·rfl
  ·have:x≠n:=by rintro rfl;exact h v VO
   simp [this]
theorem A8 {kindOf:Str->Option XX}{x:Str}{v:Value}:∀ {P:List Str}{vs:List Value}{i:Nat}{m:Str->Option Value},P.Nodup->P[i]? = some x->vs[i]? = some v->kindOf x=some .local->
  a3f kindOf (P.zip vs) m x=some v
 | [],_,_,_,_,h,_,_=>by simp at h
 | _::_,[],_,_,_,_,h,_=>by simp at h
 | p::P,w::vs,0,m,nd,h1,h2,hk=>by
  simp at h1 h2;subst h1;subst h2
  show a3f kindOf ((p,w)::P.zip vs) m p=_
  unfold a3f
  rw [A6 fun v a=>(Zk.mp nd).1 (a1v a).1,if_pos hk]
  simp
 | p::P,w::vs,i+1,m,nd,h1,h2,hk=>by
  show a3f kindOf ((p,w)::P.zip vs) m x=_
  unfold a3f
  exact A8 (i:=i) (Zk.mp nd).2 (by simpa using h1) (by simpa using h2) hk
theorem A9 {kindOf:Str->Option XX}{x:Str}{v:Value}:∀ {P:List Str}{vs:List Value}{i:Nat}{m:Str->Option Value},P.Nodup->P[i]? = some x->vs[i]? = some v->kindOf x≠some .local->
  a3g kindOf (P.zip vs) m x=some v
 | [],_,_,_,_,h,_,_=>by simp at h
 | _::_,[],_,_,_,_,h,_=>by simp at h
 | p::P,w::vs,0,m,nd,h1,h2,hk=>by
  simp at h1 h2;subst h1;subst h2
  show a3g kindOf ((p,w)::P.zip vs) m p=_
  unfold a3g
  rw [A7 fun v a=>(Zk.mp nd).1 (a1v a).1,if_neg hk]
  simp
 | p::P,w::vs,i+1,m,nd,h1,h2,hk=>by
  show a3g kindOf ((p,w)::P.zip vs) m x=_
  unfold a3g
  exact A9 (i:=i) (Zk.mp nd).2 (by simpa using h1) (by simpa using h2) hk
noncomputable def start (N:List Str)(vs:List V):St:=vs.map some++VW (N.length - vs.length) none
noncomputable def dW (CX:fX)(P:VQ)(w:V6)(K:Vk)(d:Str->Option Value)(base:Wj)(N:List Str)(qual:Str)(scope:X1)(f:Addr)(b:Value)(A:VU)(outer:List Z7)(s:Vp)(H:Hp)(E:XK):Cx where
 prog:=P
 w:=w
 K:=K
 mg:=d
 base:=base
 A:=A.deeper (envOfC qual scope s.heap.objs.size f b)
 N:=N
 s₀:=s
 H₀:=H
 env:=envOfC qual scope s.heap.objs.size f b
 outer:=outer
 stack:=envOfC qual scope s.heap.objs.size f b::outer
 ex:=[]
 calm:=true
 fn:=fun _=>true
 pn:=[]
 xe:=fun e h=>VD (VM P w) (A.deeper (envOfC qual scope s.heap.objs.size f b)) (a4K (envOfC qual scope s.heap.objs.size f b) e) (fun _ a=>CX outer H s E e a) (fun c a=>CX outer H s E c a) h
theorem Ba {a:X1}{n:Nat}{x:Str}(h:a.names.lookup x=some .cell):∃ c,(a4U n a.names []).lookup x=some c:=by
 have q:=a1X a.names n [] (.inl h)
 exact W5.mp q
theorem Jc {CX:fX}{P:VQ}{w:V6}{K:Vk}{J:Str->Option Value}{base:Wj}{N ps:List Str}{qual:Str}{scope:X1}{f:Addr}{B:Value}{A:VU}{outer:List Z7}{s s1:Vp}{H:Hp}{E:XK}{us:List Value}{vs:List V}
  (S:FnScope N ps scope)(hd:A.handled=none)(j:Env0 P w K J base A outer s H)(U:vs.length=ps.length)(r:Vals vs us)
  (x:InCallC s s.heap.objs.size (a3f (envOfC qual scope s.heap.objs.size f B).kindOf (ps.zip us) fun _=>none) (a4U (s.heap.objs.size+1) scope.names []) (a3g (envOfC qual scope s.heap.objs.size f B).kindOf (ps.zip us) fun _=>none) s1) :
  Inv (dW CX P w K J base N qual scope f B A outer s H E) [] (start N vs) H s1:=by
 have Q:ps.length<=N.length:=by have:=congrArg Wm S.pre;rw [XY] at this;omega
 obtain ⟨G,X,rfl,L⟩:=x.done
 have m:∀ b:Addr,b∉(dW CX P w K J base N qual scope f B A outer s H E).ex:=fun b z=>absurd (show b∈([]:List Addr) from z) (by simp)
 refine ⟨⟨j.mod,S.kind,rfl,rfl,Vv _,fun y z c G d=>?_,fun y l=>?_,fun y c _ h=>?_,fun _=>hd,Around.frames_deeper j.frames,.inr ⟨rfl,rfl⟩,fun b z=>absurd z (m b),j.bs,j.bsz,fun b _ _=>m b,fun b z=>absurd z (m b),j.funs,j.frf⟩,
  rfl,j.bare,Un.kept L,⟨_,x.toInCall.ns,fun i y v G d T=>?_⟩,fun y c h=>⟨_,x.cell y c h⟩,j.hok.fresh (Vv _),fun y c h=>?_,fun p n=>absurd (show p∈([]:List (Addr×WY)) from n) (by simp),j.hok.kept L,?_⟩
 ·exact name_of_addr x.apart (WG G) (WG d)
 ·have l:scope.names.lookup y=some .cell\/scope.names.lookup y=some .free:=l
  rcases l with l|l
  ·exact Ba l
  ·exact absurd rfl (S.nofree _ (WG l))
 ·exact Y1 (x.above y c (WG h))
 ·have I:i<vs.length:=by
   unfold start at d
   by_cases I:i<vs.length
   ·exact I
   ·rw [Xh (by simpa using I)] at d
    rw [XZ] at d
    split at d<;>cases d
  have O:vs[i]? = some v:=by
   unfold start at d
   rw [We (by simpa using I),V0] at d
   cases e:vs[i]? with
   | none=>rw [e] at d;cases d
   | some a=>rw [e] at d;cases d;rfl
  obtain ⟨u,M,R⟩:=r.get O
  have n:ps[i]? = some y:=by
   rw [<- S.pre,List.getElem?_take_of_lt (by omega)];exact G
  have o:ps.Nodup:=by rw [<- S.pre];exact S.nd.sublist (List.take_sublist _ _)
  refine ⟨u,R,?_⟩
  rcases S.par y (V8 n) with k|k
  ·exact .inl ⟨k,A8 o n M k⟩
  ·obtain ⟨c,e⟩:=Ba (n:=s.heap.objs.size+1) k
   refine .inr ⟨.inl k,c,e,?_⟩
   have q:=x.cell y c e
   rw [A9 o n M (by show scope.names.lookup y≠_;rw [k];decide)] at q
   exact q
 ·exact j.hok.fresh (Y1 (x.above y c (WG h)))
 ·unfold start
  show _=N.length
  rw [VR,Vm,XD]
  omega
theorem v8 {CX:fX}{P:VQ}{w:V6}{K:Vk}{z:Str->Option Value}{base:Wj}{k:Nat}{f:Addr}{name qual:Str}{c:Arguments}{body:List Stmt}{scope:X1}{X kV l Y a ct oc:Value}{an od:Option Addr}
  {M:Array (Option Value)}{N ps:List Str}{sp:Sp}(lk:K.lookup f=some ⟨oc,od,.func (Xe name qual c body scope X kV l Y an a ct),M⟩)(B:Zs K a qual=true)(S:FnScope N ps scope)
  (len:∀ vs H Q E,sp vs H Q E->vs.length=ps.length)
  (h:∀ (A:VU)(outer:List Z7)(s:Vp)(H:Hp)(vs:List V)(Q:VK)(E:XK),Room k (A.deeper (envOfC qual scope s.heap.objs.size f a))->sp vs H Q E->
   ∃ t,PSs (dW CX P w K z base N qual scope f a A outer s H E) body t/\t { nx:=fun _ H'=>Q .non H',rt:=Q } (start N vs) H) :
  FnOk P w K z base CX (k+1) f (Xe name qual c body scope X kV l Y an a ct) ps sp:=by
 refine ⟨len,fun A outer s H U us vs Q E G m hb r p=>?_⟩
 have hl:=len _ _ _ _ p
 have T:K.In s.heap:=m.mod.kin.keeps fun b o e=>(m.bs b o e).1
 have L:s.heap.NoLimit:=m.mod.nolimit.keeps fun b o e=>(m.bs b o e).1
 have i:∀ y∈ps.zip us,scope.names.lookup y.1=some .local\/(scope.names.lookup y.1=some .cell/\((a4U (s.heap.objs.size+1) scope.names []).lookup y.1).isSome=true):=fun ⟨n,v⟩ hy=>by
  rcases S.par n (a1v hy).1 with q|q
  ·exact .inl q
  ·exact .inr ⟨q,a1X _ _ _ (.inl q)⟩
 refine codeAny_call_function G.depth (T _ _ lk) rfl S.co S.gen rfl (PySem.W.codeRec_of T B) (hb _ _ _ _ ?_)
 refine wpAny_newFunctionEnv_cells S.kind i fun env he Z x=>?_
 subst he
 refine ⟨L.keeps x.toInCall.keep,codeAny_func ?_⟩
 obtain ⟨t,ht,hq⟩:=h A outer s H vs Q E (G.deeper _) p
 have I:Inv (dW CX P w K z base N qual scope f a A outer s H E) [] (start N vs) H Z:=Jc S G.hd m hl r x
 refine Wa (ht [] Z (start N vs) H _ I hq) (fun fl R j=>?_) fun e R j=>j
 have fin:∀ {d:St}{H':Hp}{v:V}{u:Value},Inv (dW CX P w K z base N qual scope f a A outer s H E) [] d H' R->RelV v u->Q v H'->CE outer P w H s Q u R:=
  fun {d H' v u} J O q=>⟨v,H',J.os,J.bare,J.base,J.hok,O,q⟩
 cases fl with
 | ret u=>
  obtain ⟨v,d,H',J,O,q⟩:=j
  exact fin J O q
 | next=>
  obtain ⟨d,H',J,q⟩:=j
  exact fin (v:=V.non) (u:=Wb) J rfl q
 | brk=>
  obtain ⟨_,_,_,q⟩:=j
  exact Wl q
 | cont=>
  obtain ⟨_,_,_,q⟩:=j
  exact Wl q
end L2
namespace L2
open PySem PySem.Spec PyProof.Rows
section
variable {X:Cx}{x:Str}{p pos:W4}{e:Expr}{es:List Expr}{t:TA}{id T:String}{r:List V->Hp->VK->Prop}
noncomputable def v9 (r:List V->Hp->VK->Prop)(t:TA):TE:=fun σ H Q=>t σ H fun vs a=>r vs a Q
theorem Jd (hc:CallR X (.builtin id) r)(n:Gl X x)(o:X.mg x=none)(u:W3 x=some (.builtin id))(l:PA X (e::es) t)(q:x ≠ "__name__":=by decide) (b:(x == ("__debug__":Str))=false:=by decide)
  (m:V5 (e::es) X.env=(false,eval e X.env)::V5 es X.env:=by rfl)(c:(Yi pos (V5 es X.env)).any (·.1)=false:=by rfl):PE X (.Call (.Name x p) (e::es) [] pos) (v9 r t):=by
 intro a s d H Q I h
 refine Xo (jI I n o u ?_ q b)
 exact YK (aP (l pos a s d H _ I h) fun z y ⟨A,i,j,w,v⟩=>hc a y d i A z Q j w v) m c
theorem Je (hc:CallR X (.type T) r)(n:Gl X x)(o:X.mg x=none)(u:W3 x=some (.type T))(l:PA X (e::es) t)(q:x ≠ "__name__":=by decide) (b:(x == ("__debug__":Str))=false:=by decide)
  (m:V5 (e::es) X.env=(false,eval e X.env)::V5 es X.env:=by rfl)(c:(Yi pos (V5 es X.env)).any (·.1)=false:=by rfl):PE X (.Call (.Name x p) (e::es) [] pos) (v9 r t):=by
 intro a s d H Q I h
 refine Xo (jI I n o u ?_ q b)
 exact Xm (aP (l pos a s d H _ I h) fun z y ⟨A,i,j,w,v⟩=>hc a y d i A z Q j w v) m c
end
end L2
namespace L2
open PySem PySem.Spec PyProof.Rows
section
variable {κ:Type} [DecidableEq κ]
noncomputable def eN (kvs:List (κ×V))(k:κ):Option V:=(kvs.find? fun a=>decide (a.1=k)).map (·.2)
noncomputable def rW (kvs:List (κ×V))(k:κ)(v:V):List (κ×V):=
 if (kvs.any fun a=>decide (a.1=k))=true then kvs.map (fun a=>if a.1=k then (a.1,v) else a) else kvs++[(k,v)]
noncomputable def Bb (kvs:List (κ×V))(k:κ):List (κ×V):=kvs.filter fun a=>decide (a.1≠k)
theorem Bc {p:κ×V}{r:List (κ×V)}{k:κ}(e:p.1=k):eN (p::r) k=some p.2:=by simp [eN,Wv,e]
theorem Bd {p:κ×V}{r:List (κ×V)}{k:κ}(e:¬ p.1=k):eN (p::r) k=eN r k:=by simp [eN,Wv,e]
theorem RelO.isSome_eq {o:Option V}{u:Option Value}(r:RelO o u):o.isSome=u.isSome:=by
 cases o with
 | none=>cases u with
  | none=>rfl
  | some _=>exact (show False from r).elim
 | some _=>cases u with
  | none=>exact (show False from r).elim
  | some _=>rfl
theorem RelO.getD {o:Option V}{u:Option Value}{d:V}{d':Value}(r:RelO o u)(a:RelV d d'):RelV (o.getD d) (u.getD d'):=by
 cases o with
 | none=>cases u with
  | none=>exact a
  | some _=>exact (show False from r).elim
 | some _=>cases u with
  | none=>exact (show False from r).elim
  | some _=>exact r
theorem KV.val {kvs:List (κ×V)}{vs:List (κ×Value)}(r:KV kvs vs)(k:κ):RelO (eN kvs k) (a2o vs k):=by
 unfold KV at r
 induction r with
 | nil=>exact Yt
 | @cons p q l c h t j=>
  obtain ⟨d,i⟩:=h
  by_cases e:p.1=k
  ·have a:q.1=k:=d.symm.trans e
   have b:a2o (q::c) k=some q.2:=by simp [a2o,Wv,a]
   rw [Bc e,b];exact i
  ·have a:¬ q.1=k:=fun z=>e (d.trans z)
   have b:a2o (q::c) k=a2o c k:=by simp [a2o,Wv,a]
   rw [Bd e,b];exact j
theorem KV.any {kvs:List (κ×V)}{vs:List (κ×Value)}(r:KV kvs vs)(k:κ):(kvs.any fun a=>decide (a.1=k))=vs.any fun a=>decide (a.1=k):=by
 unfold KV at r
 induction r with
 | nil=>rfl
 | cons h t b=>rw [XQ,XQ,b,h.1]
theorem KV.drop {kvs:List (κ×V)}{vs:List (κ×Value)}(r:KV kvs vs)(k:κ):KV (Bb kvs k) (without vs k):=by
 unfold KV at r ⊢
 unfold Bb without
 induction r with
 | nil=>exact .nil
 | @cons p q l m h t d=>
  obtain ⟨c,j⟩:=h
  rw [Z1,Z1]
  by_cases e:p.1=k
  ·have a:¬ decide (p.1≠k)=true:=by simp [e]
   have b:¬ decide (q.1≠k)=true:=by simp [c.symm.trans e]
   rw [if_neg a,if_neg b];exact d
  ·have i:¬ q.1=k:=fun z=>e (c.trans z)
   have a:decide (p.1≠k)=true:=by simp [e]
   have b:decide (q.1≠k)=true:=by simp [i]
   rw [if_pos a,if_pos b];exact .cons ⟨c,j⟩ d
theorem KV.keys {kvs:List (κ×V)}{vs:List (κ×Value)}(r:KV kvs vs):kvs.map (·.1)=vs.map (·.1):=by
 unfold KV at r
 induction r with
 | nil=>rfl
 | cons h t a=>rw [VE,VE,a,h.1]
theorem KV.length {kvs:List (κ×V)}{vs:List (κ×Value)}(r:KV kvs vs):kvs.length=vs.length:=a1P r
end
noncomputable abbrev KT (H:Hp):List (List a9×V)->List (List a9×Addr×Value)->Prop:=Zc fun p q=>p.1=q.1/\H q.2.1=some (.tup (p.1.map kV))/\RelV p.2 q.2.2
theorem KT.val {H:Hp}{kvs:List (List a9×V)}{xs:List (List a9×Addr×Value)}(r:KT H kvs xs)(k:List a9):RelO (eN kvs k) ((a0j xs k).map (·.2)):=by
 induction r with
 | nil=>exact Yt
 | @cons p q l c h t j=>
  obtain ⟨d,_,i⟩:=h
  by_cases e:p.1=k
  ·have a:q.1=k:=d.symm.trans e
   have b:a0j (q::c) k=some q.2:=by simp [a0j,Wv,a]
   rw [Bc e,b];exact i
  ·have a:¬ q.1=k:=fun z=>e (d.trans z)
   have b:a0j (q::c) k=a0j c k:=by simp [a0j,Wv,a]
   rw [Bd e,b];exact j
theorem KT.keeps {H H':Hp}{kvs:List (List a9×V)}{xs:List (List a9×Addr×Value)}(r:KT H kvs xs)(c:∀ b a,H b=some (.tup a)->H' b=some (.tup a)):KT H' kvs xs:=
 Zc.mapP r fun _ _ z=>⟨z.1,c _ _ z.2.1,z.2.2⟩
section
variable {P:VQ}{w:V6}{H:Hp}{h:Wj}{a:Addr}
end
noncomputable def DGet (H:Hp)(a:Addr)(y:V)(r:Option V):Prop:=
 (∃ c k,Rd H a (.dK c)/\y=kV k/\r=eN c k)\/∃ c k b,Rd H a (.dT c)/\y=.ref b/\H b=some (.tup (k.map kV))/\r=eN c k
noncomputable def DPut (H:Hp)(a:Addr)(y v:V)(H':Hp):Prop:=
 (∃ c k,H a=some (.dK c)/\y=kV k/\c.length<VA/\H'=aK H a (.dK (rW c k v))) \/
 ∃ c k b,H a=some (.dT c)/\y=.ref b/\H b=some (.tup (k.map kV))/\c.length<VA/\H'=aK H a (.dT (rW c k v))
theorem DGet.k {H:Hp}{a:Addr}{kvs:List (a9×V)}{k:a9}(e:H a=some (.dK kvs)):DGet H a (kV k) (eN kvs k):=.inl ⟨kvs,k,.inl e,rfl,rfl⟩
theorem DGet.t {H:Hp}{a b:Addr}{kvs:List (List a9×V)}{k:List a9}(e:H a=some (.dT kvs))(c:H b=some (.tup (k.map kV))):DGet H a (.ref b) (eN kvs k):=.inr ⟨kvs,k,b,.inl e,rfl,c,rfl⟩
theorem DPut.k {H:Hp}{a:Addr}{kvs:List (a9×V)}{k:a9}{v:V}(e:H a=some (.dK kvs))(b:kvs.length<VA):DPut H a (kV k) v (aK H a (.dK (rW kvs k v))):=.inl ⟨kvs,k,e,rfl,b,rfl⟩
theorem DPut.t {H:Hp}{a b:Addr}{kvs:List (List a9×V)}{k:List a9}{v:V}(e:H a=some (.dT kvs))(c:H b=some (.tup (k.map kV)))(d:kvs.length<VA) :
  DPut H a (.ref b) v (aK H a (.dT (rW kvs k v))):=.inr ⟨kvs,k,b,e,rfl,c,d,rfl⟩
section
variable {X:Cx}{a5X:List (Addr×WY)}{σ:St}{H:Hp}{s:Vp}{a:Addr}{y v:V}{u r:Value}{o:Option V}{A:VU}{E:Value->Vp->Prop}
theorem Inv.big (I:Inv X a5X σ H s):WL<s.heap.objs.size:=by
 have h:Wh<s.heap.objs.size:=(I.mod.glob.keeps I.bk).lt
 exact Y0 (by decide) h
theorem wA {h':Wj}{t':Nat}{c:HO}(I:Inv X a5X σ H s)(i:pJ (H a))(h:YA a s.heap h')(e:∃ q,h'.get? a=some q)(new:ObjOk X.prog X.w (aK H a c) h' a c) :
  Inv X a5X σ (aK H a c) { s with heap:=h',toks:=t' }:=
 I.write (x:=a) (e:=a) i (.inl rfl) (fun b q d z=>(h.2 b d).trans z) e new
end
section
variable {X:Cx}{a5X:List (Addr×WY)}{σ:St}{H:Hp}{s:Vp}{a:Addr}{kvs:List (a9×V)}{k:a9}{u:Value}{A:VU}{E:Value->Vp->Prop}
end
noncomputable def Be (i:Expr):Prop:=∀ b a,a2c i false b a=operate [b,a] (a2p b a)
theorem Jf {prog:VQ}{w:V6}{A:VU}{E:Value->Vp->Prop}{s:Vp}{env:Z7}{b a:Expr}{pos:W4}{T id:String}{Q:Value->Vp->Prop}
  (p:X0 (.type T) "__getitem__" = pure (some (.builtin id))) (q:Be a)
  (h:VD (VM prog w) A (eval b env) (fun o e=>VD (VM prog w) A (eval a env) (fun i c=>c.TypeIs o T/\VD (VM prog w) A (a2p o i) Q E c) E e) E s) :
  VD (VM prog w) A (eval (.Subscript b a pos) env) Q E s:=by
 refine a2D (Wa h (fun o e l=>Wa l (fun i c d=>?_) fun _ _ x=>x) fun _ _ x=>x)
 obtain ⟨n,d⟩:=d
 unfold a1b
 refine Vl ?_
 rw [getitemInPython_of_ne n.not_modules]
 refine Vl (a0t n p ?_)
 have fin:VD (VM prog w) A (a2c a false o i) (fun r j=>VD (VM prog w) A (letTemporaryGo b o r >>= fun _=>pure r) Q E j) E c:=by
  rw [q o i]
  exact wpAny_operating (Wa d (fun r j m=>Vl (wpAny_letTemporaryGo (Vr m))) fun _ _ x=>x)
 first
  | exact Vr (Vl fin)
  | exact Vl (Vr (Vl fin))
  | exact Vl fin
section
variable {X:Cx}{o i e value:Expr}{pos pos' tpos:W4}{td ty tv:TE}
end
section
variable {X:Cx}{pos:W4}
end
noncomputable def Bf:List (TE×TE)->St->Hp->(List (V×V)->Hp->Prop)->Prop
 | [],_,H,Q=>Q [] H
 | (tk,tv)::r,σ,H,Q=>tk σ H fun x a=>tv σ a fun y b=>Bf r σ b fun d c=>Q ((x,y)::d) c
noncomputable abbrev VV:List (V×V)->List (Value×Value)->Prop:=Zc fun p q=>RelV p.1 q.1/\RelV p.2 q.2
noncomputable def Jg (X:Cx)(pos:W4)(keys:List (Option Expr))(a:List Expr)(b:List (TE×TE)):Prop:=
 ∀ (a5X:List (Addr×WY))(s:Vp)(σ:St)(H:Hp)(Q:List (V×V)->Hp->Prop),Inv X a5X σ H s->Bf b σ H Q->
  VD (VM X.prog X.w) X.A (evalPairs (pairTrees keys a X.env pos)) (fun h e=>∃ d c,Inv X a5X σ c e/\VV d h/\Q d c) X.xe s
structure M1 (X:Cx)(o:Expr)(m:Str)(apos:W4)(e:Expr)(cpos:W4):Prop where
 base:Ys o m X.env (eval o X.env)=eval o X.env
 few:((Yi cpos (V5 [e] X.env)).all (fun x=>!x.1)&&(a2B cpos (a0F [] X.env)).all (fun x=>x.1.isSome)
  && decide (([e]:List Expr).length+([]:List Ze).length+(if ([]:List Ze).isEmpty then 0 else 1)<30))=true
 line:(apos.endLine == cpos.line)=true
 trees:Yi cpos (V5 [e] X.env)=[(false,eval e X.env)]
structure M2 (X:Cx)(o:Expr)(m:Str)(apos:W4)(e f:Expr)(cpos:W4):Prop where
 base:Ys o m X.env (eval o X.env)=eval o X.env
 few:((Yi cpos (V5 [e,f] X.env)).all (fun x=>!x.1)&&(a2B cpos (a0F [] X.env)).all (fun x=>x.1.isSome)
  && decide (([e,f]:List Expr).length+([]:List Ze).length+(if ([]:List Ze).isEmpty then 0 else 1)<30))=true
 line:(apos.endLine == cpos.line)=true
 trees:Yi cpos (V5 [e,f] X.env)=[(false,eval e X.env),(false,eval f X.env)]
noncomputable def IsD (H:Hp)(a:Addr):Prop:=(∃ kvs,Rd H a (.dK kvs))\/∃ kvs,Rd H a (.dT kvs)
section
variable {X:Cx}{a5X:List (Addr×WY)}{σ:St}{H:Hp}{s:Vp}{a:Addr}{y d:V}{u r:Value}{o:Option V}{A:VU}{E:Value->Vp->Prop}
end
section
variable {X:Cx}{o e f:Expr}{apos cpos:W4}{td ty tx:TE}
end
section
variable {X:Cx}{a5X:List (Addr×WY)}{σ:St}{H:Hp}{s:Vp}{a:Addr}{kvs:List (a9×V)}{A:VU}{E:Value->Vp->Prop}
end
section
variable {X:Cx}{a5X:List (Addr×WY)}{σ:St}{H:Hp}{s:Vp}{a:Addr}{y:V}{u:Value}{A:VU}{E:Value->Vp->Prop}
end
end L2
namespace HT
open PySem PyProof.Rows
noncomputable def lexLt:List Int->List Int->Bool
 | [],[]=>false
 | [],_::_=>true
 | _::_,[]=>false
 | x::xs,y::ys=>if x=y then lexLt xs ys else decide (x<y)
theorem lexLt_cons (x y:Int)(xs a:List Int):lexLt (x::xs) (y::a)=if x=y then lexLt xs a else decide (x<y):=rfl
theorem Jh:lexLt [] []=false:=rfl
theorem Ji (y:Int)(a:List Int):lexLt [] (y::a)=true:=rfl
theorem Jj (x:Int)(xs:List Int):lexLt (x::xs) []=false:=rfl
theorem Jk (A:VU)(s:Vp)(a:Int)(t:a4V)(c:Int)(u:a4V):∃ e,Z4 A s (.int a t) (.int c u) e/\(e=true↔a=c):=
 ⟨(a == c),a2e a t c u,by simp⟩
theorem Jl (A:VU)(s:Vp)(a:Int)(t:a4V)(c:Int)(u:a4V)(prog:VQ)(w:V6)(E:Value->Vp->Prop)(Q:Value->Vp->Prop)(h:Q (.bool (decide (a<c))) s) :
  VD (VM prog w) A (richCompare .Lt (.int a t) (.int c u)) Q E s:=
 (a1E h:VD (VM prog w) A (Wt .Lt (.int a t) (.int c u)) Q E s)
section
open PySem.SeqAt
open PySem.AutoSeq1 (wpAny_loadPart')
open PySem.MeetsSeq PySem.MeetsSeq2 PySem.MeetsSeq3
theorem Jm (l b:Addr)(items i:Array Value)(n n2:Nat)(dd N:Option Addr)(sl T:Array (Option Value))(ns K:List Int)(U:X6 items.toList ns)(X:X6 i.toList K) :
  Meets (Builtin.«tuple.__lt__» ⟨[.ref l,.ref b],[]⟩)
   (fun _ R s=>s.heap.get? l=some { cls:=.type "tuple",dict:=dd,data:=.seq items n,slots:=sl }/\s.heap.get? b=some { cls:=.type "tuple",dict:=N,data:=.seq i n2,slots:=T } /\
    R (.ok (.ret (.bool (lexLt ns K)))) s):=
 .of_wp fun B w A R s h=>by
  obtain ⟨J,g,d,M,L⟩:=s;obtain ⟨hl,Z,h⟩:=h
  have f2:=AutoSeq1.sub_tuple_tuple
  have z1:items.size=ns.length:=by rw [<- U.length];simp
  have z2:i.size=K.length:=by rw [<- X.length];simp
  wp_walk using a5j hl,a5j Z,a1S _ (fun rest b Q=>b.1=none/\Q=⟨J,g,d,M,L⟩/\∃ (vs ws:List Value)(o m:List Int),rest=vs.zip ws /\
   X6 vs o/\X6 ws m/\o.length+i.size=m.length+items.size/\R (.ok (.ret (.bool (lexLt o m)))) ⟨J,g,d,M,L⟩) _
  case turn=>
   rintro ⟨y,x⟩ rest b Q ⟨E,rfl,vs,ws,o,m,r,G,p,j,v⟩
   cases G with
   | nil=>rw [List.zip_nil_left] at r;cases r
   | cons a t H=>
    cases p with
    | nil=>rw [a0E] at r;cases r
    | cons c u I=>
     rw [X5] at r
     injection r with hyx hrest
     injection hyx with hy hx
     subst hy hx
     rw [lexLt_cons] at v
     simp only [V1] at j
     obtain ⟨e,he,z⟩:=Jk A.in1 ⟨J,g,d,M,L⟩ a t c u
     refine Vl (he B w _ _ ?_)
     cases e with
     | true=>
      rw [if_pos (z.mp rfl)] at v
      wp_walk
      exact ⟨rfl,rfl,_,_,_,_,hrest,H,I,by omega,v⟩
     | false=>
      rw [if_neg (fun q=>absurd (z.mpr q) V7)] at v
      have O:=Jl A.in1 ⟨J,g,d,M,L⟩ a t c u B w
      wp_walk using O
      exact ⟨_,rfl,by simpa using v⟩
  case fin=>
   rintro ⟨b1,b2⟩ Q ⟨E,rfl,vs,ws,o,m,r,G,p,j,v⟩
   simp only at E
   subst E
   have Y:lexLt o m=decide (items.size<i.size):=by
    cases G with
    | nil=>
     cases p with
     | nil=>
      simp only [Zl] at j
      rw [Jh]
      exact (decide_eq_false (by omega)).symm
     | cons c u hw=>
      simp only [Zl,V1] at j
      rw [Ji]
      exact (decide_eq_true (by omega)).symm
    | cons a t Y=>
     cases p with
     | nil=>
      simp only [Zl,V1] at j
      rw [Jj]
      exact (decide_eq_false (by omega)).symm
     | cons c u hw=>
      rw [X5] at r
      cases r
   rw [Y] at v
   wp_walk
   exact ⟨_,rfl,by simpa [a5h] using v⟩
  case h=>
   exact ⟨rfl,rfl,items.toList,i.toList,ns,K,rfl,U,X,by omega,h⟩
end
section
variable {prog:VQ}{w:V6}{A:VU}{E:Value->Vp->Prop}{s:Vp}
theorem lt_tupInts {l b:Addr}{items a:Array Value}{ns i:List Int}{Q:Value->Vp->Prop}(G:Yu s.heap l items)(y:Yu s.heap b a)(z:X6 items.toList ns)(B:X6 a.toList i)
  (H:A.units<WX)(h:Q (.bool (lexLt ns i)) s):VD (VM prog w) A (Wt .Lt (.ref l) (.ref b)) Q E s:=by
 obtain ⟨⟨u,v,q,J⟩,r,hc,n,hd⟩:=id G
 obtain ⟨⟨p,m,j,o⟩,e,c,I,d⟩:=id y
 simp only at hc hd c d
 subst hc hd c d
 exact richCompare_meets_room (op:=.Lt) ⟨_,r,rfl⟩ ⟨_,e,rfl⟩ PySem.F.slot_tuple_lt PySem.F.entry_tuple_lt (PySem.F.args_tuple_lt_2 _ _) (Jm l b items a n I v m J o ns i z B)
  ⟨r,e,show XM (lexLt ns i)≠Value.notImplemented/\Q (.bool (lexLt ns i)) s from ⟨(fun x=>nomatch x),h⟩⟩ H
noncomputable def sIx (n d:Nat):Option Int->Nat
 | none=>d
 | some v=>if v<0 then (v+(n:Int)).toNat else min v.toNat n
theorem sIx_none (n d:Nat):sIx n d none=d:=rfl
theorem sIx_nat (n d k:Nat):sIx n d (some (k:Int))=min k n:=by
 show (if (k:Int)<0 then ((k:Int)+(n:Int)).toNat else min (k:Int).toNat n)=min k n
 rw [if_neg (by omega),ZT]
end
end HT
namespace L2
open PySem PySem.Spec PyProof.Rows
noncomputable abbrev TO:=St->Hp->(Option Int->Hp->Prop)->Prop
noncomputable def PO (X:Cx)(e:Option Expr)(t:TO):Prop:=
 ∀ (a5X:List (Addr×WY))(s:Vp)(σ:St)(H:Hp)(Q:Option Int->Hp->Prop),Inv X a5X σ H s->t σ H Q->
  VD (VM X.prog X.w) X.A (evalPart e X.env) (fun u b=>∃ o a,Inv X a5X σ a b/\IsPart u o/\Q o a) X.xe s
noncomputable def Jn:TO:=fun _ H Q=>Q none H
noncomputable def Jo (t:TE):TO:=fun σ H Q=>t σ H fun x a=>∃ i,x=.int i/\Q (some i) a
theorem wB {ns:List Int}:∀ {us:List Value},Vals (ns.map V.int) us->X6 us ns:=by
 induction ns with
 | nil=>intro us r;rw [Z6] at r;cases r;exact .nil
 | cons n ns a=>
  intro us r
  rw [VE] at r
  cases r with
  | cons b c=>
   obtain ⟨t,e⟩:=b
   subst e
   exact .cons n t (a c)
section
variable {X:Cx}{e:Expr}{te:TE}{lo hi:Option Expr}{tl th:TO}{pos p2:W4}
theorem Jp:PO X none Jn:=by
 intro a s b H Q I h
 rw [evalPart_none]
 exact Vr ⟨none,H,I,.none,h⟩
theorem Jq (h:PE X e te):PO X (some e) (Jo te):=by
 intro a s l H Q I hw
 rw [evalPart_some]
 refine aP (h a s l H _ I hw) fun u m ⟨x,b,c,j,d⟩=>?_
 obtain ⟨i,rfl,q⟩:=d
 obtain ⟨t,rfl⟩:=j
 exact ⟨some i,b,c,.int i t,q⟩
noncomputable def SlR (X:Cx)(r:V->Option Int->Option Int->Hp->VK->Prop):Prop:=
 ∀ (a5X:List (Addr×WY))(s:Vp)(σ:St)(H:Hp)(x:V)(v b c:Value)(lo hi:Option Int)(a:Addr)(Q:VK),Inv X a5X σ H s->RelV x v->s.heap.IsSliceOf a b c .none->IsPart b lo->IsPart c hi->r x lo hi H Q->
  ∃ T id,X0 (.type T) "__getitem__" = pure (some (.builtin id))/\s.TypeIs v T/\VD (VM X.prog X.w) X.A (a2p v (.ref a)) (EP X a5X σ Q) X.xe s
theorem SlR.or {r i:V->Option Int->Option Int->Hp->VK->Prop}(h:SlR X r)(h':SlR X i):SlR X (fun x lo hi H Q=>r x lo hi H Q\/i x lo hi H Q):=by
 intro a s o H x v m n lo hi l Q I j b c d q
 rcases q with q|q
 ·exact h a s o H x v m n lo hi l Q I j b c d q
 ·exact h' a s o H x v m n lo hi l Q I j b c d q
noncomputable def Jr (r:V->Option Int->Option Int->Hp->VK->Prop)(te:TE)(tl th:TO):TE:=fun σ H Q=>te σ H fun x a=>tl σ a fun l b=>th σ b fun u c=>r x l u c Q
theorem Js {r:V->Option Int->Option Int->Hp->VK->Prop}(J:SlR X r)(B:PE X e te)(G:PO X lo tl)(L:PO X hi th):PE X (.Subscript e (.Slice lo hi none p2) pos) (Jr r te tl th):=by
 intro a s d H Q I h
 refine a2D (aP (B a s d H _ I h) fun v Z ⟨x,n,p,Y,O⟩=>?_)
 refine wpAny_Slice (aP (G a Z d n _ p O) fun i s2 ⟨l,o,w,M,R⟩=>aP (L a s2 d o _ w R) fun j c ⟨u,m,y,N,U⟩=>?_)
 rw [evalPart_none]
 refine Vr ?_
 have z:Inv X a d m { c with heap:=c.heap.push { cls:=.type "slice",data:=.fields #[i,j,.none] } }:=y.kept (t':=c.toks) fun b ob q=>Vo _ q
 obtain ⟨T,id,A,K,E⟩:=J a { c with heap:=c.heap.push { cls:=.type "slice",data:=.fields #[i,j,.none] } } d m x v i j l u c.heap.objs.size Q z Y (a1x ..) M N U
 show VD (VM X.prog X.w) X.A (a1b e (.Slice lo hi none p2) v (.ref c.heap.objs.size)) (EP X a d Q) X.xe { c with heap:=c.heap.push { cls:=.type "slice",data:=.fields #[i,j,.none] } }
 exact a5N (ops:=[.ref c.heap.objs.size,v]) K A E (by with_unfolding_all rfl)
noncomputable def kC (xs:List V)(lo hi:Option Int):List V:=(xs.drop (HT.sIx xs.length 0 lo)).take (HT.sIx xs.length xs.length hi - HT.sIx xs.length 0 lo)
theorem Jt (xs:List V)(lo hi:Option Int):(kC xs lo hi).length<=xs.length:=by
 unfold kC
 rw [XY,Z0]
 omega
end
end L2
namespace L2
open PySem PySem.Spec PyProof.Rows
noncomputable def lN (n:Nat)(i:Int):Option Nat:=if 0<=i then (if i<n then some i.toNat else none) else if -(n:Int)<=i then some (i+n).toNat else none
noncomputable def atI {a:Type}(xs:List a)(i:Int):Option a:=(lN xs.length i).bind fun j=>xs[j]?
theorem Ju {n:Nat}{i:Int}{j:Nat}(h:lN n i=some j):seqIndex? i n=some j/\j<n/\-(n:Int)<=i/\i<n:=by
 unfold lN at h
 by_cases b:0<=i
 ·rw [if_pos b] at h
  by_cases a:i<n
  ·rw [if_pos a] at h
   have e:i.toNat=j:=VX h
   exact ⟨by rw [seqIndex_of b a,e],by omega,by omega,a⟩
  ·rw [if_neg a] at h;cases h
 ·rw [if_neg b] at h
  by_cases a:-(n:Int)<=i
  ·rw [if_pos a] at h
   have e:(i+n).toNat=j:=VX h
   exact ⟨by rw [seqIndex_neg (by omega) a,e],by omega,a,by omega⟩
  ·rw [if_neg a] at h;cases h
theorem wC {a:Type}{xs:List a}{i:Int}{v:a}(h:atI xs i=some v):∃ j,seqIndex? i xs.length=some j/\xs[j]? = some v/\j<xs.length/\-(xs.length:Int)<=i/\i<xs.length:=by
 unfold atI at h
 cases e:lN xs.length i with
 | none=>rw [e] at h;cases h
 | some j=>
  rw [e] at h
  obtain ⟨b,c,d,l⟩:=Ju e
  exact ⟨j,b,h,c,d,l⟩
noncomputable def wD (b:Expr):Prop:=∀ o i,a2c b false o i=operate [o,i] (a2p o i)
noncomputable def IxR (X:Cx)(r:R2):Prop:=
 ∀ (b a:Expr)(a5X:List (Addr×WY))(s:Vp)(σ:St)(H:Hp)(x y:V)(v u:Value)(Q:VK),Inv X a5X σ H s->RelV x v->RelV y u->r x y H Q->
  a2c a false v u=operate [v,u] (a2p v u)->VD (VM X.prog X.w) X.A (a1b b a v u) (EP X a5X σ Q) X.xe s
noncomputable def MtR (X:Cx)(id:String)(r:V->List V->Hp->VK->Prop):Prop:=
 ∀ (a5X:List (Addr×WY))(s:Vp)(σ:St)(H:Hp)(x:V)(xs:List V)(v:Value)(us:List Value)(Q:VK),Inv X a5X σ H s->RelV x v->Vals xs us->r x xs H Q->
  VD (VM X.prog X.w) X.A (call (.builtin id) (v::us)) (EP X a5X σ Q) X.xe s
section
variable {X:Cx}{a b:Expr}{ta tb:TE}{pos:W4}
theorem IxR.or {r j:R2}(h:IxR X r)(h':IxR X j):IxR X (fun x y H Q=>r x y H Q\/j x y H Q):=by
 intro d c e s n H x y v u Q I l m q i
 rcases q with q|q
 ·exact h d c e s n H x y v u Q I l m q i
 ·exact h' d c e s n H x y v u Q I l m q i
theorem MtR.or {id:String}{r d:V->List V->Hp->VK->Prop}(h:MtR X id r)(h':MtR X id d):MtR X id (fun x xs H Q=>r x xs H Q\/d x xs H Q):=by
 intro c s l H x xs v j Q I i e q
 rcases q with q|q
 ·exact h c s l H x xs v j Q I i e q
 ·exact h' c s l H x xs v j Q I i e q
theorem Jv {r:R2}(l:IxR X r)(i:PE X a ta)(j:PE X b tb)(m:wD b):PE X (.Subscript a b pos) (pP r ta tb):=by
 intro c s w H Q I h
 exact a2D (vP i j I h fun v u p x y d e n o q=>l a b c p w d x y v u Q e n o q (m _ _))
noncomputable def Bg (K:Vk):R2:=fun x y H Q=>∃ p xs i v,x=.ref p/\y=.int i/\SqL K H p xs/\atI xs i=some v/\Q v H
noncomputable def Bh (K:Vk):R2:=fun x y H Q=>∃ p xs i v,x=.ref p/\y=.int i/\SqT K H p xs/\atI xs i=some v/\Q v H
noncomputable def Bi:R2:=fun x y H Q=>∃ z i c,x=.str z/\y=.int i/\z.length<=VA/\atI z.cps.toList i=some c/\Q (.str ⟨#[c]⟩) H
theorem ix_list:IxR X (Bg X.K):=by
 intro A o c s J H x y v u Q I T U h G
 obtain ⟨p,xs,i,z,rfl,rfl,R,N,q⟩:=h
 cases T
 obtain ⟨t,rfl⟩:=U
 obtain ⟨l,r,m,hz⟩:=I.list R
 obtain ⟨j,d,K,Z,L,M⟩:=wC N
 obtain ⟨w,B,n⟩:=r.get K
 have O:=r.length
 have hn:=lM
 have fin:EP X c J Q w s:=⟨z,H,I,n,q⟩
 by_cases E:0<=i
 ·have e:i.toNat=j:=by
   rw [seqIndex_of E M] at d
   exact VX d
  exact item_listR m.isList E (by omega) (by rw [e];simpa using B) fin G
 ·have e:(i+(l.toArray.size:Int)).toNat=j:=by
   rw [seqIndex_neg (by omega) L] at d
   rw [VG,<- O]
   exact VX d
  exact a3r (x:=w) m.isList.typeIs a1z.lookup
   (wpAny_getItem_list_neg (Q:=fun r Y=>r=w/\EP X c J Q r Y) m.isList (by omega) (by rw [VG]<;>omega) (by omega) (by rw [e];simpa using B) ⟨rfl,fin⟩) G
theorem ix_tup:IxR X (Bh X.K):=by
 intro l e c s n H x y v u Q I M N h K
 obtain ⟨p,xs,i,z,rfl,rfl,J,E,q⟩:=h
 cases M
 obtain ⟨t,rfl⟩:=N
 obtain ⟨L,r,m,Z⟩:=I.tuple J
 obtain ⟨j,A,B,R,T,U⟩:=wC E
 obtain ⟨w,o,d⟩:=r.get B
 have G:=r.length
 have Y:=lM
 have fin:EP X c n Q w s:=⟨z,H,I,d,q⟩
 exact a3r (x:=w) m.typeIs slot_tuple_getitem.lookup
  (getItem_tuple (j:=j) (Q:=fun r O=>r=w/\EP X c n Q r O) m (by omega) (by omega) (by rw [VG,<- G];exact A) (by simpa using o) ⟨rfl,fin⟩) K
theorem Jw:IxR X Bi:=by
 intro e d m s O H x y v u Q I G J h E
 obtain ⟨z,i,c,rfl,rfl,M,A,q⟩:=h
 obtain ⟨t,rfl⟩:=G
 obtain ⟨N,rfl⟩:=J
 obtain ⟨j,l,p,K,r,w⟩:=wC A
 have B:z.cps.toList.length=z.length:=by simp [Str.length]
 rw [B] at l r w
 have L:=lM
 exact a5N (typeIs_str s z t) slot_str_getitem.lookup (getItem_str (c:=c) (by
  have n:decide (i < -(2 ^ 63:Int))=false:=decide_eq_false (by omega)
  have o:decide (i >= 2 ^ 63)=false:=decide_eq_false (by omega)
  rw [n,o,a2g]) (by rw [l];simpa using p) ⟨.str ⟨#[c]⟩,H,I.tok _,⟨_,rfl⟩,q⟩) E
noncomputable def Bj (K:Vk):R2:=fun x y H Q=>Bg K x y H Q\/Bh K x y H Q\/Bi x y H Q
theorem Jx:IxR X (Bj X.K):=ix_list.or (ix_tup.or Jw)
theorem Inv.lst {a5X:List (Addr×WY)}{σ:St}{H:Hp}{s:Vp}{p:Addr}{xs:List V}(I:Inv X a5X σ H s)(h:H p=some (.lst xs)) :
  ∃ (c:List Value)(n:Nat),Vals xs c/\s.heap.get? p=some { cls:=.type "list",data:=.seq c.toArray n }/\xs.length<=VA:=by
 obtain ⟨z,c,n,r,e⟩:=I.hok p _ h
 exact ⟨c,n,r,e,z⟩
theorem Jy (lo c:Option Int)(n:Nat):(Yd lo c none n).1=((HT.sIx n 0 lo:Nat):Int)/\(Yd lo c none n).2.1=((HT.sIx n n c:Nat):Int)/\(Yd lo c none n).2.2=1:=by
 refine ⟨?_,?_,rfl⟩
 ·cases lo with
  | none=>simp [Yd,HT.sIx]
  | some i=>
   simp only [Yd,HT.sIx,a3l,show (1:Int)>0 by decide,if_true]
   by_cases h:i<0
   ·simp only [h,if_true]<;>omega
   ·simp only [h,if_false]<;>omega
 ·cases c with
  | none=>simp [Yd,HT.sIx]
  | some i=>
   simp only [Yd,HT.sIx,a3l,show (1:Int)>0 by decide,if_true]
   by_cases h:i<0
   ·simp only [h,if_true]<;>omega
   ·simp only [h,if_false]<;>omega
theorem Jz (c:List Value)(lo d:Option Int):a3d c.toArray lo d none=((c.drop (HT.sIx c.length 0 lo)).take (HT.sIx c.length c.length d - HT.sIx c.length 0 lo)).toArray:=by
 obtain ⟨e,h,i⟩:=Jy lo d c.toArray.size
 unfold a3d
 rw [e,h,i]
 simp only [sliceRange_one,pick_run,VG]<;>rfl
noncomputable def wF (K:Vk):V->Option Int->Option Int->Hp->VK->Prop:=fun x lo c H Q=>∃ a xs,x=.ref a/\SqL K H a xs/\∀ p,H p=none->Q (.ref p) (aK H p (.lst (kC xs lo c)))
theorem JA:SlR X (wF X.K):=by
 intro l s G H x v B E e i A Q I y m u w h
 obtain ⟨a,c,rfl,n,q⟩:=h
 cases y
 obtain ⟨p,r,j,o⟩:=I.list n
 have d:=r.length
 refine ⟨"list",_,a1z.lookup,j.isList.typeIs,?_⟩
 refine a2T j.isList m u w .none (by simp) ?_ (by rw [VG]<;>omega)
 rw [Jz,<- d]
 refine ⟨.ref s.heap.objs.size,_,I.laid (t':=s.toks) (o:=.lst (kC c e i)) (fun b z q=>Vo _ q) (Vv _) ?_,rfl,q _ (I.hok.fresh (Vv _))⟩
 exact ⟨Wu (Jt c e i) o,_,0,(r.drop (HT.sIx c.length 0 e)).take (HT.sIx c.length c.length i - HT.sIx c.length 0 e),VC _ rfl⟩
theorem Bk:OpR X (Wt .NotIn) (fun x y H Q=>∃ i j,x=.str i/\y=.str j/\Q (.bl (!(!(WW j i 0 j.length 1).isEmpty))) H):=by
 intro c s m H x y v u Q I d e h
 obtain ⟨i,j,rfl,rfl,q⟩:=h
 obtain ⟨t,rfl⟩:=d
 obtain ⟨l,rfl⟩:=e
 exact notIn_str ⟨.bl _,H,I,rfl,q⟩
theorem call_len_seq:CallR X (.builtin "len") (fun xs H Q=>∃ p d,xs=[.ref p]/\(SqL X.K H p d\/SqT X.K H p d)/\Q (.int d.length) H):=by
 intro m s x H xs w Q I r h
 obtain ⟨p,d,rfl,e,q⟩:=h
 obtain ⟨u,rfl,o⟩:=eD r
 cases o
 have v:=lM
 rcases e with e|e
 ·obtain ⟨i,l,j,n⟩:=I.list e
  have c:=l.length
  exact Calls.call_len_list j.isList (by simp only [VG]<;>omega) ⟨.int d.length,H,I.tok _,⟨s.toks+1,by rw [VG,c]⟩,q⟩
 ·obtain ⟨i,l,j,n⟩:=I.tuple e
  have c:=l.length
  exact len_tuple j (by simp only [VG]<;>omega) ⟨.int d.length,H,I.tok _,⟨s.toks+1,by rw [VG,c]⟩,q⟩
theorem JB:CallR X (.builtin "len") (fun xs H Q=>∃ z,xs=[.str z]/\z.length<=VA/\Q (.int z.length) H):=by
 intro c s j H xs i Q I r h
 obtain ⟨z,rfl,e,q⟩:=h
 obtain ⟨u,rfl,t,rfl⟩:=eD r
 have d:=lM
 exact len_str (by omega) ⟨.int z.length,H,I.tok _,⟨_,rfl⟩,q⟩
theorem CallR.or {f:Value}{r d:List V->Hp->VK->Prop}(h:CallR X f r)(h':CallR X f d):CallR X f (fun xs H Q=>r xs H Q\/d xs H Q):=by
 intro c s j H xs i Q I e q
 rcases q with q|q
 ·exact h c s j H xs i Q I e q
 ·exact h' c s j H xs i Q I e q
theorem call_list_of:CallR X (.type "list") (fun xs H Q=>∃ p j,xs=[.ref p]/\(SqL X.K H p j\/SqT X.K H p j)/\∀ l,H l=none->Q (.ref l) (aK H l (.lst j))):=by
 intro y s G H xs J Q I r h
 obtain ⟨p,j,rfl,v,q⟩:=h
 obtain ⟨u,rfl,E⟩:=eD r
 cases E
 have fin:∀ (c:List Value),Vals j c->j.length<=VA->∀ (h':Wj)(d:Nat),(∀ b B,s.heap.get? b=some B->h'.get? b=some B)->
   h'.get? s.heap.objs.size=some { cls:=.type "list",dict:=none,data:=.seq c.toArray d,slots:=#[] }->EP X y G Q (.ref s.heap.objs.size) { s with heap:=h' }:=fun c i w h' d x e=>
  ⟨.ref s.heap.objs.size,_,I.laid (t':=s.toks) x (Vv _) (show ObjOk X.prog X.w _ h' _ (.lst j) from ⟨w,c,d,i,e⟩),rfl,q _ (I.hok.fresh (Vv _))⟩
 rcases v with v|v
 ·obtain ⟨c,i,A,w⟩:=I.list v
  have m:=i.length
  obtain ⟨o,z,hc,n,hd⟩:=A.isList
  exact call_list_seq p (.inl rfl) z hc hd (fun h' d x e=>fin c i w h' d x e) (by simp only [VG]<;>omega)
 ·obtain ⟨c,i,A,w⟩:=I.tuple v
  have m:=i.length
  obtain ⟨o,z,hc,n,hd⟩:=A
  exact call_list_seq p (.inr rfl) z hc hd (fun h' d x e=>fin c i w h' d x e) (by simp only [VG]<;>omega)
theorem JC:CallR X (.type "tuple") (fun xs H Q=>∃ p d,xs=[.ref p]/\((SqL X.K H p d/\∀ l,H l=none->Q (.ref l) (aK H l (.tup d)))\/(SqT X.K H p d/\Q (.ref p) H))):=by
 intro i s z H xs G Q I r h
 obtain ⟨p,d,rfl,h⟩:=h
 obtain ⟨u,rfl,E⟩:=eD r
 cases E
 rcases h with ⟨m,q⟩|⟨m,q⟩
 ·obtain ⟨c,v,n,y⟩:=I.list m
  have x:=v.length
  refine call_tuple_list n.isList (fun j B=>?_) (by simp only [VG]<;>omega)
  have w:Inv X i z H { s with heap:=j }:=I.kept (t':=s.toks) B
  have A:Inv X i z (aK H j.objs.size (.tup d)) { s with heap:=j.push { cls:=.type "tuple",data:=.seq c.toArray } }:=
   w.laid (t':=s.toks) (fun b o e=>Vo _ e) (Vv _) (show ObjOk X.prog X.w _ _ _ (.tup d) from ⟨y,c,v,TupN.new _ _⟩)
  exact ⟨.ref j.objs.size,_,A,rfl,q _ (w.hok.fresh (Vv _))⟩
 ·obtain ⟨c,v,n,y⟩:=I.tuple m
  exact call_tuple_same n ⟨.ref p,H,I,rfl,q⟩
noncomputable def rX (K:Vk)(T:String)(x:V)(H:Hp):Prop:=match x with
 | .str _=>T = "str"
 | .int _=>T = "int"
 | .ref p=>(T = "list"/\∃ d,SqL K H p d)\/(T = "tuple"/\∃ o,K.lookup p=some o/\o.cls=.type "tuple"/\o.dict=none) \/
   (T = "dict"/\((∃ c,H p=some (.dK c))\/∃ c,H p=some (.dT c)))\/(T = "set"/\∃ S n,H p=some (.set S n))
 | _=>False
theorem Bl {a5X:List (Addr×WY)}{σ:St}{H:Hp}{s:Vp}{T:String}{x:V}{v:Value}(I:Inv X a5X σ H s)(r:RelV x v)(ty:rX X.K T x H) :
  s.TypeIs v T/\∀ a,v=.ref a->∃ m,s.heap.get? a=some m/\m.dict=none:=by
 cases x with
 | str z=>
  obtain ⟨t,rfl⟩:=r
  cases (show T = "str" from ty)
  exact ⟨typeIs_str s z t,fun _ e=>nomatch e⟩
 | int i=>
  obtain ⟨t,rfl⟩:=r
  cases (show T = "int" from ty)
  exact ⟨a4t s i t,fun _ e=>nomatch e⟩
 | ref p=>
  cases r
  rcases ty with ⟨rfl,y,u⟩|⟨rfl,o,d,hc,hd⟩|⟨rfl,d⟩|⟨rfl,S,n,d⟩
  ·obtain ⟨w,_,q,_⟩:=I.list u
   refine ⟨q.isList.typeIs,fun a e=>?_⟩
   cases e
   obtain ⟨o,n,e,c,hd,_⟩:=q
   exact ⟨o,e,hd⟩
  ·refine ⟨⟨o,I.kIn p o d,hc⟩,fun a e=>?_⟩
   cases e
   exact ⟨o,I.kIn _ o d,hd⟩
  ·have z:∃ o,s.heap.get? p=some o/\o.ExactDict:=by
    rcases d with ⟨l,d⟩|⟨l,d⟩
    ·obtain ⟨_,_,_,_,o,_,_,e,h,_⟩:=I.hok p _ d
     exact ⟨o,e,h⟩
    ·obtain ⟨_,_,_,_,o,_,_,e,h,_⟩:=I.hok p _ d
     exact ⟨o,e,h⟩
   obtain ⟨o,e,h⟩:=z
   refine ⟨⟨o,e,h.1⟩,fun a j=>?_⟩
   cases j
   exact ⟨o,e,h.2.1⟩
  ·obtain ⟨o,_,_,_,e,h,_⟩:=I.hok p _ d
   refine ⟨⟨o,e,h.1⟩,fun a j=>?_⟩
   cases j
   exact ⟨o,e,h.2.1⟩
 | _=>exact Wl ty
noncomputable def Bm (K:Vk)(T:String)(r:V->List V->Hp->VK->Prop)(to:TE):TE:=fun σ H Q=>to σ H fun x c=>rX K T x c/\r x [] c Q
noncomputable def Bn (K:Vk)(T:String)(r:V->List V->Hp->VK->Prop)(to:TE)(t:TA):TE:=fun σ H Q=>to σ H fun x c=>rX K T x c/\t σ c fun xs d=>r x xs d Q
variable {o e:Expr}{es:List Expr}{to:TE}{t:TA}{name:Str}{apos cpos:W4}{T id:String}{r:V->List V->Hp->VK->Prop}
theorem JD (z:PlainAttrs T)(slot:Slot T name id)(j:a3q (.builtin id)=pure (.type "method_descriptor")) (w:MtR X id r)(y:PE X o to)
  (c:Ys o name X.env (eval o X.env)=eval o X.env:=by rfl)(d:(apos.endLine == cpos.line)=true:=by rfl):PE X (.Call (.Attribute o name apos) [] [] cpos) (Bm X.K T r to):=by
 intro i s n H Q I h
 refine a0h c d (aP (y i s n H _ I h) fun v B ⟨x,p,l,m,ty,A⟩=>?_)
 obtain ⟨q,u⟩:=Bl l m ty
 exact ⟨T,id,z,slot,j,q,u,YT rfl (a0q (w i B n p x [] v [] Q l m .nil A))⟩
theorem JE (L:PlainAttrs T)(slot:Slot T name id)(m:a3q (.builtin id)=pure (.type "method_descriptor")) (G:MtR X id r)(J:PE X o to)(E:PA X (e::es) t)
  (i:Ys o name X.env (eval o X.env)=eval o X.env:=by rfl)
  (l:((Yi cpos (V5 (e::es) X.env)).all (fun x=>!x.1)&&(a2B cpos (a0F [] X.env)).all (fun x=>x.1.isSome)
   && decide ((e::es).length+([]:List Ze).length+(if ([]:List Ze).isEmpty then 0 else 1)<30))=true:=by rfl)
  (j:(apos.endLine == cpos.line)=true:=by rfl)(K:V5 (e::es) X.env=(false,eval e X.env)::V5 es X.env:=by rfl)(c:(Yi cpos (V5 es X.env)).any (·.1)=false:=by rfl) :
  PE X (.Call (.Attribute o name apos) (e::es) [] cpos) (Bn X.K T r to t):=by
 intro d s n H Q I h
 refine wpAny_Call_method_late i l j rfl (aP (J d s n H _ I h) fun v R ⟨x,w,p,u,ty,M⟩=>?_)
 obtain ⟨A,B⟩:=Bl p u ty
 refine ⟨T,id,L,slot,m,A,B,?_⟩
 have q:=E cpos d R n w _ p M
 rw [K] at q ⊢
 refine YT (by show (false||(Yi cpos (V5 es X.env)).any (·.1))=false;rw [c]<;>rfl) (Calls.evalArgs_plain ?_)
 exact aP q fun Y U ⟨Z,y,z,O,N⟩=>G d U n y x Z v Y Q z u O N
end
end L2
namespace L2
open PySem PySem.Spec PyProof.Rows
noncomputable def jJ (X:Cx)(id:String)(r:V->List V->Hp->VK->Prop):Prop:=
 ∀ (a5X:List (Addr×WY))(s:Vp)(σ:St)(H:Hp)(x:V)(xs:List V)(v:Value)(us:List Value)(Q:VK),Inv X a5X σ H s->RelV x v->Vals xs us->r x xs H Q->
  VD (VM X.prog X.w) X.A (call (.builtin id) (v::us)) (EP X a5X σ Q) X.xe s
theorem Vals.one:∀ {x:V}{us:List Value},Vals [x] us->∃ u,us=[u]/\RelV x u
 | _,_,.cons r .nil=>⟨_,rfl,r⟩
theorem Vals.zero:∀ {us:List Value},Vals [] us->us=[]
 | _,.nil=>rfl
theorem Vals.dropLast {xs:List V}{us:List Value}(h:Vals xs us):Vals xs.dropLast us.dropLast:=by
 induction h with
 | nil=>exact .nil
 | cons r t a=>
  cases t with
  | nil=>exact .nil
  | cons q b=>exact .cons r a
theorem Vals.rep {xs:List V}{us:List Value}(h:Vals xs us):∀ k:Nat,Vals (VW k xs).flatten (VW k us).flatten
 | 0=>.nil
 | k+1=>by
  rw [Xu,Xu,Yl,Yl]
  exact Vals.append h (Vals.rep h k)
theorem JF {d:Type}(l:List d):l.eraseIdx (l.length - 1)=l.dropLast:=by
 induction l with
 | nil=>rfl
 | cons a r c=>
  cases r with
  | nil=>rfl
  | cons b r=>
   have e:(a::b::r).length - 1=((b::r).length - 1)+1:=by
    have h:(a::b::r).length=r.length+2:=rfl
    have i:(b::r).length=r.length+1:=rfl
    omega
   rw [e,List.eraseIdx_cons_succ,c]
   all_goals rfl
theorem Bo (b:List Value):∀ (k:Nat)(a:List Value),
  a3n (fun d h=>d++h) a.toArray (VW k b.toArray)=(a++(VW k b).flatten).toArray
 | 0,a=>by simp
 | k+1,a=>by
  have e:a.toArray++b.toArray=(a++b).toArray:=by simp
  have c:(a++b)++(VW k b).flatten=a++(VW (k+1) b).flatten:=by
   rw [Xu,Yl,a3I]
  rw [<- c,<- Bo b k (a++b),<- e,Xu,XG]
section
variable {X:Cx}{a5X:List (Addr×WY)}{σ:St}{H:Hp}{s:Vp}{l b:Addr}{xs ys zs:List V}
theorem Inv.lset {a its':List Value}{n:Nat}{f:Array Value->Array Value}{t':Nat}(I:Inv X a5X σ H s)(c:H l=some (.lst xs))
  (e:s.heap.get? l=some { cls:=.type "list",data:=.seq a.toArray n }) (h:f a.toArray=its'.toArray)(j:Vals ys its')(hz:ys.length<=VA) :
  Inv X a5X σ (aK H l (.lst ys)) { s with heap:=s.heap.update l (Xb f),toks:=t' }:=by
 have q:=PySem.IsL.update e f
 rw [h] at q
 refine I.write (x:=l) (e:=l) (by rw [c];exact trivial) (.inl rfl) (fun m u d i=>(Wr s.heap (Xb f) (WB d)).trans i) ⟨_,q⟩ ?_
 exact ⟨hz,its',_,j,q⟩
theorem Inv.lnew {a:List Value}{t':Nat}(I:Inv X a5X σ H s)(c:Vals ys a)(hz:ys.length<=VA) :
  Inv X a5X σ (aK H s.heap.objs.size (.lst ys)) { s with heap:=s.heap.push { cls:=.type "list",data:=.seq a.toArray },toks:=t' }:=
 I.laid (fun _ _ q=>Vo _ q) (Vv _) ⟨hz,a,0,c,VC _ rfl⟩
theorem Inv.fresh (I:Inv X a5X σ H s):H s.heap.objs.size=none:=I.hok.fresh (Vv _)
theorem Inv.lstM (I:Inv X a5X σ H s)(c:H l=some (.lst xs)):xs.length<=VA/\∃ (a:List Value)(n:Nat),Vals xs a/\xs.length=a.length/\s.heap.get? l=some { cls:=.type "list",data:=.seq a.toArray n }:=by
 obtain ⟨z,a,n,r,e⟩:=I.hok l _ c
 exact ⟨z,a,n,r,r.length,e⟩
theorem Bp {n:Nat}(h:n<=VA):Yn n=false:=by
 unfold Yn
 exact decide_eq_false (by omega)
end
section
variable {X:Cx}
noncomputable def Bq:V->List V->Hp->VK->Prop:=fun x vs H Q=>∃ l xs y,x=.ref l/\vs=[y]/\H l=some (.lst xs)/\xs.length<VA/\Q .non (aK H l (.lst (xs++[y])))
theorem Br:jJ X "list.append" Bq:=by
 intro c s B H x w v p Q I j i h
 obtain ⟨l,A,y,rfl,rfl,b,o,q⟩:=h
 cases j
 obtain ⟨u,rfl,d⟩:=i.one
 obtain ⟨z,a,n,r,m,e⟩:=I.lstM b
 refine Zr F.slot_list_append ⟨_,e,rfl⟩ F.entry_list_append (F.args_list_append_2 _ _) (PySem.list_append l a.toArray n u (by rw [VG];omega)) ⟨e,?_⟩
 refine ⟨.non,_,I.lset (its':=a++[u]) b e (by simp) (r.append (.cons d .nil)) ?_,rfl,q⟩
 rw [VR,a0g]
 omega
noncomputable def Bs:V->List V->Hp->VK->Prop:=fun x vs H Q=>∃ l b xs a,x=.ref l/\vs=[.ref b]/\H l=some (.lst xs)/\H b=some (.lst a)/\xs.length+a.length<=VA/\Q .non (aK H l (.lst (xs++a)))
theorem JG:jJ X "list.extend" Bs:=by
 intro m s T H x M v L Q I G E h
 obtain ⟨l,b,N,R,rfl,rfl,j,p,K,q⟩:=h
 cases G
 obtain ⟨u,rfl,B⟩:=E.one
 cases B
 obtain ⟨z,c,n,r,J,e⟩:=I.lstM j
 obtain ⟨O,a,y,A,w,o⟩:=I.lstM p
 have i:c.toArray.size+a.toArray.size<=VA:=by rw [VG,VG];omega
 have d:¬ (!c.toArray.isEmpty&&Yn (c.toArray.size+a.toArray.size))=true:=by
  rw [Bp i,a4q]
  exact V7
 refine Zr F.slot_list_extend ⟨_,e,rfl⟩ F.entry_list_extend (F.args_list_extend_2 _ _)
  (AutoSeq1.list_extend_list_list_0 l c.toArray n b a.toArray y d (by rw [VG];omega) (by omega)) ⟨e,o,?_⟩
 refine ⟨.non,_,I.lset (its':=c++a) j e (by simp) (r.append A) ?_,rfl,q⟩
 rw [VR]
 omega
noncomputable def Bt:V->List V->Hp->VK->Prop:=fun x vs H Q=>∃ l xs y,x=.ref l/\vs=[]/\H l=some (.lst xs)/\xs[xs.length - 1]? = some y/\Q y (aK H l (.lst xs.dropLast))
theorem JH:jJ X "list.pop" Bt:=by
 intro i s J H x E v B Q I A w h
 obtain ⟨l,G,y,rfl,rfl,d,o,q⟩:=h
 cases A
 have b:=w.zero
 subst b
 obtain ⟨z,a,n,r,j,e⟩:=I.lstM d
 obtain ⟨u,m,p⟩:=r.get o
 have c:a.toArray[a.toArray.size - 1]? = some u:=by
  show a.toArray[a.length - 1]? = some u
  rw [<- XC,<- j]
  exact m
 refine Zr F.slot_list_pop ⟨_,e,rfl⟩ F.entry_list_pop (F.args_list_pop_1 _) (MeetsSeq.list_pop_last l a.toArray n u c (by rw [VG];omega)) ⟨e,?_⟩
 refine ⟨y,_,I.lset (its':=a.dropLast) d e ?_ r.dropLast ?_,p,q⟩
 ·show a.toArray.eraseIdxIfInBounds (a.toArray.size - 1)=a.dropLast.toArray
  rw [VG,List.eraseIdxIfInBounds_toArray,JF]
 ·rw [List.length_dropLast]
  omega
noncomputable def Bu:R2:=fun x y H Q=>∃ l b xs a,x=.ref l/\y=.ref b/\H l=some (.lst xs)/\H b=some (.lst a)/\xs.length+a.length<=VA/\∀ p,H p=none->Q (.ref p) (aK H p (.lst (xs++a)))
theorem JI:OpR X (YI .Add) Bu:=by
 intro d s N H x y v u Q I A B h
 obtain ⟨l,b,K,M,rfl,rfl,o,m,G,q⟩:=h
 cases A
 cases B
 obtain ⟨z,c,n,r,E,e⟩:=I.lstM o
 obtain ⟨L,a,J,w,p,i⟩:=I.lstM m
 refine PySem.P.add_list e i ?_ (by rw [VG,VG];omega)
 have j:c.toArray++a.toArray=(c++a).toArray:=by simp
 rw [j]
 exact ⟨.ref _,_,I.lnew (t':=s.toks) (r.append w) (by rw [VR];omega),rfl,q _ I.fresh⟩
noncomputable def Bv:R2:=fun x y H Q=>∃ l k xs,x=.ref l/\y=.int k/\H l=some (.lst xs)/\-(2 ^ 63)<=k/\k<2 ^ 63/\xs.length * k.toNat<=VA /\
 ∀ p,H p=none->Q (.ref p) (aK H p (.lst (VW k.toNat xs).flatten))
theorem JJ {b:Type}(xs:List b)(k:Nat):(VW k xs).flatten.length=k * xs.length:=by
 induction k with
 | zero=>simp
 | succ k a=>rw [Xu,Yl,VR,a,a0Z,a5b]
theorem JK:OpR X (YI .Mult) Bv:=by
 intro B s U H x y v u Q I M N h
 obtain ⟨l,k,T,rfl,rfl,K,G,J,A,q⟩:=h
 cases M
 obtain ⟨t,rfl⟩:=N
 obtain ⟨z,b,n,r,L,e⟩:=I.lstM K
 have j:b.toArray.size * k.toNat<=VA:=by rw [VG,<- L];exact A
 have d:¬ b.toArray.size * k.toNat>(2 ^ 63 - 1) / 8:=by
  have:(VA:Nat)<=(2 ^ 63 - 1) / 8:=by decide
  omega
 have i:¬ (!Builtin.List.listFitsIndex k)=true:=by
  rw [fitsIndex_both G J]
  exact V7
 have c:¬ Yn (b.toArray.size * k.toNat)=true:=by
  rw [Bp j]
  exact V7
 have o:a3n (fun p w=>p++w) #[] (VW (if b.toArray.isEmpty=true then 0 else k.toNat) b.toArray)=(VW k.toNat b).flatten.toArray:=by
  have E:∀ m:Nat,a3n (fun p w=>p++w) #[] (VW m b.toArray)=(VW m b).flatten.toArray:=fun m=>by
   have:=Bo b m []
   rw [V2] at this
   exact this
  rw [E]
  cases b with
  | nil=>simp
  | cons a R=>rw [if_neg (by simp)]
 refine wpAny_binaryOp_repeat_ref (T:="list") (U:="int") (by decide) ⟨_,e,rfl⟩ (fun O=>a4t O k t) noFill_list_mul F.fills_int_mul F.slot_int_rmul repeat_list F.slot_int_index.lookup
  (Zr F.slot_int_rmul (a4t s k t) F.entry_int_rmul (F.args_int_rmul_2 _ _) (int___rmul___int_list k t l b.toArray n)
   ⟨e,rfl,⟨_,e,rfl⟩,Zr F.slot_list_mul ⟨_,e,rfl⟩ F.entry_list_mul (F.args_list_mul_2 _ _) (AutoListH.list___mul___list_int_3 l b.toArray n k t i d c) ⟨e,?_⟩⟩)
 rw [o]
 exact ⟨.ref _,_,I.lnew (t':=s.toks) (r.rep k.toNat) (by rw [JJ,Nat.mul_comm];exact A),rfl,q _ I.fresh⟩
end
section
variable {prog:VQ}{w:V6}{A:VU}{E:Value->Vp->Prop}{s:Vp}
set_option maxRecDepth 100000 in
end
section
variable {X:Cx}
end
end L2
namespace Att
open PySem PySem.W PySem.Calls PyProof.Rows
theorem JL {P:Params}{h:Wj}:∀ (ns:List Int)(vs:List Value),WellAll P h vs (ns.map Zf)->X6 vs ns:=by
 intro ns
 induction ns with
 | nil=>
  intro vs w
  rw [Z6] at w
  cases w
  exact .nil
 | cons n ns c=>
  intro vs w
  rw [VE] at w
  cases w with
  | cons a b=>
   cases a
   exact .cons _ _ (c _ b)
theorem script_of {l:OpenLaw}{n:Nat}(y:l.most=some n){P:Params}{h:Wj}{args:List WData}{e:List Value}
  (c:l.row.toRowW.claim.pre args=true)(s:WellAll P h e args) :
  ∃ a u b,e=[Vz a]/\args=[WData.list (b.map Zf)]/\h.get? a=some { cls:=.type "list",data:=.seq u.toArray }/\X6 u b/\b.length<=n:=by
 have p:WShape.hasAll [] args [.list .int]=true:=(pre_splitW c).1
 have hc:l.pre.holds [] { args:=args } = true:=(pre_splitW c).2
 obtain ⟨d,r,rfl,v,w⟩:=hasAllW_cons p
 obtain rfl:=hasAllW_nil w
 obtain ⟨G,rfl,x⟩:=hasW_list v
 obtain ⟨b,rfl⟩:=items_int x
 have j:b.length<=n:=by
  unfold OpenLaw.pre at hc
  have m:(WTm.not (.lt (.lit (.int (n:Int))) (.len (.arg 0)))).holds [] { args:=[.list (b.map .int)] } = true:=by
   have m:=(holds_andW hc).1
   rw [y] at m
   exact m
  have o:=condW_of m (w_not (w_lt w_lit (w_len_list (w_arg rfl))))
  rw [Vm] at o
  refine a4b fun q=>?_
  have A:(n:Int)<((b.length:Nat):Int):=by omega
  first
   | (rw [decide_eq_true A] at o;exact absurd o (by decide))
   | (simp at o;omega)
 cases s with
 | cons B E=>
  cases E
  cases B with
  | list z i=>exact ⟨_,_,b,rfl,rfl,z,JL b _ i,j⟩
theorem post_true (l:OpenLaw)(args:List WData):l.row.toRowW.claim.post args (.bool true) args=true:=
 postW_of (r:=l.row.toRowW) (X:=(true == true))
  (show a4M [] (.bool true) .bool=true by first|rfl|decide|simp [a4M,WShape.arms,WShape.armsAll])
  (show (WTm.eq .res (.lit (.bool true))).value [] { args:=args,res:=some (.bool true),after:=args } = some (.bool (true == true)) from w_eq_bool (w_res rfl) w_lit) rfl
section
variable {prog:VQ}{w:V6}{A:VU}{E:Value->Vp->Prop}{s:Vp}{K:Frag}
end
end Att
namespace L2
open PySem PySem.Spec PyProof.Rows
theorem wG:∀ {vs:List Value}{ns:List Int},X6 vs ns->Vals (ns.map V.int) vs
 | _,_,.nil=>.nil
 | _,_,.cons n t h=>.cons ⟨t,rfl⟩ (wG h)
noncomputable def Bw (H:Hp):Prop:=∀ b,H b=none\/∃ o xs,H b=some (.frz o (.lst xs))
theorem law_call {P:VQ}{w:V6}{K:Vk}{M Z:Str->Option Value}{CX:fX}{k:Nat}{R a:Addr}{fd:Xc}{x:Str}{sp:Sp}{c:Vp}{vs:List Value}{ns:List Int}
  (KX:K.In c.heap)(I:c.heap.Ns Wh M)(i:c.heap.Ns a4z Z)(U:∀ x:Str,x ≠ "__name__"->Z x=W3 x) (G:c.heap.NoLimit)(hg:c.gens = #[])
  (O:c.heap.get? a=some { cls:=.type "list",data:=.seq vs.toArray }) (hi:X6 vs ns)(hl:ns.length<=VA)(hr:Room k a1C)
  (F:∀ j:Wj,K.In j->j.Ns Wh M->FnOk P w K M j CX k R fd [x] sp)(A:∀ (s:Vp)(u:Value),a1K s fd ⟨[u],[]⟩ [(x,u)])
  (Y:∀ H:Hp,Bw H->SqL K H a (ns.map V.int)->sp [.ref a] H (fun v _=>v=.bl true) fun _ _ _=>False)
  (T:∀ H e l,CX [] H c (fun _ _ _=>False) e l->False) :
  ZM (VM P w) a1C (.call (.ref R) ⟨[.ref a],[]⟩) (fun r l=>r=.ok (.ret (.bool true))/\OldK c.heap l.heap/\l.os=c.os/\Z8 l.gens) c:=by
 have rv:=wG hi
 have L:=hi.length
  -- from an abstract heap in which nothing but the script may be tracked
 have y:∀ H:Hp,Bw H->SqL K H a (ns.map V.int)->HOk P w H c.heap->(∀ b,H b≠none->b=a)->(H a≠none->K.lookup a=none)->
   ZM (VM P w) a1C (.call (.ref R) ⟨[.ref a],[]⟩) (fun r l=>r=.ok (.ret (.bool true))/\OldK c.heap l.heap/\l.os=c.os/\Z8 l.gens) c:=by
  intro H hO hS hok hA hK
  have kM:∀ {b:Addr}{o:WY},c.heap.get? b=some o->H b=none->(jH c.heap H).get? b=some o:=fun e n=>Hi e n
  have noA:∀ {b:Addr}{o:WY}{es:Array WD}{ep:Nat},c.heap.get? b=some o->o.data=.dict es ep->H b=none:=fun {b o es ep} e d=>by
   cases q:H b with
   | none=>rfl
   | some u=>
    have Q:b=a:=hA b (by rw [q];simp)
    subst Q
    rw [O] at e;cases e
    have d':a2S vs.toArray _=a1e es ep:=d
    cases d'
  have p:∀ {b:Addr}{m:Str->Option Value},c.heap.Ns b m->(jH c.heap H).Ns b m:=fun {b m} ⟨o,es,ep,e,d,r⟩=>⟨o,es,ep,kM e (noA e d),d,r⟩
  have E:K.In (jH c.heap H):=fun b o e=>kM (KX b o e) (by
   cases q:H b with
   | none=>rfl
   | some u=>
    have Q:b=a:=hA b (by rw [q];simp)
    subst Q
    rw [hK (by rw [q];simp)] at e;cases e)
  have hM:Mod K M (jH c.heap H):=⟨E,p I,⟨Z,p i,U⟩,let ⟨mc,h1,h2⟩:=G;⟨mc,p h1,h2⟩⟩
  have e0:Env0 P w K M (jH c.heap H) a1C [] c H:=⟨rfl,hM,fun b o e=>Hj e,a0d (Hh _ _),trivial,fun b i=>absurd (show b∈([]:List Addr) from i) (by simp),hok,.of_eq hg⟩
  refine ZL ((F _ E (p I)).run a1C [] c H ⟨[.ref a],[]⟩ [.ref a] [.ref a] _ _ hr e0 (A c (.ref a)) (.cons rfl .nil) (Y H hO hS)) fun r l h=>?_
  cases r with
  | error e=>exact (T H e l h).elim
  | ok fl=>
   cases fl with
   | next=>exact Wl h
   | brk=>exact Wl h
   | cont=>exact Wl h
   | ret u=>
    obtain ⟨v,H',os,B,un,J,r',q⟩:=h
    have q':v=.bl true:=q
    subst q'
    obtain rfl:u=XM true:=r'
    refine ⟨rfl,OldK.of_keep fun b o e=>?_,os,B⟩
    cases q:H b with
    | none=>exact un.keep b o e q (by intro z;exact absurd (show b∈([]:List Addr) from z) (by simp)) (by simp)
    | some u=>
     rcases hO b with z|⟨ob,xs,z⟩
     ·rw [q] at z;cases z
     ·have z2:=un.frzs b ob _ z
      obtain ⟨e1,_⟩:=hok b _ z
      obtain ⟨e2,_⟩:=J b _ z2
      rw [e] at e1;cases e1
      exact e2
 cases X:K.lookup a with
 | some o=>
    -- the script is one of the module's own objects
  have e:=KX a o X
  rw [O] at e
  cases e
  refine y (fun _=>none) (fun _=>.inl rfl) (.inr ⟨_,vs.toArray,_,X,rfl,rfl,rfl,by rw [VG,L];exact hl,by simpa using rv⟩) (fun b u z=>by have N:(none:Option HO)=some u:=z;cases N) (fun b z=>absurd rfl z) fun z=>absurd rfl z
 | none=>
  refine y (fun b=>if b=a then some (.frz { cls:=.type "list",data:=.seq vs.toArray } (.lst (ns.map V.int))) else none) (fun b=>?_) (.inl (.inr ⟨{ cls:=.type "list",data:=.seq vs.toArray },if_pos rfl⟩)) (fun b u z=>?_) (fun b z=>?_) fun _=>X
  ·by_cases i:b=a
   ·exact .inr ⟨_,_,if_pos i⟩
   ·exact .inl (if_neg i)
  ·by_cases i:b=a
   ·have N:=(if_pos i).symm.trans z
    cases N
    subst i
    exact ⟨O,by rw [Vm];exact hl,vs,_,rv,O⟩
   ·have N:=(if_neg i).symm.trans z
    cases N
  ·by_cases i:b=a
   ·exact i
   ·exact absurd (if_neg i) z
end L2
namespace L2
open PySem PySem.Spec PyProof.Rows
end L2
namespace L2
open PySem PySem.Spec PyProof.Rows
noncomputable def gR (s:Stmt):Arguments:=match s with
 | .FunctionDef _ a _ _ _ _ _ _ _ _=>a
 | _=>{ posonlyargs:=[],args:=[],vararg:=none,kwonlyargs:=[],kw_defaults:=[],kwarg:=none,defaults:=[] }
noncomputable def dM (s:Stmt):List Stmt:=match s with
 | .FunctionDef _ _ b _ _ _ _ _ _ _=>b
 | _=>[]
noncomputable def bR (s:Stmt):X1:=match s with
 | .FunctionDef _ _ _ _ _ _ sc _ _ _=>sc
 | _=>{ kind:=.function,names:=[],isGenerator:=false,isCoroutine:=false }
noncomputable abbrev eE:fX:=fun _ _ _ _ _ _=>False
noncomputable abbrev E0:XK:=fun _ _ _=>False
theorem Bx {X:Cx}:rV eE X E0:=fun _ _ _ _ _ _ _ h=>h.elim
structure Fun (K:Vk)(x qual:Str)(st:Stmt)(f:Addr)(fd:Xc):Prop where
 ex:∃ (oc:Value)(od:Option Addr)(kV doc pm:Value)(an:Option Addr)(cdv ct:Value)(osl:Array (Option Value)),
  fd=Xe x qual (gR st) (dM st) (bR st) .none kV doc pm an cdv ct/\K.lookup f=some ⟨oc,od,.func fd,osl⟩/\Zs K cdv qual=true
 kp:Ww K (.ref f)=true
section
variable {P:VQ}{w:V6}{K:Vk}{mg:Str->Option Value}{base:Wj}
theorem Fun.ok {x qual:Str}{st:Stmt}{f:Addr}{e:Xc}{N ps:List Str}{k:Nat}{sp:Sp}(F:Fun K x qual st f e)(S:FnScope N ps (bR st))(len:∀ vs H Q E,sp vs H Q E->vs.length=ps.length)
  (b:∀ (a:Value)(A:VU)(outer:List Z7)(s:Vp)(H:Hp)(vs:List V)(Q:VK)(E:XK),Room k (A.deeper (envOfC qual (bR st) s.heap.objs.size f a))->sp vs H Q E->
   ∃ t,PSs (dW eE P w K mg base N qual (bR st) f a A outer s H E).nox (dM st) t/\t { nx:=fun _ i=>Q .non i,rt:=Q } (start N vs) H):FnOk P w K mg base eE (k+1) f e ps sp:=by
 obtain ⟨p,r,kV,j,u,o,a,ct,n,rfl,m,c⟩:=F.ex
 refine v8 m c S len fun A outer s H vs Q E l d=>?_
 obtain ⟨t,h,q⟩:=b a A outer s H vs Q E l d
 exact ⟨t,h.nox,q⟩
theorem Fun.binds {x qual:Str}{st:Stmt}{f:Addr}{d:Xc}{ps:List Str}(F:Fun K x qual st f d)
  (h:∀ (kV b c:Value)(an:Option Addr)(a ct:Value)(us:List Value),us.length=ps.length->a1D (Xe x qual (gR st) (dM st) (bR st) .none kV b c an a ct) ⟨us,[]⟩=pure (ps.zip us)):Binds K d ps []:=by
 obtain ⟨l,m,kV,b,c,an,a,ct,i,rfl,j,e⟩:=F.ex
 exact .all (h kV b c an a ct)
theorem By {x qual:Str}{st:Stmt}{f:Addr}{h:Value}{i an:Option Addr}{d:Array (Option Value)}{kV b e a ct:Value}(l:K.lookup f=some ⟨h,i,.func (Xe x qual (gR st) (dM st) (bR st) .none kV b e an a ct),d⟩)
  (c:Zs K a qual=true)(k:Ww K (.ref f)=true):Fun K x qual st f (Xe x qual (gR st) (dM st) (bR st) .none kV b e an a ct):=⟨⟨h,i,kV,b,e,an,a,ct,d,rfl,l,c⟩,k⟩
end
theorem JM {A:VU}{k:Nat}(a:Room k A):A.units+1<WX:=Nat.lt_of_le_of_lt (Nat.add_le_add_left (by decide:1<=64) _) a.units
section
variable {X:Cx}
end
theorem kD {A B:Prop}(h:B):if false=true then A else B:=by
 rw [if_neg V7]
 exact h
theorem kE {A B:Prop}(h:A):if true=true then A else B:=by
 rw [if_pos rfl]
 exact h
noncomputable def Same (H H':Hp):Prop:=∀ b o,H b=some o->H' b=some o
theorem Same.trans {H d e:Hp}(a:Same H d)(b:Same d e):Same H e:=fun c o h=>b c o (a c o h)
theorem Same.free {H H':Hp}(e:Same H H'){l:Addr}(h:H' l=a4B):H l=a4B:=by
 cases q:H l with
 | none=>rfl
 | some o=>
  rw [e l o q] at h
  cases h
theorem Same.seq {K:Vk}{H H':Hp}{a:Addr}{xs:List V}(e:Same H H')(h:SqL K H a xs):SqL K H' a xs:=by
 rcases h with (h|⟨o,h⟩)|h
 ·exact .inl (.inl (e _ _ h))
 ·exact .inl (.inr ⟨o,e _ _ h⟩)
 ·exact .inr h
section
variable {κ:Type} [DecidableEq κ]
end
end L2
namespace Lw
open PySem L2
noncomputable def aN (i:Nat):Stmt:=WO.main.body.getD i (.Pass ⟨0,0,0,0⟩)
noncomputable def Vw:VQ:={ WO with main:={ WO.main with body:=aN 1::aN 2::aN 4::aN 5::aN 6::aN 7::aN 8::aN 9::aN 10::aN 11::aN 12::aN 13::aN 14::aN 15::aN 16::aN 18::aN 19::aN 20::aN 21::aN 22::aN 23::aN 25::aN 27::aN 28::aN 29::aN 30::aN 32::aN 33::aN 34::aN 35::aN 36::aN 38::aN 40::aN 41::aN 42::aN 43::aN 44::aN 45::aN 46::aN 47::aN 48::aN 49::aN 50::aN 51::aN 52::aN 53::aN 54::aN 55::aN 56::[] } }
noncomputable abbrev vS (x:String)(n:Nat):Value:=a0V (Xy x) n
noncomputable abbrev vI (i:Int):Value:=V3 i 0
noncomputable abbrev vR (a:Addr):Value:=Vz a
noncomputable abbrev vN:Value:=Wb
noncomputable abbrev cO (fs:Array Value):WY:={ cls:=Ws "code",data:=ZO fs }
noncomputable abbrev kO (x y:String)(a b c:Nat)(l n i j k:Int)(r:Addr)(q:Int)(vs:Array Value)(t d:Int)(e:Nat):WY:={ cls:=Ws "code",data:=ZO (#[vS x a,vS x b,vS y c,vI l,vI n,vI i,vI j,vI k,vR r,XM true,vI q]++vs++#[vI t,vI d,vS y e]) }
noncomputable abbrev tO (fs:Array Value):WY:={ cls:=Ws "tuple",data:=a2S fs }
noncomputable abbrev fO (x:Str)(n:Nat)(m:Value)(c:Addr):WY:=⟨Ws "function",none,.func (Xe x x (gR (aN n)) (dM (aN n)) (bR (aN n)) Wb Wb Wb m none (Vz c) Wb),#[]⟩
noncomputable abbrev eO (P:X2)(x:String)(n:Nat)(v:Value):WD:={ hash:=PyData.keyHash P (Xy x),key:=a0V (Xy x) n,val:=v }
noncomputable abbrev eR (P:X2)(x:String)(n:Nat)(a:Addr):WD:=eO P x n (vR a)
noncomputable abbrev kA (p:Addr×WY)(R:Vk):Vk:=p::R
noncomputable abbrev vM (n:Nat):Value:=[vS "creasecourt.places" 232,vS "creasecourt.sheets" 353,vS "creasecourt.wedges" 395,vS "creasecourt.corners" 403,vS "creasecourt.layings" 433,vS "creasecourt.laid" 476,vS "law_creasecourt_k43_laid_edge_by_edge" 492].getD n vN
noncomputable abbrev kF (x:String)(r a:Nat)(l n:Int)(t i:Nat)(m:Value)(R:Vk):Vk:=(r+5,kO x "/claim/cut.py" a (a+1) (a+2) l n 0 0 3 r 181 #[vR (r+1),vN,vR (r+2),vR (r+3),vR (r+4)] t l (t+1))::(r+6,fO x i m (r+5))::R
noncomputable abbrev kG (x:String)(r a:Nat)(l n:Int)(t i:Nat)(m:Value)(R:Vk):Vk:=(r+3,kO x "/claim/cut.py" a (a+1) (a+2) l n 0 0 3 r 181 #[vR (r+1),vN,vN,vN,vR (r+2)] t l (t+1))::(r+4,fO x i m (r+3))::R
noncomputable def m4 (i j:Nat):Stmt:=match aN i with|.ClassDef _ _ _ b _ _ _ _ _ _ _=>b.getD j (.Pass ⟨0,0,0,0⟩)|_=>.Pass ⟨0,0,0,0⟩
noncomputable def Kx:X2 → Vk:=fun P=>kA (3,{ cls:=Ws "dict",data:=a1e #[eO P "__name__" 165 (vS "law_creasecourt_k43_laid_edge_by_edge" 492),eO P "__doc__" 166 vN,eO P "__package__" 167 vN,eO P "__loader__" 168 (Xl "__main__.__loader__#opaque"),eO P "__spec__" 169 vN,eR P "__annotations__" 170 6,eR P "__builtins__" 171 4,eO P "__file__" 173 (vS "/claim/cut.py" 172),eO P "__cached__" 174 vN,eR P "CreaseError" 206 24,eR P "Barred" 231 44,eR P "EIGHT_EDGES" 256 55,eR P "FOUR_EDGES" 269 60,eR P "is_whole" 276 67,eR P "is_corner" 283 74,eR P "is_edge" 290 81,eR P "is_quarter" 297 88,eR P "line_of" 304 95,eR P "beside" 313 102,eR P "edges_of" 319 107,eR P "moved_by" 325 112,eR P "edges_round" 332 119,eR P "number_by" 340 126,eR P "mirrored" 352 133,eR P "is_within" 363 140,eR P "places_within" 369 145,eR P "quarters_in" 375 150,eR P "corners_in" 381 155,eR P "neighbours_in" 387 160,eR P "marks_in" 394 167,eR P "is_good" 402 172,eR P "creases_at" 410 177,eR P "gaps_at" 416 182,eR P "barred" 424 189,eR P "check_corners" 432 196,eR P "STILL" 441 197,eR P "laying_by" 450 204,eR P "mirror_in" 457 211,eR P "led" 467 218,eR P "then" 475 225,eR P "laid" 491 232,eR P "_law_cell" 502 239,eR P "_law_inner" 513 246,eR P "_law_line" 522 253,eR P "_law_beside" 531 260,eR P "_law_quarters" 542 267,eR P "_law_led" 556 274,eR P "_law_over" 572 281,eR P "_law_value" 580 288,eR P "_law_grown" 596 295,eR P "_law_by_lines" 608 302,eR P "_law_creased" 614 307,eR P "_law_sheet" 629 314,eR P "_law_asked" 639 321,eR P "_law_is_laying" 645 326,eR P "_law_agree" 651 331,eR P "_law_right" 657 336,eR P "law" 669 343] 58 }) <|
 kA (2,{ cls:=vN,data:=a1e #[] }) <|
 kA (22,tO #[]) <|
 kA (23,{ cls:=Ws "dict",data:=a1e #[eO P "__module__" 196 (vS "creasecourt.errors" 187),eO P "__firstlineno__" 200 (V3 2 199),eR P "__static_attributes__" 201 22,eR P "__weakref__" 203 25,eO P "__doc__" 204 vN] 3 }) <|
 kA (24,{ cls:=Ws "type",data:=Data.cls { name:=Xy "CreaseError",bases:=[Ws "ValueError"],mro:=[vR 24,Ws "ValueError",Ws "Exception",Ws "BaseException",Ws "object"],ns:=23,qualname:=Xy "CreaseError",subclasses:=[vR 44] },slots:=#[some (vR 15),none,some (vS "CreaseError" 189),some (vS "CreaseError" 197),some (Xl "ValueError.__new__"),some (XM true)] }) <|
 kA (25,{ cls:=Ws "getset_descriptor",data:=ZO #[vS "__weakref__" 202,vR 24,Xl "ExceptionGroup.__weakref__",vN] }) <|
 kA (40,cO #[vS "__init__" 219,vS "Barred.__init__" 220,vS "/claim/cut.py" 221,vI 6,vI 2,vI 0,vI 0,vI 3,vR 35,XM true,vI 181,vR 36,vN,vR 37,vR 38,vR 39,vI 224,vI 6,vS "/claim/cut.py" 225]) <|
 kA (41,⟨Ws "function",none,.func (Xe "__init__" "Barred.__init__" (gR (m4 2 0)) (dM (m4 2 0)) (bR (m4 2 0)) vN vN vN (vS "creasecourt.errors" 187) (none) (vR 40) vN),#[]⟩) <|
 kA (42,tO #[vS "corner" 227]) <|
 kA (43,{ cls:=Ws "dict",data:=a1e #[eO P "__module__" 214 (vS "creasecourt.errors" 187),eO P "__firstlineno__" 218 (V3 4 217),eR P "__init__" 226 41,eR P "__static_attributes__" 228 42,eO P "__doc__" 229 vN] 2 }) <|
 kA (44,{ cls:=Ws "type",data:=Data.cls { name:=Xy "Barred",bases:=[vR 24],mro:=[vR 44,vR 24,Ws "ValueError",Ws "Exception",Ws "BaseException",Ws "object"],ns:=43,qualname:=Xy "Barred" },slots:=#[some (vR 28),none,some (vS "Barred" 207),some (vS "Barred" 215),some (Xl "ValueError.__new__"),some (XM true)] }) <|
 kA (47,tO #[V3 2 234,V3 0 235]) <|
 kA (48,tO #[V3 1 236,V3 1 237]) <|
 kA (49,tO #[V3 0 238,V3 2 239]) <|
 kA (50,tO #[V3 (-1) 241,V3 1 242]) <|
 kA (51,tO #[V3 (-2) 244,V3 0 245]) <|
 kA (52,tO #[V3 (-1) 247,V3 (-1) 249]) <|
 kA (53,tO #[V3 0 250,V3 (-2) 252]) <|
 kA (54,tO #[V3 1 253,V3 (-1) 255]) <|
 kA (55,tO #[vR 47,vR 48,vR 49,vR 50,vR 51,vR 52,vR 53,vR 54]) <|
 kA (56,tO #[V3 1 257,V3 1 258]) <|
 kA (57,tO #[V3 (-1) 260,V3 1 261]) <|
 kA (58,tO #[V3 (-1) 263,V3 (-1) 265]) <|
 kA (59,tO #[V3 1 266,V3 (-1) 268]) <|
 kA (60,tO #[vR 56,vR 57,vR 58,vR 59]) <|
 kF "is_whole" 61 270 12 1 274 6 (vM 0) <|
 kF "is_corner" 68 277 14 1 281 7 (vM 0) <|
 kF "is_edge" 75 284 16 1 288 8 (vM 0) <|
 kF "is_quarter" 82 291 20 1 295 9 (vM 0) <|
 kF "line_of" 89 298 24 1 302 10 (vM 0) <|
 kF "beside" 96 305 28 1 311 11 (vM 0) <|
 kG "edges_of" 103 314 32 1 317 12 (vM 0) <|
 kG "moved_by" 108 320 34 2 323 13 (vM 0) <|
 kF "edges_round" 113 326 36 1 330 14 (vM 0) <|
 kF "number_by" 120 333 38 2 338 15 (vM 0) <|
 kF "mirrored" 127 341 46 2 350 16 (vM 0) <|
 kF "is_within" 134 355 59 3 361 18 (vM 1) <|
 kG "places_within" 141 364 61 2 367 19 (vM 1) <|
 kG "quarters_in" 146 370 66 2 373 20 (vM 1) <|
 kG "corners_in" 151 376 68 2 379 21 (vM 1) <|
 kG "neighbours_in" 156 382 70 3 385 22 (vM 1) <|
 kF "marks_in" 161 388 72 1 392 23 (vM 1) <|
 kG "is_good" 168 397 75 1 400 25 (vM 2) <|
 kG "creases_at" 173 405 82 2 408 27 (vM 3) <|
 kG "gaps_at" 178 411 85 2 414 28 (vM 3) <|
 kF "barred" 183 417 92 1 422 29 (vM 3) <|
 kF "check_corners" 190 425 97 1 430 30 (vM 3) <|
 kA (197,tO #[V3 1 435,V3 0 436,V3 0 437,V3 1 438,V3 0 439,V3 0 440]) <|
 kF "laying_by" 198 442 103 3 448 33 (vM 4) <|
 kF "mirror_in" 205 451 105 1 455 34 (vM 4) <|
 kF "led" 212 458 107 2 465 35 (vM 4) <|
 kF "then" 219 468 111 2 473 36 (vM 4) <|
 kF "laid" 226 478 114 1 489 38 (vM 5) <|
 kF "_law_cell" 233 494 128 2 500 40 (vM 6) <|
 kF "_law_inner" 240 503 135 2 511 41 (vM 6) <|
 kF "_law_line" 247 514 142 1 520 42 (vM 6) <|
 kF "_law_beside" 254 523 151 1 529 43 (vM 6) <|
 kF "_law_quarters" 261 532 158 2 540 44 (vM 6) <|
 kF "_law_led" 268 543 165 2 554 45 (vM 6) <|
 kF "_law_over" 275 557 168 2 570 46 (vM 6) <|
 kF "_law_value" 282 573 178 2 578 47 (vM 6) <|
 kF "_law_grown" 289 581 180 3 594 48 (vM 6) <|
 kF "_law_by_lines" 296 597 193 2 606 49 (vM 6) <|
 kG "_law_creased" 303 609 200 4 612 50 (vM 6) <|
 kF "_law_sheet" 308 615 223 3 627 51 (vM 6) <|
 kF "_law_asked" 315 630 231 1 637 52 (vM 6) <|
 kG "_law_is_laying" 322 640 239 1 643 53 (vM 6) <|
 kG "_law_agree" 327 646 243 3 649 54 (vM 6) <|
 kG "_law_right" 332 652 250 2 655 55 (vM 6) <|
 kF "law" 337 658 264 1 667 56 (vM 6) <| []
noncomputable def As:List Addr:=[3,2,22,23,24,25,40,41,42,43,44,47,48,49,50,51,52,53,54,55,56,57,58,59,60,66,67,73,74,80,81,87,88,94,95,101,102,106,107,111,112,118,119,125,126,132,133,139,140,144,145,149,150,154,155,159,160,166,167,171,172,176,177,181,182,188,189,195,196,197,203,204,210,211,217,218,224,225,231,232,238,239,245,246,252,253,259,260,266,267,273,274,280,281,287,288,294,295,301,302,306,307,313,314,320,321,325,326,330,331,335,336,342,343]
theorem pQ:∀ P,As=(Kx P).map (·.1):=fun _=>by kernel_rfl
open PySem.W PyProof.Rows in
theorem run:LeftO (a2m WN).prog Vw [] (fun s=>xlAt Vw [] s&&recOk (a4P (a3F (a2m WN))) s) (Hook.obs (a5S Kx As pQ)) (Hook.val (a5S Kx As pQ)) 4046:=fun w=>by kernel_rfl
end Lw
set_option maxHeartbeats 4000000
namespace L3
open PySem
open PySem.SetTable (Probe Met Slot bits runEnd leap turns insertAt sizeAbove)
namespace Tb
noncomputable def lO (m:Nat)(p:Probe):Probe:=
 if p.more>0 then { p with j:=p.j+1,more:=p.more - 1 } else
 { p with j:=(leap m p.i p.perturb).1,more:=runEnd m (leap m p.i p.perturb).1 - (leap m p.i p.perturb).1,i:=(leap m p.i p.perturb).1,perturb:=(leap m p.i p.perturb).2 }
noncomputable def JN (m:Nat)(b:Nat):Probe:={ j:=b % (m+1),more:=runEnd m (b % (m+1)) - b % (m+1),i:=b % (m+1),perturb:=b,dummy:=none }
noncomputable def cH (m b:Nat):Nat->Probe
 | 0=>JN m b
 | k+1=>lO m (cH m b k)
noncomputable def lp (m b:Nat):Nat->Nat×Nat
 | 0=>(b % (m+1),b)
 | n+1=>leap m (lp m b n).1 (lp m b n).2
noncomputable def hd (m i q:Nat):Probe:={ j:=i,more:=runEnd m i - i,i:=i,perturb:=q,dummy:=none }
theorem pR {m b k i q:Nat}(h:cH m b k=hd m i q):∀ r,r<=runEnd m i - i->cH m b (k+r) = { j:=i+r,more:=runEnd m i - i - r,i:=i,perturb:=q,dummy:=none }
 | 0,_=>by rw [a5a,h];rfl
 | r+1,hr=>by
  have e:=pR h r (by omega)
  show lO m (cH m b (k+r))=_
  rw [e]
  unfold lO
  rw [if_pos (show runEnd m i - i - r>0 by omega)]
  show Probe.mk (i+r+1) (runEnd m i - i - r - 1) i q none=_
  rw [Nat.add_assoc,Nat.sub_sub]
theorem JO {m b k i q:Nat}(h:cH m b k=hd m i q):cH m b (k+(runEnd m i - i)+1)=hd m (leap m i q).1 (leap m i q).2:=by
 have e:=pR h (runEnd m i - i) (Vv _)
 show lO m (cH m b (k+(runEnd m i - i)))=_
 rw [e]
 unfold lO
 rw [if_neg (show ¬ (runEnd m i - i - (runEnd m i - i)>0) by omega)]
 rfl
noncomputable def nx (m i:Nat):Nat:=(i * 5+1) % (m+1)
noncomputable def Bz (m:Nat):Nat->Nat->Nat
 | 0,i=>i
 | n+1,i=>Bz m n (nx m i)
noncomputable def jK (m:Nat):Nat->Nat->Nat->Nat
 | 0,_,acc=>acc
 | f+1,i,acc=>jK m f (nx m i) (acc ||| (1 <<< i))
noncomputable def BA (m:Nat):Bool:=jK m (m+1) 0 0 == 2 ^ (m+1) - 1&&Bz m (m+1) 0 == 0
theorem JP (m b:Nat):∀ n,(lp m b n).1<=m
 | 0=>a3S (a5V _ (a0c _))
 | n+1=>a3S (a5V _ (a0c _))
noncomputable def wH (m:Nat)(S:List Nat)(b j:Nat):Prop:=∃ k,(cH m b k).j=j/\∀ k',k'<k->(cH m b k').j∈S
theorem wI {xs:Array Nat}{j:Nat}(l:∀ a b,a<b->b<xs.size->xs.getD a 0<xs.getD b 0):∀ (f lo d:Nat),d - lo<=f->lo<=d->d<=xs.size->(∀ i,i<lo->xs.getD i 0<j)->(∀ i,d<=i->i<xs.size->j<=xs.getD i 0)->
  Zb xs j f lo d<=xs.size/\(∀ i,i<Zb xs j f lo d->xs.getD i 0<j)/\∀ i,Zb xs j f lo d<=i->i<xs.size->j<=xs.getD i 0
 | 0,lo,d,hf,h1,h2,a,b=>by
  have e:lo=d:=by omega
  show lo<=xs.size/\(∀ i,i<lo->_)/\∀ i,lo<=i->_
  exact ⟨by omega,a,by rw [e];exact b⟩
 | f+1,lo,d,hf,h1,h2,a,b=>by
  unfold Zb
  by_cases q:lo<d
  ·rw [if_pos q]
   dsimp only
   have o:(lo+d) / 2<xs.size:=by omega
   have e:xs.getD ((lo+d) / 2) j=xs.getD ((lo+d) / 2) 0:=by simp [XN,o]
   rw [e]
   by_cases c:xs.getD ((lo+d) / 2) 0<j
   ·rw [if_pos c]
    refine wI l f _ _ (by omega) (by omega) h2 (fun i m=>?_) b
    rcases X8 i ((lo+d) / 2) with z|z
    ·exact Y0 (l _ _ z o) c
    ·have:i=(lo+d) / 2:=by omega
     rw [this];exact c
   ·rw [if_neg c]
    refine wI l f _ _ (by omega) (by omega) (by omega) a fun i m n=>?_
    rcases X8 ((lo+d) / 2) i with z|z
    ·have:=l _ _ z n;omega
    ·have:i=(lo+d) / 2:=by omega
     rw [this];omega
  ·rw [if_neg q]
   exact ⟨by omega,a,fun i h n=>b i (by omega) n⟩
theorem BB {xs:Array Nat}(h:xs.toList.Pairwise (·<·)):∀ a b,a<b->b<xs.size->xs.getD a 0<xs.getD b 0:=fun a b c d=>by
 have:=WQ.mp h a b (by simpa using Y0 c d) (by simpa using d) c
 simpa [XN,d,Y0 c d] using this
theorem JQ {xs:Array Nat}(h:xs.toList.Pairwise (·<·))(j:Nat):Zj xs j<=xs.size/\(∀ i,i<Zj xs j->xs.getD i 0<j)/\∀ i,Zj xs j<=i->i<xs.size->j<=xs.getD i 0:=
 wI (BB h) _ _ _ (by omega) (by omega) (Vv _) (fun i z=>absurd z (Zv _)) fun i z a=>by omega
noncomputable abbrev m5:=Nat×Int×Value
structure Ok (t:a0k)(R:List m5):Prop where
 place:t.place.toList=R.map (·.1)
 dum:t.dummies = #[]
 rise:(R.map (·.1)).Pairwise (·<·)
 le:∀ r∈R,r.1<=t.mask
 cov:BA t.mask=true
 odd:t.mask % 2=1
 room:R.length<=t.mask
 road:∀ r∈R,wH t.mask (R.map (·.1)) (bits r.2.1) r.1
section
variable {t:a0k}{R:List m5}
theorem Ok.size (o:Ok t R):t.place.size=R.length:=by
 have:=congrArg Wm o.place
 simpa using this
theorem Ok.uniq (o:Ok t R){r c:m5}(h:r∈R)(h':c∈R)(e:r.1=c.1):r=c:=by
 have p:=a0M.mp o.rise
 obtain ⟨i,d,a⟩:=YG h
 obtain ⟨k,j,b⟩:=YG h'
 rcases YZ i k with z|z|z
 ·have:=WQ.mp p i k d j z
  rw [a,b] at this;omega
 ·subst z;rw [<- a,<- b]
 ·have:=WQ.mp p k i j d z
  rw [a,b] at this;omega
theorem Ok.getD (o:Ok t R){i:Nat}(a:i<R.length):t.place.getD i 0=(R[i]).1:=by
 have h:t.place.toList[i]? = (R.map (·.1))[i]?:=by rw [o.place]
 have b:i<t.place.size:=by rw [o.size];exact a
 simp [a,b] at h
 simp [XN,b,h]
theorem Ok.sorted (o:Ok t R):t.place.toList.Pairwise (·<·):=by rw [o.place];exact o.rise
theorem JR (j:Nat):a3M #[] j=false:=by
 unfold a3M
 simp
theorem Ok.live (o:Ok t R){j:Nat}(h:j∈R.map (·.1)):∃ i r,t.slot j=.live i/\R[i]? = some r/\r.1=j:=by
 obtain ⟨r,n,e⟩:=VY.mp h
 obtain ⟨i,a,d⟩:=YG n
 have b:=JQ o.sorted j
 have m:t.place.getD i 0=j:=by rw [o.getD a,d];exact e
 have c:i<t.place.size:=by rw [o.size];exact a
 have l:Zj t.place j=i:=by
  rcases YZ (Zj t.place j) i with z|z|z
  ·have p:=b.2.2 _ (Vv _) (by omega)
   have q:=BB o.sorted _ _ z c
   omega
  ·exact z
  ·have:=b.2.1 i z;omega
 refine ⟨i,r,?_,by rw [<- d];exact VH a,e⟩
 unfold a3x
 dsimp only
 rw [l,if_pos]
 have:t.place[i]? = some j:=by
  rw [a1R c]
  simpa [XN,c] using m
 rw [this]
 exact beq_self_eq_true _
theorem Ok.empty (o:Ok t R){j:Nat}(h:j∉R.map (·.1)):t.slot j=.empty:=by
 unfold a3x
 dsimp only
 rw [if_neg,o.dum,JR]
 ·rfl
 ·intro q
  rw [beq_iff_eq] at q
  apply h
  rw [<- o.place]
  exact Array.mem_toList_iff.mpr (Array.mem_of_getElem? q)
theorem BC (m b:Nat):∀ k,(cH m b k).dummy=none
 | 0=>rfl
 | k+1=>by
  show (lO m (cH m b k)).dummy=none
  unfold lO
  split<;>exact BC m b k
theorem Ok.go (o:Ok t R)(a1W:Nat->Int)(x:∀ i r,R[i]? = some r->a1W i=r.2.1){h:Int}{K:Nat}(v:(cH t.mask (bits h) K).j∉R.map (·.1))(w:∀ k',k'<K->(cH t.mask (bits h) k').j∈R.map (·.1)) :
  ∀ (f k:Nat),k<=K->K<k+f->
   (Za t a1W h f (cH t.mask (bits h) k)=some (.empty (cH t.mask (bits h) K).j none)/\∀ k' r,k<=k'->k'<K->r∈R->r.1=(cH t.mask (bits h) k').j->r.2.1≠h) \/
   ∃ k' i r,k<=k'/\k'<K/\R[i]? = some r/\r.1=(cH t.mask (bits h) k').j/\r.2.1=h/\Za t a1W h f (cH t.mask (bits h) k)=some (.candidate (cH t.mask (bits h) k').j i (cH t.mask (bits h) (k'+1))) /\
    ∀ c j,k<=c->c<k'->j∈R->j.1=(cH t.mask (bits h) c).j->j.2.1≠h
 | 0,k,h1,h2=>by omega
 | f+1,k,h1,h2=>by
  rcases X8 k K with z|z
  ·obtain ⟨i,r,e,p,u⟩:=o.live (w k z)
   have L:Za t a1W h (f+1) (cH t.mask (bits h) k)=if a1W i == h then some (.candidate (cH t.mask (bits h) k).j i (cH t.mask (bits h) (k+1))) else Za t a1W h f (cH t.mask (bits h) (k+1)):=by
    show (match t.slot (cH t.mask (bits h) k).j with|.empty=>_|.dummy=>_|.live i=>_)=_
    rw [e]
    rfl
   rw [L,x i r p]
   have s:r∈R:=V8 p
   by_cases q:r.2.1=h
   ·refine .inr ⟨k,i,r,Vv _,z,p,u,q,?_,fun c j a b=>by omega⟩
    rw [q,if_pos (beq_self_eq_true _)]
   ·rw [if_neg (by simpa using q)]
    have here:∀ j,j∈R->j.1=(cH t.mask (bits h) k).j->j.2.1≠h:=fun j d l=>by
     rw [o.uniq d s (l.trans u.symm)];exact q
    rcases Ok.go o a1W x v w f (k+1) z (by omega) with ⟨a,b⟩|⟨k',M,j,N,A,B,E,G,H,I⟩
    ·refine .inl ⟨a,fun k' j J n d l=>?_⟩
     rcases X8 k k' with y|y
     ·exact b k' j y n d l
     ·have:k'=k:=by omega
      subst this;exact here j d l
    ·refine .inr ⟨k',M,j,by omega,A,B,E,G,H,fun c m J n d l=>?_⟩
     rcases X8 k c with y|y
     ·exact I c m y n d l
     ·have:c=k:=by omega
      subst this;exact here m d l
  ·have:k=K:=by omega
   subst this
   refine .inl ⟨?_,fun k' r a b=>by omega⟩
   show (match t.slot (cH t.mask (bits h) k).j with|.empty=>_|.dummy=>_|.live i=>_)=_
   rw [o.empty v]
   show some (Met.empty _ (cH t.mask (bits h) k).dummy)=_
   rw [BC]
end
noncomputable def lv (m:Nat)(a:Array (Option Nat)):List (Nat×Nat):=(Wc (m+1)).filterMap fun j=>(a.getD j none).map (j,·)
theorem mem_lv {m:Nat}{c:Array (Option Nat)}{j i:Nat}:(j,i)∈lv m c↔j<=m/\c.getD j none=some i:=by
 unfold lv
 rw [YL]
 constructor
 ·rintro ⟨a,o,e⟩
  rw [Vn] at e
  obtain ⟨b,d,h⟩:=e
  cases h
  exact ⟨by simpa [a4k] using o,d⟩
 ·rintro ⟨l,n⟩
  exact ⟨j,by simpa [a4k] using l,by rw [n];rfl⟩
structure Ow (m:Nat)(ds:List Int)(ow:Array (Option Nat)):Prop where
 size:ow.size=m+1
 lt:∀ j i,ow.getD j none=some i->i<ds.length
 all:∀ i,i<ds.length->∃ j,ow.getD j none=some i
 inj:∀ j j' i,ow.getD j none=some i->ow.getD j' none=some i->j=j'
 road:∀ j i,ow.getD j none=some i->wH m ((lv m ow).map (·.1)) (bits (ds.getD i 0)) j
section
variable {m:Nat}{ds:List Int}{ow:Array (Option Nat)}
theorem Ow.le (o:Ow m ds ow){j i:Nat}(h:ow.getD j none=some i):j<=m:=by
 rcases X8 j ow.size with z|z
 ·rw [o.size] at z;omega
 ·simp [XN,Yx.mpr z] at h
theorem Ow.taken (o:Ow m ds ow){j:Nat}(b:j<=m):j∈(lv m ow).map (·.1)↔(ow.getD j (some 0)).isNone=false:=by
 have c:j<ow.size:=by rw [o.size];omega
 have e:ow.getD j (some 0)=ow.getD j none:=by simp [XN,c]
 rw [e]
 constructor
 ·intro q
  obtain ⟨⟨a,i⟩,d,rfl⟩:=VY.mp q
  rw [(mem_lv.mp d).2];rfl
 ·intro q
  cases z:ow.getD j none with
  | none=>rw [z] at q;cases q
  | some i=>exact VY.mpr ⟨(j,i),mem_lv.mpr ⟨b,z⟩,rfl⟩
theorem Ow.free (o:Ow m ds ow){b:Nat}:∀ (f n k0:Nat),cH m b k0=hd m (lp m b n).1 (lp m b n).2->(∀ k',k'<k0->(cH m b k').j∈(lv m ow).map (·.1))->(∃ N,n<=N/\N<n+f/\(lp m b N).1∉(lv m ow).map (·.1))->
  ∃ j,a0y m ow f (lp m b n).1 (lp m b n).2=some j/\j<=m/\j∉(lv m ow).map (·.1)/\wH m ((lv m ow).map (·.1)) b j
 | 0,n,k0,_,_,⟨N,h1,h2,_⟩=>by omega
 | f+1,n,k0,hk,ht,⟨N,h1,h2,hN⟩=>by
  have v:=JP m b n
  have l:runEnd m (lp m b n).1<=m:=by unfold runEnd;split<;>omega
  have p:(lp m b n).1<=runEnd m (lp m b n).1:=by unfold runEnd;split<;>omega
  unfold a0y
  cases z:(Wc (runEnd m (lp m b n).1+1 - (lp m b n).1)).find? fun k=>(ow.getD ((lp m b n).1+k) (some 0)).isNone with
  | some r=>
   rw [List.find?_range_eq_some] at z
   obtain ⟨h,s,u⟩:=z
   rw [WT] at s
   refine ⟨(lp m b n).1+r,rfl,by omega,fun q=>?_,k0+r,by rw [pR hk r (by omega)],fun k' a=>?_⟩
   ·rw [o.taken (by omega)] at q
    rw [q] at h;cases h
   ·rcases X8 k' k0 with y|y
    ·exact ht k' y
    ·obtain ⟨d,rfl⟩:=a2s y
     rw [pR hk d (by omega)]
     show (lp m b n).1+d∈_
     rw [o.taken (by omega)]
     have:=u d (by omega)
     simpa using this
  | none=>
   rw [List.find?_range_eq_none] at z
   have c:∀ r,r<runEnd m (lp m b n).1+1 - (lp m b n).1->(lp m b n).1+r∈(lv m ow).map (·.1):=fun r i=>by
    rw [o.taken (by omega)]
    have:=z r i
    simpa using this
   have ne:N≠n:=fun e=>hN (by rw [e];exact c 0 (by omega))
   refine Ow.free o f (n+1) _ (JO hk) (fun k' a=>?_) ⟨N,by omega,by omega,hN⟩
   rcases X8 k' k0 with y|y
   ·exact ht k' y
   ·obtain ⟨d,rfl⟩:=a2s y
    rw [pR hk d (by omega)]
    exact c d (by omega)
end
theorem Ow.nil (m:Nat):Ow m [] (a1s (m+1) none):=by
 have e:∀ j,(a1s (m+1) (none:Option Nat)).getD j none=none:=fun j=>by
  simp [XN]
 have a:∀ {P:Prop}(j i:Nat),(a1s (m+1) (none:Option Nat)).getD j none=some i->P:=fun j i h=>by
  rw [e] at h;exact nomatch h
 exact ⟨by simp,fun j i h=>a j i h,fun i h=>absurd h (Zv _),fun j b i h _=>a j i h,fun j i h=>a j i h⟩
end Tb
end L3
namespace L3
open PySem
open PySem.SetTable (Probe Met Slot bits runEnd leap turns insertAt sizeAbove)
namespace Tb
section
variable {prog:VQ}{w:V6}{K:Type} [DecidableEq K] {knd:KeyKind prog w K}{A:VU}{E:Value->Vp->Prop}{s:Vp}
theorem fits_of {t:a0k}{R:List m5}{es:Array (Int×Value)}(o:Ok t R)(c:es.toList=R.map (·.2)):t.fits es.size=true:=by
 have a:es.size=R.length:=by simpa using congrArg Wm c
 have b:=o.room
 unfold SetTable.fits SetTable.fill
 rw [o.size,a,o.dum]
 simp;exact b
end
section
variable {prog:VQ}{w:V6}{A:VU}{E:Value->Vp->Prop}{s:Vp}
noncomputable abbrev El:=List Int×Addr
noncomputable def hashT (k:List Int):Int:=reduceHash (a5g (k.map hashInt))
noncomputable def JS (p:El):Int×Value:=(hashT p.1,Vz p.2)
noncomputable def Msk (m:Nat):Prop:=m=7\/m=31\/m=127\/m=511
theorem Msk.cov {m:Nat}(h:Msk m):BA m=true:=by
 rcases h with rfl|rfl|rfl|rfl<;>decide +kernel
theorem Msk.odd {m:Nat}(h:Msk m):m % 2=1:=by
 rcases h with rfl|rfl|rfl|rfl<;>rfl
noncomputable def wJ (w:V6):Bool:=w.params.followText "set-order"
noncomputable def BE (a:Bool)(L:List El)(o:WY):Prop:=∃ es ep t R,o.ExactSet/\o.data=.set es ep t/\es.toList=R.map (·.2)/\Ok t R/\es.toList.Perm (L.map JS)/\(L.map (·.1)).Nodup/\Msk t.mask/\L.length * 5<t.mask * 3/\t.plain=true/\t.led=a
noncomputable def SObj (L:List El)(o:WY):Prop:=∃ a,BE a L o
noncomputable def Ib (prog:VQ)(w:V6)(h:Wj)(a:Addr)(L:List El):Prop:=∃ o,h.get? a=some o/\BE (!wJ w) L o/\∀ p∈L,IsTupleKey (XW prog w) h p.1 p.2
end
end Tb
end L3
namespace L3
open PySem
namespace Tb
noncomputable def JT (w:V6)(t:a0k):Nat->Nat
 | 0=>0
 | i+1=>if wJ w then 0 else t.place.getD i 0+1
section
variable {prog:VQ}{w:V6}{A:VU}{E:Value->Vp->Prop}{s:Vp}
noncomputable def SIt (w:V6)(h:Wj)(I a:Addr)(t:a0k)(i n ep:Nat):Prop:=∃ o,h.get? I=some o/\o.cls=.type "set_iterator"/\o.data=.fields #[XR (JT w t i),XR i,.ref a,XR n,XR ep]
theorem SIt.ty {I a:Addr}{t:a0k}{i n ep:Nat}(x:SIt w s.heap I a t i n ep):s.TypeIs (.ref I) "set_iterator":=let ⟨o,b,hc,_⟩:=x;⟨o,b,hc⟩
structure SAt (w:V6)(h:Wj)(a:Addr)(es:Array (Int×Value))(ep:Nat)(t:a0k)(R:List m5):Prop where
 at_:∃ o,h.get? a=some o/\o.cls=.type "set"/\o.data=.set es ep t
 he:es.toList=R.map (·.2)
 ok:Ok t R
 pl:t.plain=true
 led:t.led = !wJ w
theorem SAt.ty {a:Addr}{es:Array (Int×Value)}{ep:Nat}{t:a0k}{R:List m5}(x:SAt w s.heap a es ep t R):s.TypeIs (.ref a) "set":=let ⟨o,b,hc,_⟩:=x.at_;⟨o,b,hc⟩
end
end Tb
end L3
namespace L3
open PySem L2
inductive D where
 | non|bl (b:Bool)|int (i:Int)|str (x:Str)|tup (xs:List D)|rol (xs:List D)|loc (a:Nat)|ty (n:String)
 deriving Inhabited
inductive C where
 | lst (xs:List D)
 | dK (kvs:List (a9×D))
 | st (ks:List (List Int))
 | dT (kvs:List (List Int×D))
 | exc (x:Str)(ns:List Str)(ds:List D)
 deriving Inhabited
noncomputable abbrev Hm:=List C
noncomputable abbrev aH:=List (Option D)
noncomputable abbrev ME:=aH->Hm->Option (D×Hm)
noncomputable abbrev MT:=aH->Hm->Option (Bool×Hm)
noncomputable abbrev MA:=aH->Hm->Option (List D×Hm)
inductive Fl where
 | nx|rt (d:D)|bk|ct
noncomputable abbrev MS:=aH->Hm->Option (Fl×aH×Hm)
noncomputable abbrev MF:=List D->Hm->Option (D×Hm)
noncomputable def RoL (K:Vk)(H:Hp)(p:Addr)(xs:List V):Prop:=
 (∃ o,H p=some (.frz o (.lst xs))) \/
  ∃ (o:WY)(a:Array Value)(n:Nat),K.lookup p=some o/\o.cls=.type "list"/\o.dict=none/\o.data=.seq a n/\a.size<=VA/\Vals xs a.toList
theorem RoL.sq {K:Vk}{H:Hp}{p:Addr}{xs:List V}(h:RoL K H p xs):SqL K H p xs:=by
 rcases h with ⟨o,h⟩|h
 ·exact .inl (.inr ⟨o,h⟩)
 ·exact .inr h
mutual
inductive IsD (K:Vk)(π:Nat->Addr)(n:Nat)(H:Hp):V->D->Prop where
 | non:IsD K π n H .non .non
 | bl (b:Bool):IsD K π n H (.bl b) (.bl b)
 | int (i:Int):IsD K π n H (.int i) (.int i)
 | str (x:Str):IsD K π n H (.str x) (.str x)
 | tup {p:Addr}{vs:List V}{ds:List D}(h:SqT K H p vs)(t:IsDs K π n H vs ds):IsD K π n H (.ref p) (.tup ds)
 | rol {p:Addr}{vs:List V}{ds:List D}(h:RoL K H p vs)(t:IsDs K π n H vs ds):IsD K π n H (.ref p) (.rol ds)
 | loc {a:Nat}(h:a<n):IsD K π n H (.ref (π a)) (.loc a)
 | ty (x:String):IsD K π n H (.ty x) (.ty x)
inductive IsDs (K:Vk)(π:Nat->Addr)(n:Nat)(H:Hp):List V->List D->Prop where
 | nil:IsDs K π n H [] []
 | cons {v:V}{d:D}{vs:List V}{ds:List D}(h:IsD K π n H v d)(t:IsDs K π n H vs ds):IsDs K π n H (v::vs) (d::ds)
end
structure Ext (π:Nat->Addr)(n:Nat)(H:Hp)(π':Nat->Addr)(n':Nat)(H':Hp):Prop where
 le:n<=n'
 pi:∀ a,a<n->π' a=π a
 tup:∀ p vs,H p=some (.tup vs)->H' p=some (.tup vs)
 frz:∀ p o u,H p=some (.frz o u)->H' p=some (.frz o u)
structure Ext0 (π:Nat->Addr)(n:Nat)(H:Hp)(π':Nat->Addr)(n':Nat)(H':Hp):Prop where
 le:n<=n'
 pi:∀ a,a<n->π' a=π a
 tup:∀ p vs,H p=some (.tup vs)->H' p=some (.tup vs)
 frz:∀ p o u,(∀ φ,u≠HO.ext φ)->H p=some (.frz o u)->H' p=some (.frz o u)
section
variable {K:Vk}{π π' π2:Nat->Addr}{n n' n2:Nat}{H H' H2:Hp}
theorem Ext.weak (e:Ext π n H π' n' H'):Ext0 π n H π' n' H':=⟨e.le,e.pi,e.tup,fun p o u _ h=>e.frz p o u h⟩
theorem Ext.refl:Ext π n H π n H:=⟨Vv _,fun _ _=>rfl,fun _ _ h=>h,fun _ _ _ h=>h⟩
theorem Ext.trans (a:Ext π n H π' n' H')(b:Ext π' n' H' π2 n2 H2):Ext π n H π2 n2 H2:=
 ⟨Wu a.le b.le,fun i h=>(b.pi i (VL h a.le)).trans (a.pi i h),fun p c h=>b.tup p c (a.tup p c h),fun p o u h=>b.frz p o u (a.frz p o u h)⟩
theorem Ext0.sqT (e:Ext0 π n H π' n' H'){p:Addr}{vs:List V}(h:SqT K H p vs):SqT K H' p vs:=by
 rcases h with h|h
 ·rcases h with h|⟨o,h⟩
  ·exact .inl (.inl (e.tup _ _ h))
  ·exact .inl (.inr ⟨o,e.frz _ _ _ (fun _ z=>nomatch z) h⟩)
 ·exact .inr h
theorem Ext.sqT (e:Ext π n H π' n' H'){p:Addr}{vs:List V}(h:SqT K H p vs):SqT K H' p vs:=e.weak.sqT h
theorem Ext0.roL (e:Ext0 π n H π' n' H'){p:Addr}{vs:List V}(h:RoL K H p vs):RoL K H' p vs:=by
 rcases h with ⟨o,h⟩|h
 ·exact .inl ⟨o,e.frz _ _ _ (fun _ z=>nomatch z) h⟩
 ·exact .inr h
theorem Ext.roL (e:Ext π n H π' n' H'){p:Addr}{vs:List V}(h:RoL K H p vs):RoL K H' p vs:=e.weak.roL h
mutual
theorem IsD.mono0 {v:V}{d:D}(e:Ext0 π n H π' n' H'):IsD K π n H v d->IsD K π' n' H' v d
 | .non=>.non
 | .bl b=>.bl b
 | .int i=>.int i
 | .str x=>.str x
 | .ty x=>.ty x
 | .tup h t=>.tup (e.sqT h) (IsDs.mono0 e t)
 | .rol h t=>.rol (e.roL h) (IsDs.mono0 e t)
 | .loc h=>by
  rw [<- e.pi _ h]
  exact .loc (VL h e.le)
theorem IsDs.mono0 {vs:List V}{ds:List D}(e:Ext0 π n H π' n' H'):IsDs K π n H vs ds->IsDs K π' n' H' vs ds
 | .nil=>.nil
 | .cons h t=>.cons (IsD.mono0 e h) (IsDs.mono0 e t)
end
theorem IsD.mono {v:V}{d:D}(e:Ext π n H π' n' H')(h:IsD K π n H v d):IsD K π' n' H' v d:=h.mono0 e.weak
theorem IsDs.mono {vs:List V}{ds:List D}(e:Ext π n H π' n' H')(h:IsDs K π n H vs ds):IsDs K π' n' H' vs ds:=h.mono0 e.weak
theorem IsDs.length {vs:List V}{ds:List D}(h:IsDs K π n H vs ds):vs.length=ds.length:=by
 induction ds generalizing vs with
 | nil=>cases h;rfl
 | cons d ds a=>
  cases h with
  | cons h t=>rw [V1,V1,a t]
theorem IsDs.get {vs:List V}{ds:List D}(h:IsDs K π n H vs ds){i:Nat}{d:D}(e:ds[i]? = some d):∃ v,vs[i]? = some v/\IsD K π n H v d:=by
 induction ds generalizing vs i with
 | nil=>simp at e
 | cons j ds c=>
  cases h with
  | cons h t=>
   cases i with
   | zero=>
    simp at e
    subst e
    exact ⟨_,rfl,h⟩
   | succ i=>
    obtain ⟨v,a,b⟩:=c t (by simpa using e)
    exact ⟨v,by simpa using a,b⟩
theorem IsDs.append {vs ws:List V}{ds es:List D}(h:IsDs K π n H vs ds)(a:IsDs K π n H ws es):IsDs K π n H (vs++ws) (ds++es):=by
 induction ds generalizing vs with
 | nil=>cases h;exact a
 | cons d ds b=>
  cases h with
  | cons h t=>exact .cons h (b t)
theorem IsDs.drop {vs:List V}{ds:List D}(h:IsDs K π n H vs ds)(k:Nat):IsDs K π n H (vs.drop k) (ds.drop k):=by
 induction ds generalizing vs k with
 | nil=>cases h;simpa using IsDs.nil
 | cons d ds a=>
  cases h with
  | cons h t=>
   cases k with
   | zero=>exact .cons h t
   | succ k=>exact a t k
theorem IsDs.take {vs:List V}{ds:List D}(h:IsDs K π n H vs ds)(k:Nat):IsDs K π n H (vs.take k) (ds.take k):=by
 induction ds generalizing vs k with
 | nil=>cases h;simpa using IsDs.nil
 | cons d ds a=>
  cases h with
  | cons h t=>
   cases k with
   | zero=>exact .nil
   | succ k=>exact .cons h (a t k)
theorem IsDs.atI {vs:List V}{ds:List D}(h:IsDs K π n H vs ds){i:Int}{d:D}(e:L2.atI ds i=some d):∃ v,L2.atI vs i=some v/\IsD K π n H v d:=by
 unfold L2.atI at e ⊢
 rw [h.length]
 cases q:lN ds.length i with
 | none=>rw [q] at e;cases e
 | some j=>
  rw [q] at e
  exact h.get e
end
noncomputable def rY (p:Addr)(L:List Tb.El):HO:=.ext fun h=>∃ o,h.get? p=some o/\Tb.SObj L o
noncomputable def wK (p:List Int×Addr×V)(w:Value):WD:=⟨Tb.hashT p.1,.ref p.2.1,w⟩
noncomputable def aY (a:Addr)(ps:List (List Int×Addr×V)):HO:=.ext fun h=>∃ ws:List Value,Vals (ps.map (·.2.2)) ws/\(a == WL)=false/\ps.length<=VA /\
 ∃ o b c,h.get? a=some o/\o.ExactDict/\o.data=.dict b c/\b.toList=a0L wK ps ws/\(ps.map (·.1)).Nodup
noncomputable def ExcIs (K:Vk)(π:Nat->Addr)(n:Nat)(H:Hp)(b:WY)(x:Str)(ns:List Str)(ds:List D):Prop:=
 Wz K Wh x=some (some b.cls)/\(∃ a,b.data=.fields a) /\
  (ns=[]/\ds=[]/\b.dict=none\/∃ c d a,b.dict=some c/\H c=some (.frz d (.xd a))/\a.map (·.1)=ns/\IsDs K π n H (a.map (·.2)) ds)
theorem ExcIs.mono0 {K:Vk}{π a:Nat->Addr}{n c:Nat}{H H':Hp}{d:WY}{x:Str}{ns:List Str}{ds:List D}(e:Ext0 π n H a c H')(h:ExcIs K π n H d x ns ds):ExcIs K a c H' d x ns ds:=by
 obtain ⟨p,q,b⟩:=h
 refine ⟨p,q,?_⟩
 rcases b with b|⟨i,r,s,j,l,m,o⟩
 ·exact .inl b
 ·exact .inr ⟨i,r,s,j,e.frz _ _ _ (fun _ z=>nomatch z) l,m,o.mono0 e⟩
theorem ExcIs.mono {K:Vk}{π a:Nat->Addr}{n b:Nat}{H H':Hp}{c:WY}{x:Str}{ns:List Str}{ds:List D}(e:Ext π n H a b H')(h:ExcIs K π n H c x ns ds):ExcIs K a b H' c x ns ds:=h.mono0 e.weak
structure Rp (K:Vk)(π:Nat->Addr)(H:Hp)(μ:Hm):Prop where
 inj:∀ a b,a<μ.length->b<μ.length->π a=π b->a=b
 has:∀ a,a<μ.length->(H (π a)).isSome=true
 lst:∀ a xs,μ[a]? = some (.lst xs)->∃ vs,H (π a)=some (.lst vs)/\IsDs K π μ.length H vs xs
 dK:∀ a kvs,μ[a]? = some (.dK kvs)->∃ vs,H (π a)=some (.dK vs)/\vs.map (·.1)=kvs.map (·.1)/\IsDs K π μ.length H (vs.map (·.2)) (kvs.map (·.2))
 st:∀ a ks,μ[a]? = some (.st ks)->∃ L:List Tb.El,H (π a)=some (rY (π a) L)/\L.map (·.1)=ks/\IsDs K π μ.length H (L.map fun p=>V.ref p.2) (ks.map fun k=>D.tup (k.map D.int))
 dT:∀ a kvs,μ[a]? = some (.dT kvs)->∃ ps:List (List Int×Addr×V),H (π a)=some (aY (π a) ps)/\ps.map (·.1)=kvs.map (·.1)/\IsDs K π μ.length H (ps.map fun p=>V.ref p.2.1) (kvs.map fun k=>D.tup (k.1.map D.int))/\IsDs K π μ.length H (ps.map (·.2.2)) (kvs.map (·.2))
 exc:∀ a x ns ds,μ[a]? = some (.exc x ns ds)->∃ (ob:WY)(φ:Wj->Prop),H (π a)=some (.frz ob (.ext φ))/\ExcIs K π μ.length H ob x ns ds
structure En (K:Vk)(π:Nat->Addr)(n:Nat)(H:Hp)(σ:St)(ρ:aH):Prop where
 len:σ.length=ρ.length
 get:∀ (i:Nat)(d:D),ρ[i]? = some (some d)->∃ v,σ[i]? = some (some v)/\IsD K π n H v d
section
variable {K:Vk}{π π' π2:Nat->Addr}{n n' n2:Nat}{H H' H2:Hp}{μ μ':Hm}{σ:St}{ρ:aH}
theorem En.mono (E:En K π n H σ ρ)(e:Ext π n H π' n' H'):En K π' n' H' σ ρ:=
 ⟨E.len,fun i d h=>let ⟨v,a,b⟩:=E.get i d h;⟨v,a,b.mono e⟩⟩
theorem En.set (E:En K π n H σ ρ){v:V}{d:D}(h:IsD K π n H v d)(i:Nat):En K π n H (σ.set i (some v)) (ρ.set i (some d)):=by
 refine ⟨by rw [XF,XF];exact E.len,fun j c e=>?_⟩
 rw [a0P] at e ⊢
 by_cases a:i=j
 ·subst a
  rw [if_pos rfl] at e ⊢
  rw [E.len]
  by_cases b:i<ρ.length
  ·rw [if_pos b] at e ⊢
   cases e
   exact ⟨v,rfl,h⟩
  ·rw [if_neg b] at e
   cases e
 ·rw [if_neg a] at e ⊢
  exact E.get j c e
theorem Rp.ne {p:Addr}(R:Rp K π H μ)(h:H p=none){a:Nat}(b:a<μ.length):π a≠p:=fun e=>by
 have:=R.has a b
 rw [e,h] at this
 cases this
theorem Rp.fresh {p:Addr}{o:HO}(R:Rp K π H μ)(h:H p=none):Ext π μ.length H π μ.length (aK H p o)/\Rp K π (aK H p o) μ:=by
 have c:∀ b u,H b=some u->aK H p o b=some u:=fun b u e=>by
  rw [a8 (eM e h)]
  exact e
 have e:Ext π μ.length H π μ.length (aK H p o):=⟨Vv _,fun _ _=>rfl,fun q l e=>c q _ e,fun q o u e=>c q _ e⟩
 refine ⟨e,R.inj,fun a d=>?_,fun a z d=>?_,fun a m d=>?_,fun a v d=>?_
  ,fun a m d=>?_
  ,fun a x w ds d=>?_
  ⟩
 ·rw [a8 (R.ne h d)]
  exact R.has a d
 ·obtain ⟨l,i,j⟩:=R.lst a z d
  exact ⟨l,c _ _ i,j.mono e⟩
 ·obtain ⟨l,i,j,r⟩:=R.dK a m d
  exact ⟨l,c _ _ i,j,r.mono e⟩
 ·obtain ⟨l,i,j,r⟩:=R.st a v d
  exact ⟨l,c _ _ i,j,r.mono e⟩
 ·obtain ⟨l,i,j,r,s⟩:=R.dT a m d
  exact ⟨l,c _ _ i,j,r.mono e,s.mono e⟩
 ·obtain ⟨y,A,i,j⟩:=R.exc a x w ds d
  exact ⟨y,A,c _ _ i,j.mono e⟩
noncomputable def rZ (K:Vk)(π:Nat->Addr)(n:Nat)(H:Hp)(p:Addr):C->HO->Prop
 | .lst xs,.lst vs=>IsDs K π n H vs xs
 | .dK kvs,.dK vs=>vs.map (·.1)=kvs.map (·.1)/\IsDs K π n H (vs.map (·.2)) (kvs.map (·.2))
 | .st ks,o=>∃ L:List Tb.El,o=rY p L/\L.map (·.1)=ks/\IsDs K π n H (L.map fun p=>V.ref p.2) (ks.map fun k=>D.tup (k.map D.int))
 | .dT kvs,o=>∃ a:List (List Int×Addr×V),o=aY p a/\a.map (·.1)=kvs.map (·.1)/\IsDs K π n H (a.map fun p=>V.ref p.2.1) (kvs.map fun k=>D.tup (k.1.map D.int))/\IsDs K π n H (a.map (·.2.2)) (kvs.map (·.2))
 | .exc x ns ds,o=>∃ (b:WY)(c:Wj->Prop),o=.frz b (.ext c)/\ExcIs K π n H b x ns ds
 | _,_=>False
noncomputable def gT (π:Nat->Addr)(n:Nat)(p:Addr):Nat->Addr:=fun a=>if a=n then p else π a
theorem Rp.alloc {p:Addr}{c:C}{o:HO}(R:Rp K π H μ)(h:H p=none)(hc:rZ K π μ.length H p c o) :
  Ext π μ.length H (gT π μ.length p) (μ++[c]).length (aK H p o)/\Rp K (gT π μ.length p) (aK H p o) (μ++[c])/\gT π μ.length p μ.length=p:=by
 have J:(μ++[c]).length=μ.length+1:=by simp
 have i:∀ b u,H b=some u->aK H p o b=some u:=fun b u e=>by
  rw [a8 (eM e h)]
  exact e
 have z:gT π μ.length p μ.length=p:=if_pos rfl
 have v:∀ a,a<μ.length->gT π μ.length p a=π a:=fun a d=>if_neg (VB d)
 have e:Ext π μ.length H (gT π μ.length p) (μ++[c]).length (aK H p o):=⟨by rw [J];exact Yy _,v,fun q s e=>i q _ e,fun q o u e=>i q _ e⟩
 have split:∀ a,a<(μ++[c]).length->a<μ.length\/a=μ.length:=fun a d=>by rw [J] at d;omega
 have get:∀ a,a<μ.length->(μ++[c])[a]? = μ[a]?:=fun a d=>We d
 have l:(μ++[c])[μ.length]? = some c:=by simp
 refine ⟨e,⟨fun a b d B q=>?_,fun a d=>?_,fun a O d=>?_,fun a A d=>?_,fun a M d=>?_
  ,fun a A d=>?_
  ,fun a x N ds d=>?_
  ⟩,z⟩
 ·rcases split a d with d|rfl<;>rcases split b B with B|rfl
  ·rw [v a d,v b B] at q
   exact R.inj a b d B q
  ·rw [v a d,z] at q
   exact absurd q (R.ne h d)
  ·rw [z,v b B] at q
   exact absurd q.symm (R.ne h B)
  ·rfl
 ·rcases split a d with d|rfl
  ·rw [v a d,a8 (R.ne h d)]
   exact R.has a d
  ·rw [z,cG]
   rfl
 ·have j:a<(μ++[c]).length:=(Vx.mp d).1
  rcases split a j with r|rfl
  ·rw [get a r] at d
   obtain ⟨s,w,m⟩:=R.lst a O d
   rw [v a r]
   exact ⟨s,i _ _ w,m.mono e⟩
  ·rw [l] at d
   cases d
   cases o with
   | lst s=>
    rw [z]
    exact ⟨s,cG,IsDs.mono e hc⟩
   | _=>exact Wl hc
 ·have j:a<(μ++[c]).length:=(Vx.mp d).1
  rcases split a j with r|rfl
  ·rw [get a r] at d
   obtain ⟨s,w,m,y⟩:=R.dK a A d
   rw [v a r]
   exact ⟨s,i _ _ w,m,y.mono e⟩
  ·rw [l] at d
   cases d
   cases o with
   | dK s=>
    rw [z]
    exact ⟨s,cG,hc.1,IsDs.mono e hc.2⟩
   | _=>exact Wl hc
 ·have j:a<(μ++[c]).length:=(Vx.mp d).1
  rcases split a j with r|rfl
  ·rw [get a r] at d
   obtain ⟨s,w,m,y⟩:=R.st a M d
   rw [v a r]
   exact ⟨s,i _ _ w,m,y.mono e⟩
  ·rw [l] at d
   cases d
   obtain ⟨L,rfl,m,y⟩:=hc
   rw [z]
   exact ⟨L,cG,m,y.mono e⟩
 ·have j:a<(μ++[c]).length:=(Vx.mp d).1
  rcases split a j with r|rfl
  ·rw [get a r] at d
   obtain ⟨s,w,m,y,E⟩:=R.dT a A d
   rw [v a r]
   exact ⟨s,i _ _ w,m,y.mono e,E.mono e⟩
  ·rw [l] at d
   cases d
   obtain ⟨L,rfl,m,y,E⟩:=hc
   rw [z]
   exact ⟨L,cG,m,y.mono e,E.mono e⟩
 ·have j:a<(μ++[c]).length:=(Vx.mp d).1
  rcases split a j with r|rfl
  ·rw [get a r] at d
   obtain ⟨G,I,w,m⟩:=R.exc a x N ds d
   rw [v a r]
   exact ⟨G,I,i _ _ w,m.mono e⟩
  ·rw [l] at d
   cases d
   obtain ⟨G,I,rfl,m⟩:=hc
   rw [z]
   exact ⟨G,I,cG,m.mono e⟩
theorem Rp.put0 {a:Nat}{c:C}{o u:HO}(R:Rp K π H μ)(M:a<μ.length)(G:H (π a)=some u)(I:(∃ vs,u=.lst vs)\/(∃ vs,u=.dK vs)\/(∃ y,u=.ext y)\/∃ v y,u=.frz v (.ext y))(hc:rZ K π μ.length H (π a) c o) :
  Ext0 π μ.length H π (μ.set a c).length (aK H (π a) o)/\Rp K π (aK H (π a) o) (μ.set a c):=by
 have m:(μ.set a c).length=μ.length:=XF ..
 have e:Ext0 π μ.length H π (μ.set a c).length (aK H (π a) o):=by
  refine ⟨a0d m.symm,fun _ _=>rfl,fun q vs z=>?_,fun q T U nx z=>?_⟩
  ·rw [a8]
   ·exact z
   ·intro e
    subst e
    rw [G] at z
    rcases I with ⟨w,rfl⟩|⟨w,rfl⟩|⟨w,rfl⟩|⟨v,w,rfl⟩<;>cases z
  ·rw [a8]
   ·exact z
   ·intro e
    subst e
    rw [G] at z
    rcases I with ⟨w,rfl⟩|⟨w,rfl⟩|⟨w,rfl⟩|⟨v,w,rfl⟩<;>cases z
    exact nx _ rfl
 have j:∀ b,b<μ.length->b≠a->aK H (π a) o (π b)=H (π b):=fun b d E=>a8 fun q=>E (R.inj b a d M q)
 refine ⟨e,⟨fun b J d B=>R.inj b J (m ▸ d) (m ▸ B),fun b d=>?_,fun b Q d=>?_,fun b s d=>?_,fun b N d=>?_
  ,fun b s d=>?_
  ,fun b x O ds d=>?_
  ⟩⟩
 ·by_cases h:b=a
  ·subst h
   rw [cG]
   rfl
  ·rw [j b (m ▸ d) h]
   exact R.has b (m ▸ d)
 ·have i:b<μ.length:=m ▸ (Vx.mp d).1
  by_cases h:b=a
  ·subst h
   rw [Wg i] at d
   cases d
   cases o with
   | lst vs=>exact ⟨vs,cG,IsDs.mono0 e hc⟩
   | _=>exact Wl hc
  ·rw [WM (WB h)] at d
   obtain ⟨vs,p,l⟩:=R.lst b Q d
   exact ⟨vs,by rw [j b i h];exact p,l.mono0 e⟩
 ·have i:b<μ.length:=m ▸ (Vx.mp d).1
  by_cases h:b=a
  ·subst h
   rw [Wg i] at d
   cases d
   cases o with
   | dK vs=>exact ⟨vs,cG,hc.1,IsDs.mono0 e hc.2⟩
   | _=>exact Wl hc
  ·rw [WM (WB h)] at d
   obtain ⟨vs,p,l,r⟩:=R.dK b s d
   exact ⟨vs,by rw [j b i h];exact p,l,r.mono0 e⟩
 ·have i:b<μ.length:=m ▸ (Vx.mp d).1
  by_cases h:b=a
  ·subst h
   rw [Wg i] at d
   cases d
   obtain ⟨L,rfl,l,r⟩:=hc
   exact ⟨L,cG,l,r.mono0 e⟩
  ·rw [WM (WB h)] at d
   obtain ⟨vs,p,l,r⟩:=R.st b N d
   exact ⟨vs,by rw [j b i h];exact p,l,r.mono0 e⟩
 ·have i:b<μ.length:=m ▸ (Vx.mp d).1
  by_cases h:b=a
  ·subst h
   rw [Wg i] at d
   cases d
   obtain ⟨L,rfl,l,r,A⟩:=hc
   exact ⟨L,cG,l,r.mono0 e,A.mono0 e⟩
  ·rw [WM (WB h)] at d
   obtain ⟨vs,p,l,r,A⟩:=R.dT b s d
   exact ⟨vs,by rw [j b i h];exact p,l,r.mono0 e,A.mono0 e⟩
 ·have i:b<μ.length:=m ▸ (Vx.mp d).1
  by_cases h:b=a
  ·subst h
   rw [Wg i] at d
   cases d
   obtain ⟨v,y,rfl,l⟩:=hc
   exact ⟨v,y,cG,l.mono0 e⟩
  ·rw [WM (WB h)] at d
   obtain ⟨v,y,p,l⟩:=R.exc b x O ds d
   exact ⟨v,y,by rw [j b i h];exact p,l.mono0 e⟩
theorem Rp.put {a:Nat}{c:C}{o u:HO}(R:Rp K π H μ)(i:a<μ.length)(b:H (π a)=some u)(d:(∃ vs,u=.lst vs)\/(∃ vs,u=.dK vs)\/∃ l,u=.ext l)(hc:rZ K π μ.length H (π a) c o) :
  Ext π μ.length H π (μ.set a c).length (aK H (π a) o)/\Rp K π (aK H (π a) o) (μ.set a c):=by
 have j:(μ.set a c).length=μ.length:=XF ..
 have e:Ext π μ.length H π (μ.set a c).length (aK H (π a) o):=by
  refine ⟨a0d j.symm,fun _ _=>rfl,fun q vs z=>?_,fun q m p z=>?_⟩
  ·rw [a8]
   ·exact z
   ·intro e
    subst e
    rw [b] at z
    rcases d with ⟨w,rfl⟩|⟨w,rfl⟩|⟨w,rfl⟩<;>cases z
  ·rw [a8]
   ·exact z
   ·intro e
    subst e
    rw [b] at z
    rcases d with ⟨w,rfl⟩|⟨w,rfl⟩|⟨w,rfl⟩<;>cases z
 exact ⟨e,(R.put0 i b (d.imp_right fun h=>h.imp_right .inl) hc).2⟩
end
noncomputable def KC (K:Vk)(Q:VK)(π:Nat->Addr)(n:Nat)(H:Hp)(d:D)(a:Hm):Prop:=
 ∀ b v c,Ext π n H b a.length c->Rp K b c a->IsD K b a.length c v d->Q v c
theorem KC.after {K:Vk}{Q:VK}{π b:Nat->Addr}{n j:Nat}{H h:Hp}{d:D}{a:Hm}(k:KC K Q π n H d a)(e:Ext π n H b j h):KC K Q b j h d a:=
 fun c v l m R i=>k c v l (e.trans m) R i
noncomputable def tM (K:Vk)(m:ME):TE:=fun σ H Q=>∃ π c b d a,Rp K π H b/\En K π b.length H σ c/\m c b=some (d,a)/\KC K Q π b.length H d a
noncomputable def dE (K:Vk)(m:MT):TT:=fun σ H Q=>∃ π e d b a,Rp K π H d/\En K π d.length H σ e/\m e d=some (b,a)/\∀ c H',Ext π d.length H c a.length H'->Rp K c H' a->Q b H'
noncomputable def fJ (K:Vk)(m:MA):TA:=fun σ H Q=>∃ π d c ds a,Rp K π H c/\En K π c.length H σ d/\m d c=some (ds,a)/\∀ b vs H',Ext π c.length H b a.length H'->Rp K b H' a->IsDs K b a.length H' vs ds->Q vs H'
noncomputable def lP (K:Vk)(E:Ends)(π:Nat->Addr)(n:Nat)(H:Hp)(i:Fl)(h:aH)(b:Hm):Prop:=
 match i with
 | .nx=>∀ a c e,Ext π n H a b.length e->Rp K a e b->En K a b.length e c h->E.nx c e
 | .bk=>∀ a c e,Ext π n H a b.length e->Rp K a e b->En K a b.length e c h->E.bk c e
 | .ct=>∀ a c e,Ext π n H a b.length e->Rp K a e b->En K a b.length e c h->E.ct c e
 | .rt d=>KC K E.rt π n H d b
noncomputable def dN (K:Vk)(m:MS):TS:=fun E σ H=>∃ π e c d b a,Rp K π H c/\En K π c.length H σ e/\m e c=some (d,b,a)/\lP K E π c.length H d b a
noncomputable def iF (K:Vk)(k:Nat)(f:MF):Sp:=fun vs H Q _=>vs.length=k/\∃ π ds b d a,Rp K π H b/\IsDs K π b.length H vs ds/\f ds b=some (d,a)/\KC K Q π b.length H d a
section
variable {X:Cx}{e a b c:Expr}{t:TE}{m ma mb mc:ME}{pos:W4}
theorem cW (h:PE X e t)(hw:∀ σ H Q,tM X.K m σ H Q->t σ H Q):PE X e (tM X.K m):=fun a5X s σ H Q I q=>h a5X s σ H Q I (hw σ H Q q)
theorem r0 {t:TT}{m:MT}(h:PT X e t)(hw:∀ σ H Q,dE X.K m σ H Q->t σ H Q):PT X e (dE X.K m):=fun a5X s σ H Q I q=>h a5X s σ H Q I (hw σ H Q q)
theorem BF {t:TT}{m:MT}(h:PW X e t)(hw:∀ σ H Q,dE X.K m σ H Q->t σ H Q):PW X e (dE X.K m):=fun d a5X s σ H Q I q=>h d a5X s σ H Q I (hw σ H Q q)
theorem BG {es:List Expr}{t:TA}{m:MA}(h:PA X es t)(hw:∀ σ H Q,fJ X.K m σ H Q->t σ H Q):PA X es (fJ X.K m):=fun p a5X s σ H Q I q=>h p a5X s σ H Q I (hw σ H Q q)
theorem iU {st:Stmt}{t:TS}{m:MS}(h:PS X st t)(hw:∀ E σ H,dN X.K m E σ H->t E σ H):PS X st (dN X.K m):=fun a5X s σ H E I q=>h a5X s σ H E I (hw E σ H q)
theorem BH {st:List Stmt}{t:TS}{m:MS}(h:PSs X st t)(hw:∀ E σ H,dN X.K m E σ H->t E σ H):PSs X st (dN X.K m):=fun a5X s σ H E I q=>h a5X s σ H E I (hw E σ H q)
noncomputable def aA (i:Nat):ME:=fun j h=>match j[i]? with|some (some d)=>some (d,h)|_=>none
noncomputable def mC (d:D):ME:=fun _ h=>some (d,h)
theorem JU {i:Nat}{n:aH}{l j:Hm}{d:D}(h:aA i n l=some (d,j)):n[i]? = some (some d)/\j=l:=by
 unfold aA at h
 split at h
 ·rename_i o e
  cases h
  exact ⟨e,rfl⟩
 ·cases h
theorem JV {x:Str}(i:Nat)(h:PE X (.Name x pos) (pL i)):PE X (.Name x pos) (tM X.K (aA i)):=cW h (by
 rintro u H Q ⟨q,s,r,d,p,R,E,o,k⟩
 obtain ⟨j,rfl⟩:=JU o
 obtain ⟨v,l,n⟩:=E.get i d j
 exact ⟨v,l,k q v H .refl R n⟩)
theorem m7 {v:V}{d:D}(h:PE X e (tC v))(hd:∀ π n H,IsD X.K π n H v d):PE X e (tM X.K (mC d)):=cW h (by
 rintro q H Q ⟨π,p,o,l,j,R,E,i,k⟩
 cases i
 exact k π v H .refl R (hd _ _ _))
theorem JW {i:Int}{j:Nat}:PE X (.Constant (.int i) j pos) (tM X.K (mC (.int i))):=m7 Ho fun _ _ _=>.int i
theorem JX {i:Bool}{j:Nat}:PE X (.Constant (.bool i) j pos) (tM X.K (mC (.bl i))):=m7 Hq fun _ _ _=>.bl i
theorem JY {i:Str}{j:Nat}:PE X (.Constant (.str i) j pos) (tM X.K (mC (.str i))):=m7 AN fun _ _ _=>.str i
theorem JZ {j:Nat}:PE X (.Constant .none j pos) (tM X.K (mC .non)):=m7 Hr fun _ _ _=>.non
noncomputable def aB (f:D->D->Hm->Option (D×Hm))(a b:ME):ME:=fun d h=>(a d h).bind fun p=>(b d p.2).bind fun q=>f p.1 q.1 q.2
noncomputable def cS (K:Vk)(f:D->D->Hm->Option (D×Hm))(r:R2):Prop:=
 ∀ j H h x y d i l n Q,Rp K j H h->IsD K j h.length H l x->IsD K j h.length H n y->f x y h=some (d,i)->KC K Q j h.length H d i->r l n H Q
theorem pS {f:D->D->Hm->Option (D×Hm)}{r:R2}{K:Vk}(A:cS K f r):∀ σ H Q,tM K (aB f ma mb) σ H Q->pP r (tM K ma) (tM K mb) σ H Q:=by
 rintro σ H Q ⟨M,s,L,d,l,R,E,h,k⟩
 obtain ⟨⟨x,i⟩,w,h⟩:=Vj.mp h
 obtain ⟨⟨y,j⟩,z,h⟩:=Vj.mp h
 exact ⟨M,s,L,x,i,R,E,w,fun n I N p v B=>⟨n,s,i,y,j,v,E.mono p,z,fun o J u q R2 G=>A o u j x y d l I J Q R2 (B.mono q) G h (k.after (p.trans q))⟩⟩
theorem J0 {op:a2F}{r:R2}{f:D->D->Hm->Option (D×Hm)}(j:OpR X (YI op) r)(i:cS X.K f r)(d:PE X a (tM X.K ma))(h:PE X b (tM X.K mb)):PE X (.BinOp a op b pos) (tM X.K (aB f ma mb)):=
 cW (IA j d h) (pS i)
theorem eF {op:YS}{r:R2}{f:D->D->Hm->Option (D×Hm)}(l:OpR X (Wt op) r)(i:cS X.K f r)(d:PE X a (tM X.K ma))(h:PE X b (tM X.K mb))(j:Yr op b=false):PE X (.Compare a [op] [b] pos) (tM X.K (aB f ma mb)):=
 cW (IF l d h j) (pS i)
noncomputable def aO (m:ME):MT:=fun h d=>(m h d).bind fun p=>match p.1 with|.bl b=>some (b,p.2)|_=>none
theorem BI {K:Vk}:∀ σ H Q,dE K (aO m) σ H Q->tM K m σ H fun x H'=>∃ k,x=.bl k/\Q k H':=by
 rintro σ H Q ⟨r,s,o,b,p,R,E,d,k⟩
 obtain ⟨⟨x,q⟩,l,d⟩:=Vj.mp d
 cases x with
 | bl c=>
  cases d
  refine ⟨r,s,o,_,_,R,E,l,fun h v H' j i n=>?_⟩
  cases n
  exact ⟨_,rfl,k h H' j i⟩
 | _=>cases d
theorem eG {op:YS}{r:R2}{f:D->D->Hm->Option (D×Hm)}(o:OpR X (Wt op) r)(l:cS X.K f r)(i:PE X a (tM X.K ma))(j:PE X b (tM X.K mb))(n:Yr op b=false):PT X (.Compare a [op] [b] pos) (dE X.K (aO (aB f ma mb))):=
 r0 (IG o i j n) fun d H Q h=>pS l d H _ (BI d H Q h)
end
end L3
namespace L3
open PySem L2
section
variable {X:Cx}{e a b c:Expr}{m ma mb mc:ME}{pos:W4}{mt mu:MT}{rest:List Expr}
noncomputable def fY (a b:MT):MT:=fun d h=>(a d h).bind fun p=>match p.1 with|true=>b d p.2|false=>some (false,p.2)
noncomputable def fZ (a b:MT):MT:=fun d h=>(a d h).bind fun p=>match p.1 with|true=>some (true,p.2)|false=>b d p.2
noncomputable def gU (a:MT):MT:=fun h d=>(a h d).map fun p=>(!p.1,p.2)
theorem J1 (d:PT X a (dE X.K mt)):PW X (.BoolOp .And [a] pos) (dE X.K mt):=Hx d
theorem J2 (d:PT X a (dE X.K mt)):PW X (.BoolOp .Or [a] pos) (dE X.K mt):=Hy d
theorem J3 (w:PT X a (dE X.K mt))(y:PW X (.BoolOp .And (b::rest) pos) (dE X.K mu)):PW X (.BoolOp .And (a::b::rest) pos) (dE X.K (fY mt mu)):=BF (Hz w y) (by
 rintro B H Q ⟨A,q,z,d,n,R,E,j,k⟩
 obtain ⟨⟨x,h⟩,v,j⟩:=Vj.mp j
 refine ⟨A,q,z,x,h,R,E,v,fun i r l p=>?_⟩
 cases x with
 | true=>
  refine kE ?_
  exact ⟨i,q,h,d,n,p,E.mono l,j,fun o s u R2=>k o s (l.trans u) R2⟩
 | false=>
  refine kD ?_
  cases j
  exact k i r l p)
theorem J4 (w:PT X a (dE X.K mt))(y:PW X (.BoolOp .Or (b::rest) pos) (dE X.K mu)):PW X (.BoolOp .Or (a::b::rest) pos) (dE X.K (fZ mt mu)):=BF (HA w y) (by
 rintro B H Q ⟨A,q,z,d,n,R,E,j,k⟩
 obtain ⟨⟨x,h⟩,v,j⟩:=Vj.mp j
 refine ⟨A,q,z,x,h,R,E,v,fun i r l p=>?_⟩
 cases x with
 | true=>
  refine kE ?_
  cases j
  exact k i r l p
 | false=>
  refine kD ?_
  exact ⟨i,q,h,d,n,p,E.mono l,j,fun o s u R2=>k o s (l.trans u) R2⟩)
theorem J5 (q:PT X a (dE X.K mt)):PT X (.UnaryOp .Not a pos) (dE X.K (gU mt)):=r0 (HB q) (by
 rintro w H Q ⟨u,v,r,d,s,R,E,h,k⟩
 obtain ⟨⟨x,i⟩,p,h⟩:=Vn.mp h
 cases h
 exact ⟨u,v,r,x,i,R,E,p,fun j l o n=>k j l o n⟩)
noncomputable def gW (a b:ME):ME:=fun d h=>(a d h).bind fun p=>match p.1 with|.bl true=>b d p.2|.bl false=>some (.bl false,p.2)|_=>none
noncomputable def m8 (a b:ME):ME:=fun d h=>(a d h).bind fun p=>match p.1 with|.bl true=>some (.bl true,p.2)|.bl false=>b d p.2|_=>none
noncomputable def kH (a:ME):ME:=fun h d=>(a h d).bind fun p=>match p.1 with|.bl b=>some (.bl (!b),p.2)|_=>none
theorem J6 {op:BoolOp}(h:PE X a (tM X.K m)):PE X (.BoolOp op [a] pos) (tM X.K m):=HF h
theorem J7 (s:PE X a (tM X.K ma))(u:PE X (.BoolOp .And (b::rest) pos) (tM X.K mb)):PE X (.BoolOp .And (a::b::rest) pos) (tM X.K (gW ma mb)):=cW (HG s u) (by
 rintro A H Q ⟨y,p,w,d,n,R,E,h,k⟩
 obtain ⟨⟨x,i⟩,r,h⟩:=Vj.mp h
 cases x with
 | bl c=>
  refine ⟨y,p,w,.bl c,i,R,E,r,fun j z q l o v=>?_⟩
  cases v
  refine ⟨c,rfl,?_⟩
  cases c with
  | true=>
   refine kE ?_
   exact ⟨j,p,i,d,n,o,E.mono l,h,k.after l⟩
  | false=>
   refine kD ?_
   cases h
   exact k j _ q l o (.bl false)
 | _=>cases h)
theorem J8 (s:PE X a (tM X.K ma))(u:PE X (.BoolOp .Or (b::rest) pos) (tM X.K mb)):PE X (.BoolOp .Or (a::b::rest) pos) (tM X.K (m8 ma mb)):=cW (HH s u) (by
 rintro A H Q ⟨y,p,w,d,n,R,E,h,k⟩
 obtain ⟨⟨x,i⟩,r,h⟩:=Vj.mp h
 cases x with
 | bl c=>
  refine ⟨y,p,w,.bl c,i,R,E,r,fun j z q l o v=>?_⟩
  cases v
  refine ⟨c,rfl,?_⟩
  cases c with
  | true=>
   refine kE ?_
   cases h
   exact k j _ q l o (.bl true)
  | false=>
   refine kD ?_
   exact ⟨j,p,i,d,n,o,E.mono l,h,k.after l⟩
 | _=>cases h)
theorem J9 (p:PE X a (tM X.K ma)):PE X (.UnaryOp .Not a pos) (tM X.K (kH ma)):=cW (HI p) (by
 rintro z H Q ⟨v,w,r,d,s,R,E,h,k⟩
 obtain ⟨⟨x,u⟩,o,h⟩:=Vj.mp h
 cases x with
 | bl c=>
  cases h
  refine ⟨v,w,r,_,_,R,E,o,fun i y j n l q=>?_⟩
  cases q
  exact ⟨_,rfl,k i _ j n l (.bl _)⟩
 | _=>cases h)
noncomputable def iG (t:MT)(a b:ME):ME:=fun d h=>(t d h).bind fun p=>match p.1 with|true=>a d p.2|false=>b d p.2
theorem Ka (hc:PT X c (dE X.K mt))(r:PE X a (tM X.K ma))(s:PE X b (tM X.K mb)):PE X (.IfExp c a b pos) (tM X.K (iG mt ma mb)):=cW (HK hc r s) (by
 rintro y H Q ⟨v,o,u,d,i,R,E,n,k⟩
 obtain ⟨⟨x,h⟩,q,n⟩:=Vj.mp n
 refine ⟨v,o,u,x,h,R,E,q,fun j w l p=>?_⟩
 cases x with
 | true=>
  refine kE ?_
  exact ⟨j,o,h,d,i,p,E.mono l,n,k.after l⟩
 | false=>
  refine kD ?_
  exact ⟨j,o,h,d,i,p,E.mono l,n,k.after l⟩)
noncomputable def aD:MA:=fun _ d=>some ([],d)
noncomputable def aC (a:ME)(r:MA):MA:=fun d h=>(a d h).bind fun p=>(r d p.2).bind fun q=>some (p.1::q.1,q.2)
variable {es:List Expr}{ms:MA}
theorem Kb:PA X [] (fJ X.K aD):=BG A4 (by
 rintro o H Q ⟨j,n,l,d,i,R,E,h,k⟩
 cases h
 exact k j [] H .refl R .nil)
theorem Kc (w:PE X e (tM X.K m))(y:PA X es (fJ X.K ms))(z:V5 (e::es) X.env=(false,eval e X.env)::V5 es X.env:=by rfl):PA X (e::es) (fJ X.K (aC m ms)):=BG (vZ w y z) (by
 rintro O H Q ⟨K,q,I,d,J,R,E,h,k⟩
 obtain ⟨⟨x,i⟩,u,h⟩:=Vj.mp h
 obtain ⟨⟨G,j⟩,v,h⟩:=Vj.mp h
 cases h
 exact ⟨K,q,I,x,i,R,E,u,fun l M L o s A=>⟨l,q,i,G,j,s,E.mono o,v,fun n N r p R2 B=>k n _ r (o.trans p) R2 (.cons (A.mono p) B)⟩⟩)
noncomputable def bI (ms:MA):ME:=fun h d=>(ms h d).bind fun p=>if p.1.length<=VA then some (.tup p.1,p.2) else none
noncomputable def cL (ms:MA):ME:=fun h d=>(ms h d).bind fun p=>if p.1.length<=VA then some (.loc p.2.length,p.2++[.lst p.1]) else none
theorem Kd {w:Nat}(h:PA X es (fJ X.K ms)):PE X (.Tuple es w pos) (tM X.K (bI ms)):=cW (IY h) (by
 rintro J H Q ⟨A,B,x,d,y,R,E,i,k⟩
 obtain ⟨⟨I,z⟩,r,i⟩:=Vj.mp i
 split at i
 ·rename_i s
  cases i
  refine ⟨A,B,x,_,_,R,E,r,fun j v G q o n=>⟨by rw [n.length];exact s,fun p u=>?_⟩⟩
  obtain ⟨l,R2⟩:=o.fresh (o:=.tup v) u
  exact k j _ _ (q.trans l) R2 (.tup (.of cG) (n.mono l))
 ·cases i)
theorem Ke (h:PA X es (fJ X.K ms)):PE X (.List es pos) (tM X.K (cL ms)):=cW (IZ h) (by
 rintro K H Q ⟨I,J,B,d,G,R,E,j,k⟩
 obtain ⟨⟨n,i⟩,x,j⟩:=Vj.mp j
 split at j
 ·rename_i y
  cases j
  refine ⟨I,J,B,n,i,R,E,x,fun l o r v u s=>⟨by rw [s.length];exact y,fun p z=>?_⟩⟩
  obtain ⟨w,R2,q⟩:=u.alloc (c:=.lst n) (o:=.lst o) z s
  have A:IsD X.K (gT l i.length p) (i++[C.lst n]).length (aK r p (.lst o)) (.ref p) (.loc i.length):=by
   have:=IsD.loc (K:=X.K) (π:=gT l i.length p) (n:=(i++[C.lst n]).length) (H:=aK r p (.lst o)) (a:=i.length) (by simp)
   rw [q] at this
   exact this
  exact k _ _ _ (v.trans w) R2 A
 ·cases j)
noncomputable def aG (f:MF)(ms:MA):ME:=fun h d=>(ms h d).bind fun p=>f p.1 p.2
theorem Kf {K:Vk}{f:MF}{n:Nat}{E:XK}(x:∀ l j ds h,ms l j=some (ds,h)->ds.length=n):∀ σ H Q,tM K (aG f ms) σ H Q->v7 (iF K n f) [] E (fJ K ms) σ H Q:=by
 rintro σ H Q ⟨z,l,j,d,h,R,E,o,k⟩
 obtain ⟨⟨p,i⟩,r,o⟩:=Vj.mp o
 refine ⟨z,l,j,p,i,R,E,r,fun q y u w v s=>?_⟩
 show iF K n f (y++[]) u Q _
 rw [Zm]
 exact ⟨by rw [s.length];exact x l j p i r,q,p,i,d,h,v,s,o,k.after w⟩
theorem Kg:∀ j i ds d,aD j i=some (ds,d)->ds.length=0:=by
 intro j i ds d h
 cases h
 rfl
theorem Kh {n:Nat}(h:∀ j l ds d,ms j l=some (ds,d)->ds.length=n):∀ j l ds d,aC m ms j l=some (ds,d)->ds.length=n+1:=by
 intro j l ds d i
 obtain ⟨⟨x,o⟩,s,i⟩:=Vj.mp i
 obtain ⟨⟨q,r⟩,p,i⟩:=Vj.mp i
 cases i
 rw [V1,h j o q _ p]
theorem Ki {k:Nat}{f:Addr}{j:Xc}{ps:List Str}{l:MF}{x:Str}{p:W4}{n:Nat}(F:FnOk X.prog X.w X.K X.mg X.base eE k f j ps (iF X.K n l))(y:Room k X.A)(s:Gl X x)(v:X.mg x=some (.ref f))
  (u:Ww X.K (.ref f)=true)(q:Binds X.K j ps [])(o:PA X (e::es) (fJ X.K ms))(w:∀ A z ds i,ms A z=some (ds,i)->ds.length=n)(d:(x == ("__debug__":Str))=false:=by decide)
  (r:V5 (e::es) X.env=(false,eval e X.env)::V5 es X.env:=by rfl)(h:(Yi pos (V5 es X.env)).any (·.1)=false:=by rfl) :
  PE X (.Call (.Name x p) (e::es) [] pos) (tM X.K (aG l ms)):=
 cW (Ja F y s v u q .nil (E:=E0) Bx o d r h) (Kf w)
noncomputable def dR (K:Vk)(f:MF)(r:List V->Hp->VK->Prop):Prop:=
 ∀ j H i n d h l Q,Rp K j H i->IsDs K j i.length H l n->f n i=some (d,h)->KC K Q j i.length H d h->r l H Q
theorem BJ {K:Vk}{f:MF}{r:List V->Hp->VK->Prop}(u:dR K f r):∀ σ H Q,tM K (aG f ms) σ H Q->v9 r (fJ K ms) σ H Q:=by
 rintro σ H Q ⟨y,z,x,d,j,R,E,i,k⟩
 obtain ⟨⟨n,h⟩,s,i⟩:=Vj.mp i
 exact ⟨y,z,x,n,h,R,E,s,fun l w o q p v=>u l o h n d j w Q p v i (k.after q)⟩
theorem Kj {f:MF}{r:List V->Hp->VK->Prop}{id:String}{x:Str}{p:W4}(hc:CallR X (.builtin id) r)(l:dR X.K f r)(n:Gl X x)(o:X.mg x=none)(s:W3 x=some (.builtin id))(i:PA X (e::es) (fJ X.K ms))
  (q:x ≠ "__name__":=by decide) (d:(x == ("__debug__":Str))=false:=by decide)
  (j:V5 (e::es) X.env=(false,eval e X.env)::V5 es X.env:=by rfl)(h:(Yi pos (V5 es X.env)).any (·.1)=false:=by rfl):PE X (.Call (.Name x p) (e::es) [] pos) (tM X.K (aG f ms)):=
 cW (Jd hc n o s i q d j h) (BJ l)
theorem Kk {f:MF}{r:List V->Hp->VK->Prop}{T:String}{x:Str}{p:W4}(hc:CallR X (.type T) r)(l:dR X.K f r)(n:Gl X x)(o:X.mg x=none)(s:W3 x=some (.type T))(i:PA X (e::es) (fJ X.K ms))
  (q:x ≠ "__name__":=by decide) (d:(x == ("__debug__":Str))=false:=by decide)
  (j:V5 (e::es) X.env=(false,eval e X.env)::V5 es X.env:=by rfl)(h:(Yi pos (V5 es X.env)).any (·.1)=false:=by rfl):PE X (.Call (.Name x p) (e::es) [] pos) (tM X.K (aG f ms)):=
 cW (Je hc n o s i q d j h) (BJ l)
noncomputable def bF (d:Hm):D->Option (List D)
 | .tup xs=>some xs
 | .rol xs=>some xs
 | .loc a=>match d[a]? with|some (.lst xs)=>some xs|_=>none
 | _=>none
noncomputable def fK:D->D->Hm->Option (D×Hm)
 | .str z,.int i,μ=>if z.length<=VA then (atI z.cps.toList i).map fun c=>(.str ⟨#[c]⟩,μ) else none
 | x,.int i,μ=>(bF μ x).bind fun h=>(atI h i).map fun d=>(d,μ)
 | _,_,_=>none
theorem Kl {K:Vk}:cS K fK (Bj K):=by
 intro q H O x y d I M N Q R s E j k
 cases E with
 | int i=>
  cases s with
  | str z=>
   simp only [fK] at j
   split at j
   ·rename_i A
    obtain ⟨c,l,n⟩:=Vn.mp j
    cases n
    exact .inr (.inr ⟨z,i,c,rfl,rfl,A,l,k q _ H .refl R (.str _)⟩)
   ·cases j
  | tup h t=>
   simp only [fK,bF,VJ] at j
   obtain ⟨r,l,n⟩:=Vn.mp j
   cases n
   obtain ⟨v,o,p⟩:=t.atI l
   exact .inr (.inl ⟨_,_,i,v,rfl,rfl,h,o,k q _ H .refl R p⟩)
  | rol h t=>
   simp only [fK,bF,VJ] at j
   obtain ⟨r,l,n⟩:=Vn.mp j
   cases n
   obtain ⟨v,o,p⟩:=t.atI l
   exact .inl ⟨_,_,i,v,rfl,rfl,h.sq,o,k q _ H .refl R p⟩
  | @loc a J=>
   simp only [fK,bF] at j
   split at j
   ·rename_i G B
    simp only [VJ] at j
    obtain ⟨r,l,n⟩:=Vn.mp j
    cases n
    obtain ⟨L,u,w⟩:=R.lst a G B
    obtain ⟨v,o,p⟩:=w.atI l
    exact .inl ⟨_,_,i,v,rfl,rfl,.of u,o,k q _ H .refl R p⟩
   ·cases j
  | _=>simp [fK,bF] at j
 | _=>cases s<;>simp [fK] at j
theorem Km (d:PE X a (tM X.K ma))(h:PE X b (tM X.K mb))(i:wD b):PE X (.Subscript a b pos) (tM X.K (aB fK ma mb)):=cW (Jv Jx d h i) (pS Kl)
noncomputable def iV (xs:List D)(lo d:Option Int):List D:=(xs.drop (HT.sIx xs.length 0 lo)).take (HT.sIx xs.length xs.length d - HT.sIx xs.length 0 lo)
noncomputable abbrev MO:=aH->Hm->Option (Option Int×Hm)
noncomputable def jL:MO:=fun _ d=>some (none,d)
noncomputable def iW (m:ME):MO:=fun h d=>(m h d).bind fun p=>match p.1 with|.int i=>some (some i,p.2)|_=>none
noncomputable def pT (K:Vk)(m:MO):TO:=fun σ H Q=>∃ π j i o d,Rp K π H i/\En K π i.length H σ j/\m j i=some (o,d)/\∀ h H',Ext π i.length H h d.length H'->Rp K h H' d->Q o H'
theorem Kn:PO X none (pT X.K jL):=fun a5X s σ H Q I q=>Jp a5X s σ H Q I (by
 obtain ⟨i,l,j,o,h,R,E,d,k⟩:=q
 cases d
 exact k i H .refl R)
theorem Ko (h:PE X e (tM X.K m)):PO X (some e) (pT X.K (iW m)):=fun a5X s σ H Q I q=>Jq h a5X s σ H Q I (by
 obtain ⟨z,A,v,o,w,R,E,d,k⟩:=q
 obtain ⟨⟨x,y⟩,r,d⟩:=Vj.mp d
 cases x with
 | int i=>
  cases d
  refine ⟨z,A,v,_,_,R,E,r,fun j B l p n u=>?_⟩
  cases u
  exact ⟨_,rfl,k j l p n⟩
 | _=>cases d)
noncomputable abbrev BK (K:Vk):V->Option Int->Option Int->Hp->VK->Prop:=wF K
theorem Kp {X:Cx}:SlR X (BK X.K):=JA
theorem BL {K:Vk}{x:V}{lo d:Option Int}{H:Hp}{Q:VK}(h:wF K x lo d H Q):BK K x lo d H Q:=h
noncomputable def lQ (a:ME)(lo h:MO):ME:=fun d j=>(a d j).bind fun p=>(lo d p.2).bind fun q=>(h d q.2).bind fun r=>
 match p.1 with
 | .tup _=>none
 | x=>(bF r.2 x).bind fun i=>some (.loc r.2.length,r.2++[.lst (iV i q.1 r.1)])
theorem BM {K:Vk}{π:Nat->Addr}{n:Nat}{H:Hp}{vs:List V}{ds:List D}(h:IsDs K π n H vs ds)(lo d:Option Int):IsDs K π n H (kC vs lo d) (iV ds lo d):=by
 unfold kC iV
 rw [h.length]
 exact (h.drop _).take _
theorem fL {K:Vk}{π:Nat->Addr}{d:Hm}{p:Addr}{c:C}{H:Hp}:IsD K (gT π d.length p) (d++[c]).length H (.ref p) (.loc d.length):=by
 have:=IsD.loc (K:=K) (π:=gT π d.length p) (n:=(d++[c]).length) (H:=H) (a:=d.length) (by simp)
 rw [show gT π d.length p d.length=p from if_pos rfl] at this
 exact this
theorem Kq {lo K:Option Expr}{M L:MO}{p2:W4}(ha:PE X a (tM X.K ma))(hl:PO X lo (pT X.K M))(hu:PO X K (pT X.K L)):PE X (.Subscript a (.Slice lo K none p2) pos) (tM X.K (lQ ma M L)):=cW (Js Kp ha hl hu) (by
 rintro σ H Q ⟨π,J,μ,d,μ',R,E,j,k⟩
 obtain ⟨⟨x,n⟩,T,j⟩:=Vj.mp j
 obtain ⟨⟨l,o⟩,U,j⟩:=Vj.mp j
 obtain ⟨⟨u,B⟩,Y,j⟩:=Vj.mp j
 refine ⟨π,J,μ,x,n,R,E,T,fun G v1 H1 r O i1=>⟨G,J,n,l,o,O,E.mono r,U,fun I H2 s R2=>⟨I,J,o,u,B,R2,(E.mono r).mono s,Y,fun π3 H3 y v=>?_⟩⟩⟩
 have i3:=(i1.mono s).mono y
 cases i3 with
 | rol h t=>
  simp only [bF,VJ] at j
  cases j
  refine BL ⟨_,_,rfl,h.sq,fun p A=>?_⟩
  obtain ⟨z,w,q⟩:=v.alloc (c:=.lst (iV _ l u)) (o:=.lst (kC _ l u)) A (BM t l u)
  exact k _ _ _ (((r.trans s).trans y).trans z) w fL
 | @loc i hi'=>
  simp only [bF] at j
  split at j
  ·rename_i N hx
   simp only [VJ] at j
   cases j
   obtain ⟨vs,Z,h6⟩:=v.lst i N hx
   refine BL ⟨_,_,rfl,.of Z,fun p A=>?_⟩
   obtain ⟨z,w,q⟩:=v.alloc (c:=.lst (iV N l u)) (o:=.lst (kC vs l u)) A (BM h6 l u)
   exact k _ _ _ (((r.trans s).trans y).trans z) w fL
  ·cases j
 | tup h t=>simp at j
 | _=>simp [bF] at j)
end
section
variable {X:Cx}{e a b c:Expr}{m:ME}{pos:W4}{mt:MT}{st:Stmt}{rest body orelse:List Stmt}{ms mr mu:MS}
noncomputable def bG:MS:=fun h d=>some (.nx,h,d)
noncomputable def aI (a b:MS):MS:=fun h d=>(a h d).bind fun p=>match p.1 with|.nx=>b p.2.1 p.2.2|_=>some p
noncomputable def aQ (m:ME):MS:=fun d h=>(m d h).map fun p=>(.rt p.1,d,p.2)
noncomputable def dS (m:ME):MS:=fun d h=>(m d h).map fun p=>(.nx,d,p.2)
noncomputable def bD (t:MT)(a b:MS):MS:=fun d h=>(t d h).bind fun p=>match p.1 with|true=>a d p.2|false=>b d p.2
noncomputable def aR (i:Nat)(m:ME):MS:=fun d h=>(m d h).map fun p=>(.nx,d.set i (some p.1),p.2)
theorem Kr:PSs X [] (dN X.K bG):=BH HN (by
 rintro E n H ⟨j,q,p,o,l,i,R,d,h,k⟩
 cases h
 exact k j n H .refl R d)
theorem Ks (h1:PS X st (dN X.K ms))(B:PSs X rest (dN X.K mr)):PSs X (st::rest) (dN X.K (aI ms mr)):=BH (HP h1 B) (by
 rintro E M H ⟨I,J,G,x,v,s,R,z,j,k⟩
 obtain ⟨⟨w,q,p⟩,h1,j⟩:=Vj.mp j
 refine ⟨I,J,G,w,q,p,R,z,h1,?_⟩
 cases w with
 | nx=>
  intro u K L r A y
  refine ⟨u,q,p,x,v,s,A,y,j,?_⟩
  cases x with
  | nx=>exact fun h i n o R2 l=>k h i n (r.trans o) R2 l
  | bk=>exact fun h i n o R2 l=>k h i n (r.trans o) R2 l
  | ct=>exact fun h i n o R2 l=>k h i n (r.trans o) R2 l
  | rt d=>exact KC.after k r
 | rt d=>cases j;exact k
 | bk=>cases j;exact k
 | ct=>cases j;exact k)
theorem Kt (h1:PS X st (dN X.K ms)):PSs X [st] (dN X.K ms):=HQ h1
theorem Ku:PS X (.Pass pos) (dN X.K bG):=iU HR (by
 rintro E n H ⟨j,q,p,o,l,i,R,d,h,k⟩
 cases h
 exact k j n H .refl R d)
theorem Kw (l:PE X e (tM X.K m)):PS X (.Return (some e) pos) (dN X.K (aQ m)):=iU (HW l) (by
 rintro E u H ⟨p,q,n,s,r,o,R,i,d,k⟩
 obtain ⟨⟨x,h⟩,j,d⟩:=Vn.mp d
 cases d
 exact ⟨p,q,n,x,h,R,i,j,k⟩)
theorem Ky (q:PE X e (tM X.K m))(r:ZQ e none pos.line X.env=pure false:=by rfl):PS X (.Expr e pos) (dN X.K (dS m)):=iU (HU q r) (by
 rintro E z H ⟨v,w,s,A,y,u,R,j,d,k⟩
 obtain ⟨⟨x,h⟩,p,d⟩:=Vn.mp d
 cases d
 exact ⟨v,w,s,x,h,R,j,p,fun i G n l o B=>k i z n l o (j.mono l)⟩)
theorem Kz (hc:PT X c (dE X.K mt))(I:PSs X body (dN X.K ms))(J:PSs X orelse (dN X.K mu)):PS X (.If c body orelse pos) (dN X.K (bD mt ms mu)):=iU (Ia hc I J) (by
 rintro E M H ⟨L,y,K,u,o,l,R,w,v,k⟩
 obtain ⟨⟨x,j⟩,G,v⟩:=Vj.mp v
 refine ⟨L,y,K,x,j,R,w,G,fun n B p z=>?_⟩
 have A:lP X.K E n j.length B u o l:=by
  cases u with
  | nx=>exact fun h i r s R2 q=>k h i r (p.trans s) R2 q
  | bk=>exact fun h i r s R2 q=>k h i r (p.trans s) R2 q
  | ct=>exact fun h i r s R2 q=>k h i r (p.trans s) R2 q
  | rt d=>exact KC.after k p
 cases x with
 | true=>
  refine kE ?_
  exact ⟨n,y,j,u,o,l,z,w.mono p,v,A⟩
 | false=>
  refine kD ?_
  exact ⟨n,y,j,u,o,l,z,w.mono p,v,A⟩)
theorem BN {i:Nat}{x:Str}{d:W4}(s:X.N.Nodup)(w:X.N[i]? = some x)(z:Loc X.env.scope x)(u:PE X e (tM X.K m))(y:ZQ e (some (.Name x d)) pos.line X.env=pure false:=by rfl)
  (v:X.fn x=true\/X.env.scope.names.lookup x=some .local:=by first|exact .inl rfl|exact .inr rfl|assumption):PS X (.Assign [.Name x d] e pos) (dN X.K (aR i m)):=iU (Ih s w z u y v) (by
 rintro E N H ⟨I,J,B,L,K,G,R,n,h,k⟩
 obtain ⟨⟨x,j⟩,r,h⟩:=Vn.mp h
 cases h
 exact ⟨I,J,B,x,j,R,n,r,fun l M p o q A=>k l _ p o q ((n.mono o).set A i)⟩)
end
noncomputable def pU (n:Nat)(ds:List D):aH:=ds.map some++VW (n - ds.length) none
noncomputable def wL (n:Nat)(m:MS):MF:=fun ds a=>(m (pU n ds) a).bind fun p=>match p.1 with|.rt d=>some (d,p.2.2)|.nx=>some (.non,p.2.2)|_=>none
theorem BO {K:Vk}{π:Nat->Addr}{n:Nat}{H:Hp}{N:List Str}{vs:List V}{ds:List D}(h:IsDs K π n H vs ds)(p:vs.length<=N.length):En K π n H (L2.start N vs) (pU N.length ds):=by
 have a:=h.length
 refine ⟨by simp [L2.start,pU,a],fun i d e=>?_⟩
 unfold pU at e
 unfold L2.start
 by_cases b:i<ds.length
 ·rw [We (by simpa using b),V0] at e
  obtain ⟨o,c,j⟩:=Vn.mp e
  cases j
  obtain ⟨v,l,m⟩:=h.get c
  exact ⟨v,by rw [We (by rw [Vm,a];exact b),V0,l];rfl,m⟩
 ·rw [Xh (by simpa using Yx.mp b)] at e
  have:=XZ (n:=N.length - ds.length) (a:=(none:Option D)) (i:=i - (ds.map some).length)
  rw [this] at e
  split at e<;>simp at e
section
variable {P:VQ}{w:V6}{K:Vk}{mg:Str->Option Value}{base:Wj}
theorem KA {x qual:Str}{st:Stmt}{f:Addr}{o:Xc}{N ps:List Str}{k:Nat}{m:MS}(F:Fun K x qual st f o)(S:FnScope N ps (bR st))(e:ps.length<=N.length)
  (b:∀ (a:Value)(A:VU)(outer:List Z7)(s:Vp)(H:Hp)(E:XK),Room k (A.deeper (YY qual (bR st) s.heap.objs.size f a))->
   PSs (dW eE P w K mg base N qual (bR st) f a A outer s H E).nox (dM st) (dN K m)):FnOk P w K mg base eE (k+1) f o ps (iF K ps.length (wL N.length m)):=by
 refine F.ok S (fun G H Q E h=>h.1) fun a A outer s H G Q E z h=>⟨_,b a A outer s H E z,?_⟩
 obtain ⟨B,L,ds,I,d,J,R,i,c,q⟩:=h
 obtain ⟨⟨p,n,j⟩,y,c⟩:=Vj.mp c
 refine ⟨L,_,I,p,n,j,R,BO i (by rw [B];exact e),y,?_⟩
 cases p with
 | rt T=>cases c;exact q
 | nx=>cases c;exact fun l M r v u O=>q l .non r v u .non
 | bk=>cases c
 | ct=>cases c
end
end L3
namespace L3
open PySem L2
open SeqAt (EqAt RcAt RcNeAt)
inductive KD where
 | non|bl (b:Bool)|int (i:Int)|str (x:Str)|tup (n:Nat)|lst (n:Nat)
inductive IsK (s:Vp):Value->KD->Prop where
 | non:IsK s .none .non
 | bl (b:Bool):IsK s (.bool b) (.bl b)
 | int (i:Int)(t:a4V):IsK s (.int i t) (.int i)
 | str (x:Str)(t:a4V):IsK s (.str x t) (.str x)
 | tup {l:Addr}{its:List Value}(h:s.heap.IsTuple l its.toArray):IsK s (.ref l) (.tup its.length)
 | lst {l:Addr}{its:List Value}(h:s.heap.IsList l its.toArray):IsK s (.ref l) (.lst its.length)
noncomputable def m9 (e:Nat->Bool):KD->KD->Bool
 | .non,.non=>true
 | .bl a,.bl b=>a == b
 | .bl a,.int b=>(if a then 1 else 0) == b
 | .int a,.bl b=>a == (if b then 1 else 0)
 | .int a,.int b=>a == b
 | .str a,.str b=>a == b
 | .tup n,.tup k=>(Wc (min n k)).all e&&n == k
 | .lst n,.lst k=>(Wc (min n k)).all e&&n == k
 | _,_=>false
noncomputable def r8 (A:VU)(s:Vp)(u v:Value)(e:Nat->Bool):Prop:=
 (∀ l b c a,u=.ref l->v=.ref b->s.heap.IsTuple l c->s.heap.IsTuple b a->∀ j (h1:j<c.size)(d:j<a.size),EqAt A.in1 s c[j] a[j] (e j)) /\
 (∀ l b c a,u=.ref l->v=.ref b->s.heap.IsList l c->s.heap.IsList b a->∀ j (h1:j<c.size)(d:j<a.size),EqAt A.in1 s c[j] a[j] (e j))
section
variable {A:VU}{s:Vp}{u v:Value}{k k':KD}{e:Nat->Bool}
theorem BP {n k:Nat}(e:Nat->Bool)(h:n=k):((Wc (min n k)).all e&&n == k)=(Wc n).all e:=by
 subst h
 simp
theorem BQ {n k:Nat}(e:Nat->Bool)(h:n≠k):((Wc (min n k)).all e&&n == k)=false:=by
 simp [h]
theorem wM (h:IsK s u k)(h':IsK s v k')(c:A.units<WX)(o:r8 A s u v e):RcAt A s u v (m9 e k k'):=by
 cases h with
 | non=>
  cases h' with
  | non=>exact RcAt.none_none
  | bl b=>exact RcAt.none_bool b
  | int i t=>exact RcAt.none_int i t
  | str x t=>exact RcAt.none_str x t
  | tup h=>exact RcAt.none_tuple h c
  | lst h=>exact RcAt.none_list h c
 | bl a=>
  cases h' with
  | non=>exact RcAt.bool_none a
  | bl b=>exact RcAt.bool_bool a b
  | int i t=>exact RcAt.bool_int a i t
  | str x t=>exact RcAt.bool_str a x t
  | tup h=>exact RcAt.bool_tuple a h c
  | lst h=>exact RcAt.bool_list a h c
 | int a j=>
  cases h' with
  | non=>exact RcAt.int_none a j
  | bl b=>exact RcAt.int_bool a j b
  | int i t=>exact RcAt.int_int a j i t
  | str x t=>exact RcAt.int_str a j x t
  | tup h=>exact RcAt.int_tuple a j h c
  | lst h=>exact RcAt.int_list a j h c
 | str a j=>
  cases h' with
  | non=>exact RcAt.str_none a j
  | bl b=>exact RcAt.str_bool a j b
  | int i t=>exact RcAt.str_int a j i t
  | str x t=>exact RcAt.str_str a j x t
  | tup h=>exact RcAt.str_tuple a j h c
  | lst h=>exact RcAt.str_list a j h c
 | tup g=>
  cases h' with
  | non=>exact RcAt.tuple_none g c
  | bl b=>exact RcAt.tuple_bool b g c
  | int i t=>exact RcAt.tuple_int i t g c
  | str x t=>exact RcAt.tuple_str x t g c
  | tup h=>
   have:=RcAt.tuples (e:=e) g h c (o.1 _ _ _ _ rfl rfl g h)
   simpa [m9] using this
  | lst h=>exact RcAt.tuple_list g h c
 | lst g=>
  cases h' with
  | non=>exact RcAt.list_none g c
  | bl b=>exact RcAt.list_bool b g c
  | int i t=>exact RcAt.list_int i t g c
  | str x t=>exact RcAt.list_str x t g c
  | tup h=>exact RcAt.list_tuple g h c
  | @lst b d h=>
   rename_i l m
   by_cases n:m.length=d.length
   ·have:=RcAt.lists (e:=e) g h (by simpa using n) c (o.2 _ _ _ _ rfl rfl g h)
    show RcAt A s _ _ ((Wc (min m.length d.length)).all e&&m.length == d.length)
    rw [BP e n]
    simpa using this
   ·have:=RcAt.lists_lengths g h (by simpa using n) c
    show RcAt A s _ _ ((Wc (min m.length d.length)).all e&&m.length == d.length)
    rw [BQ e n]
    exact this
theorem KG (h:IsK s u k)(h':IsK s v k')(c:A.units<WX)(o:r8 A s u v e):RcNeAt A s u v (!m9 e k k'):=by
 cases h with
 | non=>
  cases h' with
  | non=>exact RcNeAt.none_none
  | bl b=>exact RcNeAt.none_bool b
  | int i t=>exact RcNeAt.none_int i t
  | str x t=>exact RcNeAt.none_str x t
  | tup h=>exact RcNeAt.none_tuple h c
  | lst h=>exact RcNeAt.none_list h c
 | bl a=>
  cases h' with
  | non=>exact RcNeAt.bool_none a
  | bl b=>exact RcNeAt.bool_bool a b
  | int i t=>exact RcNeAt.bool_int a i t
  | str x t=>exact RcNeAt.bool_str a x t
  | tup h=>exact RcNeAt.bool_tuple a h c
  | lst h=>exact RcNeAt.bool_list a h c
 | int a j=>
  cases h' with
  | non=>exact RcNeAt.int_none a j
  | bl b=>exact RcNeAt.int_bool a j b
  | int i t=>exact RcNeAt.int_int a j i t
  | str x t=>exact RcNeAt.int_str a j x t
  | tup h=>exact RcNeAt.int_tuple a j h c
  | lst h=>exact RcNeAt.int_list a j h c
 | str a j=>
  cases h' with
  | non=>exact RcNeAt.str_none a j
  | bl b=>exact RcNeAt.str_bool a j b
  | int i t=>exact RcNeAt.str_int a j i t
  | str x t=>exact RcNeAt.str_str a j x t
  | tup h=>exact RcNeAt.str_tuple a j h c
  | lst h=>exact RcNeAt.str_list a j h c
 | tup g=>
  cases h' with
  | non=>exact RcNeAt.tuple_none g c
  | bl b=>exact RcNeAt.tuple_bool b g c
  | int i t=>exact RcNeAt.tuple_int i t g c
  | str x t=>exact RcNeAt.tuple_str x t g c
  | tup h=>
   have:=RcNeAt.tuples (e:=e) g h c (o.1 _ _ _ _ rfl rfl g h)
   simpa [m9] using this
  | lst h=>exact RcNeAt.tuple_list g h c
 | lst g=>
  cases h' with
  | non=>exact RcNeAt.list_none g c
  | bl b=>exact RcNeAt.list_bool b g c
  | int i t=>exact RcNeAt.list_int i t g c
  | str x t=>exact RcNeAt.list_str x t g c
  | tup h=>exact RcNeAt.list_tuple g h c
  | @lst b d h=>
   rename_i l m
   by_cases n:m.length=d.length
   ·have:=RcNeAt.lists (e:=e) g h (by simpa using n) c (o.2 _ _ _ _ rfl rfl g h)
    show RcNeAt A s _ _ (!((Wc (min m.length d.length)).all e&&m.length == d.length))
    rw [BP e n]
    simpa using this
   ·have:=RcNeAt.lists_lengths g h (by simpa using n) c
    show RcNeAt A s _ _ (!((Wc (min m.length d.length)).all e&&m.length == d.length))
    rw [BQ e n]
    exact this
theorem KH (h:IsK s u k)(h':IsK s v k')(c:A.units<WX)(o:r8 A s u v e)(n:∀ l b,u=.ref l->v=.ref b->l≠b):EqAt A s u v (m9 e k k'):=by
 cases h with
 | non=>
  cases h' with
  | non=>exact EqAt.same _
  | bl b=>exact EqAt.none_bool b
  | int i t=>exact EqAt.none_int i t
  | str x t=>exact EqAt.none_str x t
  | tup h=>exact EqAt.none_tuple h c
  | lst h=>exact EqAt.none_list h c
 | bl a=>
  cases h' with
  | non=>exact EqAt.bool_none a
  | bl b=>exact EqAt.bool_bool a b
  | int i t=>exact EqAt.bool_int a i t
  | str x t=>exact EqAt.bool_str a x t
  | tup h=>exact EqAt.bool_tuple a h c
  | lst h=>exact EqAt.bool_list a h c
 | int a d=>
  cases h' with
  | non=>exact EqAt.int_none a d
  | bl b=>exact EqAt.int_bool a d b
  | int i t=>exact EqAt.int_int a d i t
  | str x t=>exact EqAt.int_str a d x t
  | tup h=>exact EqAt.int_tuple a d h c
  | lst h=>exact EqAt.int_list a d h c
 | str a d=>
  cases h' with
  | non=>exact EqAt.str_none a d
  | bl b=>exact EqAt.str_bool a d b
  | int i t=>exact EqAt.str_int a d i t
  | str x t=>exact EqAt.str_str a d x t
  | tup h=>exact EqAt.str_tuple a d h c
  | lst h=>exact EqAt.str_list a d h c
 | @tup l m g=>
  cases h' with
  | non=>exact EqAt.tuple_none g c
  | bl b=>exact EqAt.tuple_bool b g c
  | int i t=>exact EqAt.tuple_int i t g c
  | str x t=>exact EqAt.tuple_str x t g c
  | @tup b j h=>exact EqAt.of_refs (n l b rfl rfl) (wM (k:=.tup m.length) (k':=.tup j.length) (.tup g) (.tup h) c o)
  | lst h=>exact EqAt.tuple_list g h c
 | @lst l m g=>
  cases h' with
  | non=>exact EqAt.list_none g c
  | bl b=>exact EqAt.list_bool b g c
  | int i t=>exact EqAt.list_int i t g c
  | str x t=>exact EqAt.list_str x t g c
  | tup h=>exact EqAt.list_tuple g h c
  | @lst b j h=>exact EqAt.of_refs (n l b rfl rfl) (wM (k:=.lst m.length) (k':=.lst j.length) (.lst g) (.lst h) c o)
end
inductive KdD where
 | non|bl (b:Bool)|int (i:Int)|str (x:Str)|tup (xs:List D)|lst (xs:List D)
noncomputable def eX (c:Hm):D->Option KdD
 | .non=>some .non
 | .bl b=>some (.bl b)
 | .int i=>some (.int i)
 | .str x=>some (.str x)
 | .tup xs=>some (.tup xs)
 | .rol xs=>some (.lst xs)
 | .loc a=>match c[a]? with|some (.lst xs)=>some (.lst xs)|_=>none
 | .ty _=>none
noncomputable def gX (f:D->D->Option Bool):List D->List D->Option Bool
 | x::xs,y::ys=>(f x y).bind fun b=>(gX f xs ys).map fun c=>b&&c
 | [],[]=>some true
 | _,_=>some false
noncomputable def iX (f:D->D->Option Bool):KdD->KdD->Option Bool
 | .non,.non=>some true
 | .bl a,.bl b=>some (a == b)
 | .bl a,.int b=>some ((if a then 1 else 0) == b)
 | .int a,.bl b=>some (a == (if b then 1 else 0))
 | .int a,.int b=>some (a == b)
 | .str a,.str b=>some (a == b)
 | .tup xs,.tup ys=>gX f xs ys
 | .lst xs,.lst ys=>gX f xs ys
 | _,_=>some false
noncomputable def cD:Nat->Hm->D->D->Option Bool
 | 0,_,_,_=>none
 | n+1,μ,x,y=>(eX μ x).bind fun a=>(eX μ y).bind fun b=>iX (cD n μ) a b
noncomputable def wN:KdD->KD
 | .non=>.non|.bl b=>.bl b|.int i=>.int i|.str x=>.str x|.tup xs=>.tup xs.length|.lst xs=>.lst xs.length
noncomputable def nA:KdD->List D
 | .tup xs=>xs|.lst xs=>xs|_=>[]
section
variable {X:Cx}{a5X:List (Addr×WY)}{σ:St}{H:Hp}{s:Vp}{π:Nat->Addr}{μ:Hm}
inductive KdAt (X:Cx)(π:Nat->Addr)(n:Nat)(H:Hp)(s:Vp)(u:Value):KdD->Prop where
 | non (h:u=.none):KdAt X π n H s u .non
 | bl (b:Bool)(h:u=.bool b):KdAt X π n H s u (.bl b)
 | int (i:Int)(t:a4V)(h:u=.int i t):KdAt X π n H s u (.int i)
 | str (x:Str)(t:a4V)(h:u=.str x t):KdAt X π n H s u (.str x)
 | tup {xs:List D}(p:Addr)(vs:List V)(its:List Value)(h:u=.ref p)(q:SqT X.K H p vs)(i:IsDs X.K π n H vs xs)(r:Vals vs its)(t:s.heap.IsTuple p its.toArray):KdAt X π n H s u (.tup xs)
 | lst {xs:List D}(p:Addr)(vs:List V)(its:List Value)(h:u=.ref p)(q:SqL X.K H p vs)(i:IsDs X.K π n H vs xs)(r:Vals vs its)(t:s.heap.IsList p its.toArray):KdAt X π n H s u (.lst xs)
theorem nB (I:Inv X a5X σ H s)(R:Rp X.K π H μ){v:V}{d:D}{u:Value}(h:IsD X.K π μ.length H v d)(r:RelV v u){k:KdD}(e:eX μ d=some k):KdAt X π μ.length H s u k:=by
 cases h with
 | non=>cases e;exact .non r
 | bl b=>cases e;exact .bl b r
 | int i=>cases e;obtain ⟨t,q⟩:=r;exact .int i t q
 | str x=>cases e;obtain ⟨t,q⟩:=r;exact .str x t q
 | ty x=>cases e
 | tup q t=>
  cases e
  obtain ⟨c,j,p,_⟩:=I.tuple q
  exact .tup _ _ c r q t j p
 | rol q t=>
  cases e
  obtain ⟨c,j,p,_⟩:=I.list q.sq
  exact .lst _ _ c r q.sq t j p.isList
 | @loc a y=>
  simp only [eX] at e
  split at e
  ·rename_i w n
   cases e
   obtain ⟨o,l,m⟩:=R.lst a w n
   have q:SqL X.K H (π a) o:=.of l
   obtain ⟨c,j,p,_⟩:=I.list q
   exact .lst _ _ c r q m j p.isList
  ·cases e
theorem KdAt.isK {u:Value}{k:KdD}{n:Nat}(h:KdAt X π n H s u k):IsK s u (wN k):=by
 cases h with
 | non h=>subst h;exact .non
 | bl b h=>subst h;exact .bl b
 | int i t h=>subst h;exact .int i t
 | str x t h=>subst h;exact .str x t
 | tup p c a h q i r t=>
  subst h
  have:a.length=_:=r.length.symm.trans i.length
  show IsK s (.ref p) (.tup _)
  rw [<- this]
  exact .tup t
 | lst p c a h q i r t=>
  subst h
  have:a.length=_:=r.length.symm.trans i.length
  show IsK s (.ref p) (.lst _)
  rw [<- this]
  exact .lst t
noncomputable def gY (f:D->D->Option Bool)(xs a:List D)(j:Nat):Bool:=match xs[j]?,a[j]? with
 | some x,some y=>(f x y).getD false
 | _,_=>false
theorem wO {f:D->D->Option Bool}:∀ {xs a:List D}{b:Bool},gX f xs a=some b->b=((Wc (min xs.length a.length)).all (gY f xs a)&&xs.length == a.length)/\∀ (j:Nat) x y,xs[j]? = some x->a[j]? = some y->f x y=some (gY f xs a j)
 | [],[],b,h=>by
  cases h
  exact ⟨rfl,fun j x y e=>by simp at e⟩
 | x::xs,[],b,h=>by
  cases h
  exact ⟨by simp,fun j x y _ e=>by simp at e⟩
 | [],y::a,b,h=>by
  cases h
  exact ⟨by simp,fun j x y e=>by simp at e⟩
 | x::xs,y::a,b,h=>by
  simp only [gX] at h
  obtain ⟨c,n,p⟩:=Vj.mp h
  obtain ⟨d,q,r⟩:=Vn.mp p
  obtain ⟨u,v⟩:=wO q
  have m:gY f (x::xs) (y::a) 0=c:=by simp [gY,n]
  have o:∀ j,gY f (x::xs) (y::a) (j+1)=gY f xs a j:=fun j=>by simp [gY]
  refine ⟨?_,fun j w z i l=>?_⟩
  ·subst r
   rw [u]
   simp only [V1,Nat.add_min_add_right]
   rw [Z5,Wf,a2u,m]
   have:(gY f (x::xs) (y::a) ∘ Nat.succ)=gY f xs a:=funext fun j=>o j
   rw [this]
   simp [a4r]
  ·cases j with
   | zero=>
    simp at i l
    subst i;subst l
    rw [m,n]
   | succ j=>
    rw [o j]
    exact v j w z (by simpa using i) (by simpa using l)
theorem BR {f:D->D->Option Bool}{k k':KdD}{b:Bool}(h:iX f k k'=some b):b=m9 (gY f (nA k) (nA k')) (wN k) (wN k'):=by
 cases k<;>cases k'<;>simp only [iX] at h<;>first
  | (have a:=VX h;subst a;rfl)
  | (obtain ⟨c,_⟩:=wO h;rw [c];rfl)
theorem KI (I:Inv X a5X σ H s)(R:Rp X.K π H μ):∀ (n:Nat){v:V}{u:Value}{x y:D}{b:Bool},RelV v u->IsD X.K π μ.length H v x->IsD X.K π μ.length H v y->cD n μ x y=some b->b=true:=by
 intro n
 induction n with
 | zero=>intro v u x y b _ _ _ h;cases h
 | succ n ih=>
  intro v u x y b r hx hy h
  obtain ⟨k,U,h⟩:=Vj.mp h
  obtain ⟨k',h2,h⟩:=Vj.mp h
  have a1:=nB I R hx r U
  have A:=nB I R hy r h2
  have l:∀ {vs:List V}{xs T:List D}{c:Bool},(∀ v∈vs,∃ u,RelV v u)->IsDs X.K π μ.length H vs xs->IsDs X.K π μ.length H vs T->gX (cD n μ) xs T=some c->c=true:=by
   intro vs
   induction vs with
   | nil=>intro xs T c _ Z o h;cases Z;cases o;cases h;rfl
   | cons w vs ihv=>
    intro xs T c hr Z o h
    cases Z with
    | cons p1 t1=>
     cases o with
     | cons L E=>
      simp only [gX] at h
      obtain ⟨c1,U,h3⟩:=Vj.mp h
      obtain ⟨c2,h4,h5⟩:=Vn.mp h3
      obtain ⟨Q,N⟩:=hr w (VO ..)
      have a:=ih N p1 L U
      have m:=ihv (fun v J=>hr v (VI _ J)) t1 E h4
      subst a;subst m
      exact h5.symm
  cases a1 with
  | non a=>
   subst a
   cases A with
   | non _=>simp only [iX] at h;exact (VX h).symm
   | bl _ e=>cases e
   | int _ _ e=>cases e
   | str _ _ e=>cases e
   | tup _ _ _ e=>cases e
   | lst _ _ _ e=>cases e
  | bl c a=>
   subst a
   cases A with
   | non e=>cases e
   | bl _ e=>cases e;simp only [iX,beq_self_eq_true] at h;exact (VX h).symm
   | int _ _ e=>cases e
   | str _ _ e=>cases e
   | tup _ _ _ e=>cases e
   | lst _ _ _ e=>cases e
  | int c t a=>
   subst a
   cases A with
   | non e=>cases e
   | bl _ e=>cases e
   | int _ _ e=>cases e;simp only [iX,beq_self_eq_true] at h;exact (VX h).symm
   | str _ _ e=>cases e
   | tup _ _ _ e=>cases e
   | lst _ _ _ e=>cases e
  | str c t a=>
   subst a
   cases A with
   | non e=>cases e
   | bl _ e=>cases e
   | int _ _ e=>cases e
   | str _ _ e=>cases e;simp only [iX,beq_self_eq_true] at h;exact (VX h).symm
   | tup _ _ _ e=>cases e
   | lst _ _ _ e=>cases e
  | tup p vs K a q i O t=>
   have z:KdAt X π μ.length H s (.ref p) _:=a ▸ KdAt.tup p vs K a q i O t
   rw [a] at A
   cases A with
   | non e=>cases e
   | bl _ e=>cases e
   | int _ _ e=>cases e
   | str _ _ e=>cases e
   | tup L G d m M o B E=>
    cases m
    have:=I.tuple_inj q M
    subst this
    exact l (fun v J=>by
     obtain ⟨j,Y,rfl⟩:=YG J
     obtain ⟨Q,_,N⟩:=O.get (VH Y)
     exact ⟨Q,N⟩) i o h
   | lst L G d m M o B E=>
    cases m
    exact absurd rfl (Xf E t)
  | lst p vs K a q i O t=>
   rw [a] at A
   cases A with
   | non e=>cases e
   | bl _ e=>cases e
   | int _ _ e=>cases e
   | str _ _ e=>cases e
   | tup L G d m M o B E=>
    cases m
    exact absurd rfl (Xf t E)
   | lst L G d m M o B E=>
    cases m
    have:=I.list_inj q M
    subst this
    exact l (fun v J=>by
     obtain ⟨j,Y,rfl⟩:=YG J
     obtain ⟨Q,_,N⟩:=O.get (VH Y)
     exact ⟨Q,N⟩) i o h
theorem kI (A:VU):A.in1.units=A.units+1:=rfl
theorem BS (I:Inv X a5X σ H s){A:VU}{n:Nat}(ih:∀ {A:VU}{v v':V}{u u':Value}{x y:D}{b:Bool},A.units+n<WX->RelV v u->RelV v' u'->IsD X.K π μ.length H v x->IsD X.K π μ.length H v' y->cD n μ x y=some b->EqAt A s u u' b)
  (hu:A.units+(n+1)<WX){u u':Value}{k k':KdD}{b:Bool}(a1:KdAt X π μ.length H s u k)(a2:KdAt X π μ.length H s u' k')(h:iX (cD n μ) k k'=some b):r8 A s u u' (gY (cD n μ) (nA k) (nA k')):=by
 have J:∀ {vs Q:List V}{z its':List Value}{xs U:List D}{c:Bool},Vals vs z->Vals Q its'->IsDs X.K π μ.length H vs xs->IsDs X.K π μ.length H Q U->gX (cD n μ) xs U=some c->
   ∀ j (h1:j<z.length)(T:j<its'.length),EqAt A.in1 s z[j] its'[j] (gY (cD n μ) xs U j):=by
  intro vs Q z its' xs U c r r' i i' e j h1 T
  have l1:=r.length
  have l2:=r'.length
  have l3:=i.length
  have l4:=i'.length
  have hx:xs[j]? = some (xs[j]'(by omega)):=VH _
  have hy:U[j]? = some (U[j]'(by omega)):=VH _
  obtain ⟨v,v1,v2⟩:=i.get hx
  obtain ⟨v',v1',v2'⟩:=i'.get hy
  obtain ⟨w,w1,w2⟩:=r.get v1
  obtain ⟨w',w1',w2'⟩:=r'.get v1'
  rw [VH h1] at w1
  rw [VH T] at w1'
  cases w1
  cases w1'
  exact ih (by rw [kI];omega) w2 w2' v2 v2' ((wO e).2 j _ _ hx hy)
 constructor
 ·intro l b' G B e1 e2 t1 t2 j h1 T
  subst e1;subst e2
  cases a1 with
  | tup p vs z e q i r t=>
   cases e
   cases a2 with
   | tup p2 R E a q2 Y Z O=>
    cases a
    have z1:G=z.toArray:=by
     obtain ⟨o,K,g2,n1,M⟩:=t1
     obtain ⟨o',d,L,N,m⟩:=t
     rw [K] at d;cases d
     rw [M] at m
     injection m
    have z2:B=E.toArray:=by
     obtain ⟨o,K,g2,n1,M⟩:=t2
     obtain ⟨o',d,L,N,m⟩:=O
     rw [K] at d;cases d
     rw [M] at m
     injection m
    subst z1;subst z2
    have:=J r Z i Y h j (by simpa using h1) (by simpa using T)
    simpa [nA] using this
   | lst p2 R E a q2 Y Z O=>
    cases a
    exact absurd rfl (Xf O t2)
   | non a=>cases a
   | bl _ a=>cases a
   | int _ _ a=>cases a
   | str _ _ a=>cases a
  | lst p vs z e q i r t=>
   cases e
   exact absurd rfl (Xf t t1)
  | non e=>cases e
  | bl _ e=>cases e
  | int _ _ e=>cases e
  | str _ _ e=>cases e
 ·intro l b' G B e1 e2 t1 t2 j h1 T
  subst e1;subst e2
  cases a1 with
  | lst p vs z e q i r t=>
   cases e
   cases a2 with
   | lst p2 R E a q2 Y Z O=>
    cases a
    have z1:G=z.toArray:=by
     obtain ⟨o,K,g2,n1,M⟩:=t1
     obtain ⟨o',d,L,N,m⟩:=t
     rw [K] at d;cases d
     rw [M] at m
     injection m
    have z2:B=E.toArray:=by
     obtain ⟨o,K,g2,n1,M⟩:=t2
     obtain ⟨o',d,L,N,m⟩:=O
     rw [K] at d;cases d
     rw [M] at m
     injection m
    subst z1;subst z2
    have:=J r Z i Y h j (by simpa using h1) (by simpa using T)
    simpa [nA] using this
   | tup p2 R E a q2 Y Z O=>
    cases a
    exact absurd rfl (Xf t2 O)
   | non a=>cases a
   | bl _ a=>cases a
   | int _ _ a=>cases a
   | str _ _ a=>cases a
  | tup p vs z e q i r t=>
   cases e
   exact absurd rfl (Xf t1 t)
  | non e=>cases e
  | bl _ e=>cases e
  | int _ _ e=>cases e
  | str _ _ e=>cases e
theorem r9 (I:Inv X a5X σ H s)(R:Rp X.K π H μ):∀ (n:Nat){A:VU}{v c:V}{u a:Value}{x y:D}{b:Bool},A.units+n<WX->RelV v u->RelV c a->IsD X.K π μ.length H v x->IsD X.K π μ.length H c y->cD n μ x y=some b->EqAt A s u a b:=by
 intro n
 induction n with
 | zero=>intro A v c u a x y b _ _ _ _ _ h;cases h
 | succ n K=>
  intro A v c u a x y b J r o j m h
  have w:=h
  obtain ⟨k,B,h⟩:=Vj.mp h
  obtain ⟨M,E,h⟩:=Vj.mp h
  have d:=nB I R j r B
  have e:=nB I R m o E
  by_cases i:u=a
  ·subst i
   have:v=c:=r.inj o
   subst this
   have:=KI I R (n+1) r j m w
   subst this
   exact EqAt.same _
  ·have G:=BS I K J d e h
   rw [BR h]
   exact KH d.isK e.isK (by omega) G fun l L p q z=>i (by rw [p,q,z])
theorem BU (I:Inv X a5X σ H s)(R:Rp X.K π H μ)(n:Nat){A:VU}{v i:V}{u d:Value}{x y:D}{b:Bool}(m:A.units+n<WX)(r:RelV v u)(q:RelV i d)(o:IsD X.K π μ.length H v x)(p:IsD X.K π μ.length H i y)(h:cD n μ x y=some b) :
  RcAt A s u d b/\RcNeAt A s u d (!b):=by
 cases n with
 | zero=>cases h
 | succ n=>
  obtain ⟨k,j,h⟩:=Vj.mp h
  obtain ⟨w,l,h⟩:=Vj.mp h
  have a:=nB I R o r j
  have c:=nB I R p q l
  have e:=BS I (A:=A) (r9 I R n) m a c h
  rw [BR h]
  exact ⟨wM a.isK c.isK (by omega) e,KG a.isK c.isK (by omega) e⟩
end
end L3
namespace L3
open PySem L2
open SeqAt (EqAt RcAt RcNeAt)
section
variable {K:Vk}
noncomputable def kJ (g:Int->Int->Option Int):D->D->Hm->Option (D×Hm)
 | .int i,.int j,μ=>(g i j).map fun z=>(.int z,μ)
 | _,_,_=>none
theorem BV {g:Int->Int->Option Int}{x y d:D}{b a:Hm}(h:kJ g x y b=some (d,a)):∃ i j z,x=.int i/\y=.int j/\g i j=some z/\d=.int z/\a=b:=by
 unfold kJ at h
 split at h
 ·rename_i i j
  obtain ⟨z,c,e⟩:=Vn.mp h
  cases e
  exact ⟨i,j,z,rfl,rfl,c,rfl,rfl⟩
 ·cases h
theorem wQ {a:Int->Int->Prop}{g:Int->Int->Option Int}{g':Int->Int->Int}(e:∀ i j z,g i j=some z->a i j/\z=g' i j):cS K (kJ g) (rI a fun i j=>.int (g' i j)):=by
 intro o H r x y d n p q Q R l m h k
 obtain ⟨i,j,z,rfl,rfl,b,rfl,rfl⟩:=BV h
 cases l
 cases m
 obtain ⟨c,rfl⟩:=e i j z b
 exact ⟨i,j,rfl,rfl,c,k o _ H .refl R (.int _)⟩
theorem KJ {g':Int->Int->Int}:cS K (kJ fun i j=>some (g' i j)) (fW fun i j=>.int (g' i j)):=by
 intro l H o x y d h m n Q R c e b k
 obtain ⟨i,j,z,rfl,rfl,a,rfl,rfl⟩:=BV b
 cases c
 cases e
 cases a
 exact ⟨i,j,rfl,rfl,k l _ H .refl R (.int _)⟩
noncomputable def cP:=kJ fun i j=>some (i - j)
noncomputable def BW:=kJ fun i j=>if ((-(2 ^ 64)<i/\i<2 ^ 64)\/(-(2 ^ 64)<j/\j<2 ^ 64))\/(i.natAbs<2 ^ 4000/\j.natAbs<2 ^ 4000)\/V4 i+V4 j<=134217728 then some (i * j) else none
noncomputable def bH:D->D->Hm->Option (D×Hm)
 | .loc a,.int k,μ=>match μ[a]? with
  | some (.lst xs)=>if -(2 ^ 63)<=k/\k<2 ^ 63/\xs.length * k.toNat<=VA then some (.loc μ.length,μ++[.lst (VW k.toNat xs).flatten]) else none
  | _=>none
 | x,y,μ=>BW x y μ
noncomputable def dX:=kJ fun i j=>if 0<j/\j<2 ^ 4000 then some (i / j) else none
noncomputable def aW:=kJ fun i j=>if 0<j then some (i % j) else none
noncomputable def CMulB (i j:Int):Prop:=CMul i j\/(i.natAbs<2 ^ 4000/\j.natAbs<2 ^ 4000)\/V4 i+V4 j<=134217728
noncomputable def BX (i j:Int):Prop:=0<j/\j<2 ^ 4000
theorem BY {i:Int}(h:i.natAbs<2 ^ 4000):V4 i<=4000:=by
 unfold V4
 split
 ·exact Wn _
 ·rename_i b
  have a:i.natAbs≠0:=by
   intro z
   exact b (by simpa using z)
  have:=(a5C a).mpr h
  omega
theorem CMulB.ok {i j:Int}(h:CMulB i j):a4f i j:=by
 rcases h with h|⟨b,c⟩|h
 ·exact h.ok
 rotate_left
 ·have a:YN (V4 i+V4 j)=false:=by
   unfold YN
   rw [decide_eq_false]
   have:bitsLine=134217728:=by decide
   omega
  unfold a4f
  rw [a]
  simp
 ·have d:=BY b
  have e:=BY c
  have a:YN (V4 i+V4 j)=false:=by
   unfold YN
   rw [decide_eq_false]
   have:(8000:Int)<=bitsLine:=by decide
   omega
  unfold a4f
  rw [a]
  simp
section
variable {X:Cx}
theorem op_mulB:OpR X (YI .Mult) (rI CMulB fun i j=>.int (i * j)):=vQ fun _ _ _ _ _ _ _ hc q=>a5s q hc.ok
theorem KL:OpR X (YI .FloorDiv) (rI BX fun i j=>.int (i / j)):=vQ fun i j _ _ _ _ _ hc q=>by
 have c:(0:Int)<j:=hc.1
 have d:j<2 ^ 4000:=hc.2
 have a:j.natAbs≠0:=by omega
 have b:j.natAbs<2 ^ 4000:=by
  have:((2 ^ 4000:Nat):Int)=2 ^ 4000:=by decide
  omega
 have e:=(a5C a).mpr b
 exact a5u (by omega) (by rw [Int.fdiv_eq_ediv_of_nonneg i (by omega)];exact q) (.inl (PyProof.noPylong_of_log2 (by omega)))
end
theorem wR {c:Prop} [Decidable c] {a z:Int}(h:(if c then some a else none)=some z):c/\z=a:=by
 split at h
 ·cases h;exact ⟨by assumption,rfl⟩
 ·cases h
theorem KN:cS K cP (fW fun i j=>.int (i - j)):=KJ
theorem KO:cS K BW (rI CMulB fun i j=>.int (i * j)):=wQ fun i j z h=>by
 have:=wR h
 exact this
theorem BZ {π:Nat->Addr}{n:Nat}{H:Hp}{vs:List V}{ds:List D}(h:IsDs K π n H vs ds):∀ k:Nat,IsDs K π n H (VW k vs).flatten (VW k ds).flatten
 | 0=>.nil
 | k+1=>by
  rw [Xu,Xu,Yl,Yl]
  exact h.append (BZ h k)
theorem KP:cS K bH (fun x y H Q=>rI CMulB (fun i j=>.int (i * j)) x y H Q\/Bv x y H Q):=by
 intro B H A x y d h w z Q R m n b k
 unfold bH at b
 split at b
 ·rename_i a e
  split at b
  ·rename_i q v
   split at b
   ·rename_i c
    cases b
    cases m
    cases n
    obtain ⟨o,s,l⟩:=R.lst a q v
    refine .inr ⟨_,e,o,rfl,rfl,s,c.1,c.2.1,by rw [l.length];exact c.2.2,fun p u=>?_⟩
    obtain ⟨r,R2,_⟩:=R.alloc (c:=.lst (VW e.toNat q).flatten) (o:=.lst (VW e.toNat o).flatten) u (BZ l _)
    exact k _ _ _ r R2 fL
   ·cases b
  ·cases b
 ·exact .inl (KO B H A _ _ d h w z Q R m n b k)
theorem KQ:cS K dX (rI BX fun i j=>.int (i / j)):=wQ fun i j z h=>by
 have:=wR h
 exact this
theorem KR:cS K aW (rI (fun _ j=>0<j) fun i j=>.int (i % j)):=wQ fun _ _ _ h=>wR h
noncomputable def wU:D->Option D
 | .int i=>some (.int (-i))
 | _=>none
noncomputable def bJ:D->D->Hm->Option (D×Hm)
 | .int i,.int j,μ=>some (.int (i+j),μ)
 | .str x,.str y,μ=>if x.length+y.length<=VA then some (.str (x++y),μ) else none
 | .loc a,.loc b,μ=>match μ[a]?,μ[b]? with
  | some (.lst xs),some (.lst ys)=>if xs.length+ys.length<=VA then some (.loc μ.length,μ++[.lst (xs++ys)]) else none
  | _,_=>none
 | _,_,_=>none
noncomputable def wV (K:Vk):R2:=fun x y H Q=>fW (fun i j=>.int (i+j)) x y H Q\/(∃ i j,x=.str i/\y=.str j/\i.length+j.length<=VA/\Q (.str (i++j)) H)\/Bu x y H Q
theorem KS {X:Cx}:OpR X (YI .Add) (wV X.K):=op_add.or (op_add_str.or JI)
noncomputable abbrev wW (K:Vk):R2:=wV K
theorem KU {X:Cx}:OpR X (YI .Add) (wW X.K):=KS
theorem wX {K:Vk}{x y:V}{H:Hp}{Q:VK}(h:wV K x y H Q):wW K x y H Q:=h
theorem KW:cS K bJ (wW K):=by
 intro r H G x y d A B E Q R c e a k
 unfold bJ at a
 split at a
 ·cases a
  cases c
  cases e
  exact wX (.inl ⟨_,_,rfl,rfl,k r _ H .refl R (.int _)⟩)
 ·split at a
  ·rename_i b
   cases a
   cases c
   cases e
   exact wX (.inr (.inl ⟨_,_,rfl,rfl,b,k r _ H .refl R (.str _)⟩))
  ·cases a
 ·split at a
  ·rename_i n o v w
   split at a
   ·rename_i b
    cases a
    cases c
    cases e
    obtain ⟨l,h,i⟩:=R.lst _ n v
    obtain ⟨m,u,j⟩:=R.lst _ o w
    refine wX (.inr (.inr ⟨_,_,l,m,rfl,rfl,by first|exact h|exact .inl (.inl h),u,by rw [i.length,j.length];exact b,fun p z=>?_⟩))
    obtain ⟨s,R2,q⟩:=R.alloc (c:=.lst (n++o)) (o:=.lst (l++m)) z (i.append j)
    exact k _ _ _ s R2 fL
   ·cases a
  ·cases a
 ·cases a
noncomputable def fM (p:Int->Int->Bool):D->D->Hm->Option (D×Hm)
 | .int i,.int j,μ=>some (.bl (p i j),μ)
 | _,_,_=>none
theorem gZ {p:Int->Int->Bool}:cS K (fM p) (fW fun i j=>.bl (p i j)):=by
 intro h H n x y d e l m Q R b c a k
 unfold fM at a
 split at a
 ·cases a
  cases b
  cases c
  exact ⟨_,_,rfl,rfl,k h _ H .refl R (.bl _)⟩
 ·cases a
noncomputable def iH:=fM fun i j=>decide (i<j)
noncomputable def wY:=fM fun i j=>decide (i<=j)
noncomputable def lR:=fM fun i j=>decide (j<i)
noncomputable def pV:=fM fun i j=>decide (j<=i)
noncomputable def wZ (K:Vk)(ne:Bool):R2:=fun x y H Q=>∃ π a c d b,Rp K π H a/\IsD K π a.length H x c/\IsD K π a.length H y d/\cD 8 a c d=some b/\Q (.bl (if ne then !b else b)) H
theorem B0 {X:Cx}(c:X.A.units+8<WX):OpR X (Wt .Eq) (wZ X.K false):=by
 intro a s r H x y v u Q I j l h
 obtain ⟨p,o,m,n,b,R,d,i,e,q⟩:=h
 exact (BU I R 8 c j l d i e).1 _ _ _ _ ⟨.bl b,H,I,rfl,q⟩
theorem B1 {X:Cx}(c:X.A.units+8<WX):OpR X (Wt .NotEq) (wZ X.K true):=by
 intro a s r H x y v u Q I j l h
 obtain ⟨p,o,m,n,b,R,d,i,e,q⟩:=h
 exact (BU I R 8 c j l d i e).2 _ _ _ _ ⟨.bl (!b),H,I,rfl,q⟩
noncomputable def aT (ne:Bool):D->D->Hm->Option (D×Hm):=fun x y a=>(cD 8 a x y).map fun b=>(.bl (if ne then !b else b),a)
theorem sA {ne:Bool}:cS K (aT ne) (wZ K ne):=by
 intro a H l x y d m n o Q R i j h k
 obtain ⟨b,c,e⟩:=Vn.mp h
 cases e
 exact ⟨a,l,x,y,b,R,i,j,c,k a _ H .refl R (.bl _)⟩
noncomputable def w4:D->D->Hm->Option (D×Hm)
 | .str i,.str j,μ=>some (.bl (!(WW j i 0 j.length 1).isEmpty),μ)
 | _,_,_=>none
theorem B2:cS K w4 (fun x y H Q=>∃ i j,x=.str i/\y=.str j/\Q (.bl (!(WW j i 0 j.length 1).isEmpty)) H):=by
 intro h H n x y d e l m Q R b c a k
 unfold w4 at a
 split at a
 ·cases a
  cases b
  cases c
  exact ⟨_,_,rfl,rfl,k h _ H .refl R (.bl _)⟩
 ·cases a
end
section
variable {X:Cx}{a b c:Expr}{ma mb mc:ME}{pos:W4}
theorem sC {k:Nat}{A:VU}(r:Room k A):A.units+8<WX:=by have:=r.un;omega
theorem iY (u:PE X a (tM X.K ma)):PE X (.UnaryOp .USub a pos) (tM X.K (fun l h=>(ma l h).bind fun p=>(wU p.1).map fun d=>(d,p.2))):=cW (IB IE u) (by
 rintro G H Q ⟨A,l,h,d,w,R,E,e,k⟩
 obtain ⟨⟨x,z⟩,r,e⟩:=Vj.mp e
 obtain ⟨y,m,s⟩:=Vn.mp e
 cases s
 cases x with
 | int i=>
  cases m
  refine ⟨A,l,h,_,_,R,E,r,fun j B n q o v=>?_⟩
  cases v
  exact ⟨_,rfl,k j _ n q o (.int _)⟩
 | _=>cases m)
theorem KY {x:Str}{n:String}(d:Gl X x)(e:X.mg x=none)(i:W3 x=some (.type n))(h:x ≠ "__name__":=by decide) (hd:(x == ("__debug__":Str))=false:=by decide):PE X (.Name x pos) (tM X.K (mC (.ty n))):=
 m7 (Ht (v:=.ty n) d e i rfl h hd) fun _ _ _=>.ty n
end
noncomputable def sD (b:Hm):D->Option String
 | .non=>some "NoneType"
 | .bl _=>some "bool"
 | .int _=>some "int"
 | .str _=>some "str"
 | .tup _=>some "tuple"
 | .rol _=>some "list"
 | .loc a=>match b[a]? with
  | some (.lst _)=>some "list"
  | some (.dK _)=>some "dict"
  | some (.dT _)=>some "dict"
  | _=>none
 | .ty _=>none
noncomputable def sE (t c:String):Option Bool:=match c with
 | "int"=>some (t == "int" || t == "bool")
 | "bool"=>some (t == "bool")
 | "str"=>some (t == "str")
 | "list"=>some (t == "list")
 | "tuple"=>some (t == "tuple")
 | "dict"=>some (t == "dict")
 | _=>none
noncomputable def eY:MF:=fun ds a=>match ds with
 | [x,.ty c]=>(sD a x).bind fun t=>(sE t c).map fun b=>(.bl b,a)
 | _=>none
theorem jM (K:Vk){t c:String}{b:Bool}(d:t = "NoneType"\/t = "bool"\/t = "int"\/t = "str"\/t = "tuple"\/t = "list"\/t = "dict") (h:sE t c=some b):a1n K (.type t) (.type c)=some b:=by
 unfold sE at h
 split at h<;>first
  | cases h;done
  | (have a:=VX h;subst a
     rcases d with rfl|rfl|rfl|rfl|rfl|rfl|rfl<;>first|rfl|decide +kernel|(unfold a1n;simp;rfl))
end L3
namespace L3
open PySem L2
noncomputable abbrev MG:=D->aH->Hm->Option aH
noncomputable def f6 (K:Vk)(g:MG):TG:=fun v σ H Q=>∃ π e a d b,Rp K π H a/\En K π a.length H σ e/\IsD K π a.length H v d/\g d e a=some b/\∀ c,En K π a.length H c b->Q c H
noncomputable def dF (i:Nat):MG:=fun d a _=>some (a.set i (some d))
section
variable {X:Cx}{pos:W4}
theorem B3 {i:Nat}{x:Str}(b:X.N.Nodup)(e:X.N[i]? = some x)(l:Loc X.env.scope x)(c:X.fn x=true\/X.env.scope.names.lookup x=some .local:=by first|exact .inl rfl|exact .inr rfl|assumption):PG X (.Name x pos) (f6 X.K (dF i)):=by
 intro a s n H v u Q I r h
 obtain ⟨p,q,o,d,m,R,E,hd,j,k⟩:=h
 cases j
 exact AQ b e l c a s n H v u Q I r (k _ (E.set hd i))
noncomputable def KZ (K:Vk)(c:TE):TI:=fun σ H R=>c σ H fun x b=>∃ a,x=.ref a/\(((∃ xs,SqL K b a xs)/\R (vK K a) b)\/((∃ xs,SqT K b a xs)/\R (vL K a) b))
theorem K0 {l tg:Expr}{u:TE}(w:PE X l u):PI X tg l (KZ X.K u):=by
 intro j s G H R I h
 refine aP (w j s G H _ I h) fun v c ⟨x,r,d,A,z⟩=>?_
 obtain ⟨a,e,q⟩:=z
 subst e
 cases A
 rcases q with ⟨⟨E,n⟩,q⟩|⟨⟨E,n⟩,q⟩
 ·obtain ⟨i,B,p,y⟩:=d.list n
  refine Yz p.isList ?_
  refine ⟨c.heap.objs.size,[c.heap.objs.size],_,_,r,rfl,d.kept (t':=c.toks) fun b o e=>Vo _ e,Ik a _,⟨_,VC _ rfl,rfl,rfl⟩,fun b m=>?_,q⟩
  have e:b=c.heap.objs.size:=by simpa using m
  subst e
  exact d.fpOk (Vv _) (d.hok.fresh (Vv _))
 ·obtain ⟨i,B,p,y⟩:=d.tuple n
  refine YX (show c.heap.IsTuple a i.toArray from p) ?_
  refine ⟨c.heap.objs.size,[c.heap.objs.size],_,_,r,rfl,d.kept (t':=c.toks) fun b o e=>Vo _ e,Il a _,⟨_,VC _ rfl,rfl,rfl⟩,fun b m=>?_,q⟩
  have e:b=c.heap.objs.size:=by simpa using m
  subst e
  exact d.fpOk (Vv _) (d.hok.fresh (Vv _))
end
structure Wk (K:Vk)(J:It)(src:Hm->Nat->Option (Option D))(π:Nat->Addr)(n:Nat)(H:Hp):Prop where
 stop:∀ π' μ H' i,Ext π n H π' μ.length H'->Rp K π' H' μ->src μ i=some none->J.stop i H'
 go:∀ π' μ H' i d,Ext π n H π' μ.length H'->Rp K π' H' μ->src μ i=some (some d)->J.go i H'/\∀ x H2,J.yld i H' x H2->Ext π' μ.length H' π' μ.length H2/\Rp K π' H2 μ/\IsD K π' μ.length H2 x d
noncomputable def jN (x:D):Hm->Nat->Option (Option D):=fun a i=>(bF a x).map fun xs=>xs[i]?
theorem K1 {K:Vk}{π:Nat->Addr}{E:Hm}{H:Hp}{v:V}{x:D}{xs:List D}(R:Rp K π H E)(h:IsD K π E.length H v x)(G:bF E x=some xs) :
  ∃ a,v=.ref a/\(((∃ b,SqL K H a b)/\Wk K (vK K a) (jN x) π E.length H)\/((∃ b,SqT K H a b)/\Wk K (vL K a) (jN x) π E.length H)):=by
 cases h with
 | @tup p b ds q t=>
  refine ⟨p,rfl,.inr ⟨⟨b,q⟩,⟨fun m l s i e n z=>?_,fun m l s i d e n z=>?_⟩⟩⟩
  ·simp only [jN,bF,VT] at z
   have j:ds[i]? = none:=VX z
   exact ⟨b,e.sqT q,by rw [t.length];exact WC.mp j⟩
  ·simp only [jN,bF,VT] at z
   have j:ds[i]? = some d:=VX z
   obtain ⟨w,c,o⟩:=t.get j
   refine ⟨⟨b,w,e.sqT q,c⟩,fun y L ⟨u,A⟩=>?_⟩
   subst u
   have:=A b (e.sqT q)
   rw [c] at this
   cases this
   exact ⟨.refl,n,o.mono e⟩
 | @rol p b ds q t=>
  refine ⟨p,rfl,.inl ⟨⟨b,q.sq⟩,⟨fun m l s i e n z=>?_,fun m l s i d e n z=>?_⟩⟩⟩
  ·simp only [jN,bF,VT] at z
   have j:ds[i]? = none:=VX z
   exact ⟨b,(e.roL q).sq,by rw [t.length];exact WC.mp j⟩
  ·simp only [jN,bF,VT] at z
   have j:ds[i]? = some d:=VX z
   obtain ⟨w,c,o⟩:=t.get j
   refine ⟨⟨b,w,(e.roL q).sq,c⟩,fun y L ⟨u,A⟩=>?_⟩
   subst u
   have:=A b (e.roL q).sq
   rw [c] at this
   cases this
   exact ⟨.refl,n,o.mono e⟩
 | @loc a N=>
  have hc:∃ b,H (π a)=some (.lst b):=by
   simp only [bF] at G
   split at G
   ·rename_i r B
    obtain ⟨b,c,_⟩:=R.lst a r B
    exact ⟨b,c⟩
   ·cases G
  obtain ⟨J,I⟩:=hc
  refine ⟨π a,rfl,.inl ⟨⟨J,.of I⟩,⟨fun m l s i e n z=>?_,fun m l s i d e n z=>?_⟩⟩⟩
  ·simp only [jN,bF] at z
   split at z
   ·rename_i r B
    obtain ⟨b,c,o⟩:=n.lst a r B
    rw [e.pi a N] at c
    have j:r[i]? = none:=VX z
    exact ⟨b,.of c,by rw [o.length];exact WC.mp j⟩
   ·cases z
  ·simp only [jN,bF] at z
   split at z
   ·rename_i r B
    obtain ⟨b,c,o⟩:=n.lst a r B
    rw [e.pi a N] at c
    have j:r[i]? = some d:=VX z
    obtain ⟨w,M,O⟩:=o.get j
    refine ⟨⟨b,w,.of c,M⟩,fun y L ⟨u,A⟩=>?_⟩
    subst u
    have:=A b (.of c)
    rw [M] at this
    cases this
    exact ⟨.refl,n,O⟩
   ·cases z
 | _=>cases G
noncomputable def eZ (a:Hm->Nat->Option (Option D))(g:MG)(b:MS):Nat->Nat->MS
 | 0,_,_,_=>none
 | n+1,i,ρ,μ=>(a μ i).bind fun o=>match o with
  | none=>some (.nx,ρ,μ)
  | some d=>(g d ρ μ).bind fun c=>(b c μ).bind fun p=>match p.1 with
   | .nx=>eZ a g b n (i+1) p.2.1 p.2.2
   | .ct=>eZ a g b n (i+1) p.2.1 p.2.2
   | .bk=>some (.nx,p.2.1,p.2.2)
   | .rt d=>some (.rt d,p.2.1,p.2.2)
theorem K2 {K:Vk}{J:It}{B:Hm->Nat->Option (Option D)}{g:MG}{b:MS}{π:Nat->Addr}{Q:Nat}{O:Hp}(W:Wk K J B π Q O){E:Ends}{A:Fl}{p:aH}{j:Hm}(hE:lP K E π Q O A p j)
  {G:Nat->Addr}{u:Hm}{H1:Hp}{T:aH}{σ1:St}{n:Nat}(e1:Ext π Q O G u.length H1)(R1:Rp K G H1 u)(E1:En K G u.length H1 σ1 T)(h:eZ B g b n 0 T u=some (A,p,j)) :
  ∃ Wd:Nat->Nat->St->Hp->Prop,(∃ m,Wd 0 m σ1 H1)/\∀ i m X H,Wd i m X H->
   (J.stop i H/\E.nx X H)\/(J.go i H/\∃ N:St->Hp->Prop,(∀ w s,N w s->∃ m',m'<m/\Wd (i+1) m' w s)/\∀ x s,J.yld i H x s->f6 K g x X s fun σ2 H2=>dN K b { E with nx:=N,ct:=N,bk:=E.nx } σ2 H2):=by
 have lift:∀ {a:Nat->Addr}{n2:Nat}{H2:Hp}(e:Ext π Q O a n2 H2){A:Fl}{p:aH}{j:Hm},lP K E π Q O A p j->lP K E a n2 H2 A p j:=fun {a n2 H2} e {A p j} k=>by
  cases A with
  | nx=>exact fun v r H3 e3 R3 M=>k v r H3 (e.trans e3) R3 M
  | bk=>exact fun v r H3 e3 R3 M=>k v r H3 (e.trans e3) R3 M
  | ct=>exact fun v r H3 e3 R3 M=>k v r H3 (e.trans e3) R3 M
  | rt d=>exact KC.after k e
 refine ⟨fun i m X H=>∃ a l I,Ext π Q O a l.length H/\Rp K a H l/\En K a l.length H X I/\eZ B g b m i I l=some (A,p,j),⟨n,G,u,T,e1,R1,E1,h⟩,?_⟩
 rintro i m X H ⟨a,l,I,z,R2,E2,h2⟩
 cases m with
 | zero=>cases h2
 | succ m=>
  obtain ⟨o,h3,h4⟩:=Vj.mp h2
  cases o with
  | none=>
   cases h4
   exact .inl ⟨W.stop a _ H i z R2 h3,hE a X H z R2 E2⟩
  | some d=>
   obtain ⟨g1,g2⟩:=W.go a l H i d z R2 h3
   obtain ⟨ρ3,h5,h6⟩:=Vj.mp h4
   obtain ⟨⟨f4,U,R⟩,h7,h8⟩:=Vj.mp h6
   refine .inr ⟨g1,fun w s=>∃ c L q,Ext π Q O c q.length s/\Rp K c s q/\En K c q.length s w L/\eZ B g b m (i+1) L q=some (A,p,j),
    fun w s ⟨c,L,q,a1,a2,a3,a4⟩=>⟨m,YD _,c,q,L,a1,a2,a3,a4⟩,fun x s y=>?_⟩
   obtain ⟨ex,Rx,hx⟩:=g2 x s y
   have z:=z.trans ex
   refine ⟨a,I,l,d,ρ3,Rx,E2.mono ex,hx,h5,fun r M=>⟨a,ρ3,l,f4,U,R,Rx,M,h7,?_⟩⟩
   cases f4 with
   | nx=>exact fun c Y H5 e5 R5 Z=>⟨c,U,R,z.trans e5,R5,Z,h8⟩
   | ct=>exact fun c Y H5 e5 R5 Z=>⟨c,U,R,z.trans e5,R5,Z,h8⟩
   | bk=>
    cases h8
    exact fun c Y H5 e5 R5 Z=>hE c Y H5 (z.trans e5) R5 Z
   | rt d'=>
    cases h8
    exact KC.after hE z
section
variable {X:Cx}{pos:W4}{tg iter:Expr}{body:List Stmt}{mi:ME}{g:MG}{mb:MS}
noncomputable def f7 (lo:Int)(n:Nat):Hm->Nat->Option (Option D):=fun _ i=>some (if i<n then some (.int (lo+i)) else none)
theorem B4 {K:Vk}{lo:Int}{k:Nat}{π:Nat->Addr}{n:Nat}{H:Hp}:Wk K (pN lo k) (f7 lo k) π n H:=by
 refine ⟨fun b m c i e R z=>?_,fun b m c i d e R z=>?_⟩
 ·have a:=VX z
  split at a
  ·cases a
  ·exact Yx.mp (by assumption)
 ·have a:=VX z
  split at a
  ·cases a
   rename_i h
   exact ⟨h,fun x o ⟨j,l⟩=>by subst j;rw [l];exact ⟨.refl,R,.int _⟩⟩
  ·cases a
end
end L3
namespace L3
open PySem L2
noncomputable def nC (y:Str):Str:="#"++y
noncomputable def bM (xs N:List Str):List Str:=N.map fun y=>if xs.contains y then nC y else y
theorem lS (xs N:List Str):(bM xs N).length=N.length:=by unfold bM;simp
theorem K3 {xs N:List Str}{i:Nat}{y:Str}(h:(bM xs N)[i]? = some y):∃ a,N[i]? = some a/\((xs.contains a=true/\y=nC a)\/(xs.contains a=false/\y=a)):=by
 unfold bM at h
 rw [V0] at h
 obtain ⟨a,c,b⟩:=Vn.mp h
 refine ⟨a,c,?_⟩
 cases hc:xs.contains a with
 | true=>rw [hc] at b;exact .inl ⟨rfl,by simpa using b.symm⟩
 | false=>rw [hc] at b;exact .inr ⟨rfl,by simpa using b.symm⟩
noncomputable def c7 (X:Cx)(scope:X1)(a:List (Str×Addr))(C:Addr)(N:List Str)(s₀:Vp)(H₀:Hp)(b:List Addr):Cx:=
 { X with N:=N,s₀:=s₀,H₀:=H₀,env:=Y9 scope a C X.env,outer:=X.stack,stack:=X.stack,ex:=b,fn:=fun _=>false,pn:=[],xe:=fun _ _=>False }
theorem B5 {env:Z7}:∀ (names:List (Str×XX))(x:Str),(names.map fun (n,k)=>if (k == Xr&&env.scope.kind == .function&&env.kindOf n == some .cell) then (n,XE) else (n,k)).lookup x
  = (names.lookup x).map fun k=>if (k == Xr&&env.scope.kind == .function&&env.kindOf x == some .cell) then XE else k
 | [],_=>rfl
 | (n,k)::r,x=>by
  have d:=B5 (env:=env) r x
  rw [VE]
  by_cases c:x=n
  ·subst c
   have a:∀ (k':XX)(l:List (Str×XX)),Zh x ((x,k')::l)=some k':=fun k' l=>by simp [Y6]
   rw [a]
   show Zh x ((if (k == Xr&&env.scope.kind == .function&&env.kindOf x == some .cell)=true then (x,XE) else (x,k))::_)=some (if (k == Xr&&env.scope.kind == .function&&env.kindOf x == some .cell)=true then XE else k)
   split
   ·rw [a]
   ·rw [a]
  ·have b:(x == n)=false:=by simpa using c
   have a:∀ (k':XX)(l:List (Str×XX)),Zh x ((n,k')::l)=Zh x l:=fun k' l=>by simp only [Y6,b]
   rw [a]
   show Zh x ((if (k == Xr&&env.scope.kind == .function&&env.kindOf n == some .cell)=true then (n,XE) else (n,k))::_)=_
   split
   ·rw [a]
    exact d
   ·rw [a]
    exact d
structure CompOk (X:Cx)(scope:X1)(cl:List (Str×Addr))(xs:List Str):Prop where
 clos:a4x scope X.env=pure cl
 nocell:∀ y∈scope.names,y.2≠.cell
 kind:scope.kind=.function
 names:∀ y∈scope.names,y.2=.local->scope.names.lookup y.1=some .local
 here:∀ x∈xs,scope.names.lookup x=some .local
 sub:∀ y c,cl.lookup y=some c->X.env.cells.lookup y=some c
 free:∀ y,scope.names.lookup y=some .free->(X.env.kindOf y=some .cell\/X.env.kindOf y=some .free)/\∃ c,cl.lookup y=some c
 own:∀ y,scope.names.lookup y=some .local->y∉bM xs X.N
 hidn:∀ y∈X.N,xs.contains y=true->scope.names.lookup (nC y)=none
section
variable {X:Cx}{scope:X1}{cl:List (Str×Addr)}{xs:List Str}
theorem CompOk.kindOf (O:CompOk X scope cl xs)(C:Addr)(y:Str):(Y9 scope cl C X.env).kindOf y=(scope.names.lookup y).map fun k=>if (k == Xr&&X.env.scope.kind == .function&&X.env.kindOf y == some .cell) then XE else k:=
 B5 scope.names y
theorem CompOk.outer (O:CompOk X scope cl xs){C:Addr}{y:Str}(h:(Y9 scope cl C X.env).kindOf y=some .cell\/(Y9 scope cl C X.env).kindOf y=some .free):scope.names.lookup y=some .free:=by
 rw [O.kindOf] at h
 cases q:scope.names.lookup y with
 | none=>rw [q] at h;rcases h with h|h<;>cases h
 | some k=>
  rw [q] at h
  cases k with
  | free=>rfl
  | cell=>exact absurd rfl (O.nocell _ (WG q))
  | «local»=>rcases h with h|h<;>simp at h
  | globalExplicit=>rcases h with h|h<;>simp at h
  | globalImplicit=>rcases h with h|h<;>simp at h
theorem CompOk.inv {a5X:List (Addr×WY)}{σ:St}{H:Hp}{s:Vp}{Z:List Addr}{d:Wj}{tk:Nat}(O:CompOk X scope cl xs)(I:Inv X a5X σ H s)(E:∀ b∈Z,fH X a5X H b)(hob:∀ b∈Z,∃ o,s.heap.get? b=some o){m:Str->Option Value}
  (hns:d.Ns s.heap.objs.size m)(N:∀ b o,s.heap.get? b=some o->d.get? b=some o) :
  Inv (c7 X scope cl s.heap.objs.size (bM xs X.N++xs) s H Z) [] (σ++VW xs.length none) H { s with heap:=d,toks:=tk }:=by
 refine ⟨⟨I.ok.mod,O.kind,I.ok.glob,I.ok.blt,Vv _,fun y z c h1 B=>?_,fun y hy=>?_,(fun y c h=>by cases h),I.ok.hd,I.ok.frames,.inl rfl,fun b J=>?_,fun b o e=>I.bs b o e,Wu I.ok.bsz I.sz,fun b o e J=>?_,fun b J hb2=>?_,I.stack,I.stkFree⟩,
  rfl,I.bare,Un.kept N,⟨m,hns,fun i y v h1 B x=>?_⟩,fun y c h=>?_,I.hok.fresh (Vv _),fun y c h=>I.freeC y c (O.sub y c h),fun p hp=>absurd (show p∈([]:List (Addr×WY)) from hp) (by simp),I.hok.kept N,?_⟩
 ·exact I.ok.inj y z c (O.sub y c h1) (O.sub z c B)
 ·exact (O.free y (O.outer hy)).2
 ·obtain ⟨f0,T,U,A,Y,f5⟩:=E b J
  obtain ⟨o,M⟩:=hob b J
  exact ⟨VB (Vu M),fun y c h=>Y y c (O.sub y c h)⟩
 ·obtain ⟨f0,T,U,A,Y,f5⟩:=E b J
  rcases A with A|A
  ·exact I.ok.noex b o e A
  ·exact absurd (VL (Vu (I.ok.bs b o e).1) A) (Xz _)
 ·obtain ⟨f0,T,U,A,Y,f5⟩:=E b J
  rcases VP.mp (I.stkSub b hb2) with z|z
  ·exact T z
  ·exact U z
 ·have L:i<σ.length:=by
   by_cases L:i<σ.length
   ·exact L
   ·rw [Xh (Yx.mp L),XZ] at B
    split at B<;>cases B
  rw [We L] at B
  have K:(bM xs X.N)[i]? = some y:=by
   have w:(bM xs X.N++xs)[i]? = some y:=h1
   rw [We (by rw [lS,<- I.len];exact L)] at w
   exact w
  have n:scope.names.lookup y≠some .local:=fun z=>O.own y z (V8 K)
  have G:=O.kindOf s.heap.objs.size y
  have h1':X.N[i]? = some y:=by
   obtain ⟨y0,q1,R⟩:=K3 K
   rcases R with ⟨R,q3⟩|⟨R,q3⟩
   ·exfalso
    have hz:=O.hidn y0 (V8 q1) R
    rw [<- q3] at hz
    rw [hz] at G
    have a:(Y9 scope cl s.heap.objs.size X.env).kindOf y=some .local\/(Y9 scope cl s.heap.objs.size X.env).kindOf y=some .cell\/(Y9 scope cl s.heap.objs.size X.env).kindOf y=some .free:=x
    rw [G] at a
    rcases a with a|a|a<;>cases a
   ·rw [q3];exact q1
  have a:(Y9 scope cl s.heap.objs.size X.env).kindOf y=some .cell\/(Y9 scope cl s.heap.objs.size X.env).kindOf y=some .free:=by
   rcases x with x|x|x
   ·exfalso
    have a:(Y9 scope cl s.heap.objs.size X.env).kindOf y=some .local:=x
    rw [G] at a
    cases q:scope.names.lookup y with
    | none=>rw [q] at a;cases a
    | some k=>
     rw [q] at a
     cases k with
     | «local»=>exact n q
     | cell=>simp at a
     | free=>
      simp only [VT] at a
      split at a<;>cases a
     | globalExplicit=>simp at a
     | globalImplicit=>simp at a
   ·exact .inl x
   ·exact .inr x
  obtain ⟨j,c,hc⟩:=O.free y (O.outer a)
  obtain ⟨m0,hn0,hl0⟩:=I.loc
  obtain ⟨u,r,l⟩:=hl0 i y v h1' B (by rcases j with j|j;exact .inr (.inl j);exact .inr (.inr j))
  refine ⟨u,r,.inr ⟨a,c,hc,?_⟩⟩
  rcases l with ⟨Q,_⟩|⟨_,c',e',z⟩
  ·exfalso
   rcases j with j|j
   ·rw [j] at Q;cases Q
   ·rw [j] at Q;cases Q
  ·rw [O.sub y c hc] at e'
   cases e'
   obtain ⟨o,M,hd⟩:=z
   exact ⟨o,N c o M,hd⟩
 ·obtain ⟨v,q⟩:=I.cell y c (O.sub y c h)
  exact ⟨v,by obtain ⟨o,M,hd⟩:=q;exact ⟨o,N c o M,hd⟩⟩
 ·show (σ++VW xs.length none).length=(bM xs X.N++xs).length
  rw [VR,VR,I.len,XD,lS]
theorem CompOk.back {a5X pl:List (Addr×WY)}{σ B:St}{H H':Hp}{s s1:Vp}{i:List Addr}{h':Wj}{N:List Str}(I:Inv X a5X σ H s)(p:∀ b∈i,fH X a5X H b)
  (J:Inv (c7 X scope cl s.heap.objs.size N s H i) pl B H' s1)(m:∀ b o,b≠s.heap.objs.size->s1.heap.get? b=some o->h'.get? b=some o):Inv X a5X σ H' { s1 with heap:=h' }:=by
 have u:Un (dJ X.stack) i H H' s.heap h':=by
  have h:Un (dJ X.stack) i H H' s.heap s1.heap:=J.base
  have ne:∀ b o,s.heap.get? b=some o->b≠s.heap.objs.size:=fun b o e=>VB (Vu e)
  refine ⟨fun b o e n j l=>m b o (ne b o e) (h.keep b o e n j l),fun b o e n j l=>?_,h.free,fun b o e l=>?_,h.tups,h.frzs,h.tbls⟩
  ·obtain ⟨O,q⟩:=h.slot b o e n j l
   exact ⟨O,m b _ (ne b o e) q⟩
  ·obtain ⟨M,q⟩:=h.there b o e l
   exact ⟨M,m b _ (ne b o e) q⟩
 have a:H' s.heap.objs.size=none:=J.free
 have hok:HOk X.prog X.w H' h':=fun b v e=>by
  refine (J.hok b v e).stay (fun c w hc q=>m c w ?_ q) (fun _ q=>q) fun _ _ q=>q
  rcases hc with z|z
  ·rw [z]
   intro A
   rw [A,a] at e
   cases e
  ·intro A
   rw [A,a] at z
   cases z
 have x:s1.os=s.os:=J.os
 obtain ⟨T,g,d,t,y⟩:=s1
 obtain rfl:y=s.os:=x
 have r:=Inv.call (X:=X) (a5X:=a5X) (σ:=σ) (H:=H) (s:=s) (h':=h') (g':=g) (d':=d) (t':=t) (ch:=i) I u hok J.bare fun b j=>let ⟨Q,E,R,G,K,L⟩:=p b j;⟨G,E,K,L⟩
 exact r
end
theorem K5 {prog:VQ}{w:V6}{A:VU}{R:a2E->Vp->Prop}{s:Vp}{elt a iter:Expr}{ifs:List Expr}{scope:X1}{pos:W4}{G u:Value}{env:Z7}(I:Nat->Vp->Prop)
  (turn:∀ n s,I n s->VD (VM prog w) A (ZA G) (fun r d=>match r with
   | none=>R (.ok .next) d
   | some v=>VD (VM prog w) A (a0u a G v) (fun _ e=>VD (VM prog w) A (a1m a env v) (fun _ o=>
     VD (VM prog w) A (forIn ifs true fun c r=>if r=true then do let ok <- a3t c env (eval c env);pure (YB ok) else pure (YB r)) (fun ok i=>
      if ok=true then VD (VM prog w) A (eval elt env) (fun x p=>
       VD (VM prog w) A (call (.builtin "list.append") [u,x]) (fun _ q=>∃ m,m<n/\I m q) (fun _ _=>False) p) (fun _ _=>False) i
      else ∃ m,m<n/\I m i) (fun _ _=>False) o) (fun _ _=>False) e) (fun _ _=>False) d) (fun _ _=>False) s)
  (n:Nat)(h:I n s) :
  ZM (VM prog w) A (.compLoop (.ListComp elt [⟨a,iter,ifs,0⟩] scope pos) 0 G u env) R s:=by
 refine codeAny_loop rfl I (fun n s H=>?_) n h
 show VD _ A ((compTurn (.ListComp elt [⟨a,iter,ifs,0⟩] scope pos) 0 G u env).onRaise (fun x=>do a1U x env;theTreesLotGoes x)) _ _ s
 refine wpAny_noted ?_
 rw [compTurn_list]
 refine Vl (Z9 (Vl (Wa (turn n s H) (fun r d j=>?_) fun _ _ b=>b.elim)))
 cases r with
 | none=>exact Vr j
 | some v=>
  refine Vl (Wa j (fun _ e y=>?_) fun _ _ b=>b.elim)
  refine Vl (Wa y (fun _ o z=>Vl (Wa z (fun ok i l=>?_) fun _ _ b=>b.elim)) fun _ _ b=>b.elim)
  cases ok with
  | false=>exact Vr ⟨rfl,l⟩
  | true=>
   exact Vl (Vl (Wa l (fun x p B=>Vl (Wa B (fun _ q E=>Vr (Vr ⟨rfl,E⟩)) fun _ _ b=>b.elim)) fun _ _ b=>b.elim))
noncomputable def nD (b:Hm)(a:Nat)(y:D):Option Hm:=match b[a]? with
 | some (.lst xs)=>if xs.length<VA then some (b.set a (.lst (xs++[y]))) else none
 | _=>none
noncomputable abbrev BD:=D->Hm->Option aH
noncomputable def pW:BD:=fun d _=>some [some d]
noncomputable def pX (k:Nat):BD:=fun d a=>(bF a d).bind fun xs=>if xs.length=k then some (xs.map some) else none
noncomputable def f9 (a:Hm->Nat->Option (Option D))(j:BD)(c:MT)(e:ME)(b:aH)(h:Nat):Nat->Nat->Hm->Option Hm
 | 0,_,_=>none
 | n+1,i,μ=>(a μ i).bind fun o=>match o with
  | none=>some μ
  | some d=>(j d μ).bind fun x=>(c (b++x) μ).bind fun p=>match p.1 with
   | true=>(e (b++x) p.2).bind fun q=>(nD q.2 h q.1).bind fun l=>f9 a j c e b h n (i+1) l
   | false=>f9 a j c e b h n (i+1) p.2
noncomputable def e8:MT:=fun _ a=>some (true,a)
noncomputable def nE (X:Cx)(ifs:List Expr)(m:MT):Prop:=
 ∀ (a5X:List (Addr×WY))(s:Vp)(σ:St)(H:Hp)(Q:Bool->Hp->Prop),Inv X a5X σ H s->dE X.K m σ H Q->
  VD (VM X.prog X.w) X.A (forIn ifs true fun c r=>if r=true then do let ok <- a3t c X.env (eval c X.env);pure (YB ok) else pure (YB r)) (TP X a5X σ Q) X.xe s
theorem K6 {X:Cx}:nE X [] e8:=by
 intro a s l H Q I h
 obtain ⟨e,j,i,b,d,R,E,c,k⟩:=h
 cases c
 exact wpAny_tests_nil ⟨H,I,k e H .refl R⟩
theorem K7 {X:Cx}{c:Expr}{m:MT}(h:PT X c (dE X.K m)):nE X [c] m:=fun a5X s σ H Q I q=>wpAny_tests_one (h a5X s σ H Q I q)
end L3
namespace L3
open PySem L2
section
variable {prog:VQ}{w:V6}{A:VU}{E:Value->Vp->Prop}{s:Vp}
theorem B6 {e t:Addr}{items:Array Value}(j:t≠e):∀ (n i:Nat)(s:Vp)(Q:List Value->Vp->Prop),s.heap.IsListIter e t i->s.heap.IsList t items->i+n<=items.size->
  (∀ m,m.IsListIter e t (i+n)->YA e s.heap m->Q ((items.toList.drop i).take n) { s with heap:=m })->VD (VM prog w) A (draw (.ref e) n) Q E s
 | 0,i,s,Q,hit,_,_,hQ=>by
  show VD _ _ (pure []) Q E s
  exact Vr (by simpa using hQ s.heap hit (a2a ..))
 | n+1,i,s,Q,hit,ht,hle,hQ=>by
  have h:i<items.size:=by omega
  show VD _ _ (ZA (.ref e) >>= _) Q E s
  refine Vl (a0o hit ht (x:=items[i]) (by simp [h]) fun o b a=>?_)
  refine Vl (Wi (B6 j n (i+1) _ _ b (ht.extBut a.extBut j) (by omega) fun l c d=>Vr ?_))
  have hd:items.toList.drop i=items[i]::items.toList.drop (i+1):=by simp [ZJ,h]
  have:=hQ l (by rw [show i+(n+1)=i+1+n by omega];exact c) (a.trans d)
  rw [hd,List.take_succ_cons] at this
  exact this
theorem K9 {t:Addr}{items:Array Value}{Q:List Value->Vp->Prop}(u:A.handled=none)(l:s.heap.IsList t items)
  (r:∀ p,a1r s.heap.objs.size s.heap p->Q items.toList { s with heap:=p }):VD (VM prog w) A (unpackItems (.ref t) items.size none) Q E s:=by
 have j:t≠s.heap.objs.size:=by obtain ⟨o,v,_⟩:=l;exact VB (Vu v)
 unfold unpackItems
 refine Vl ?_
 ·unfold notIterableAtAll
  refine Vl (a0t l.typeIs slot_list_iter.lookup ?_)
  refine Vr ?_
  simp only [Vy,if_false]
  refine Vl (Wi (Yz l ?_))
  refine Vl (Wi (B6 j items.size 0 _ _ ⟨_,VC _ rfl,rfl,rfl⟩ (l.push _) (by omega) fun m c a=>?_))
  have i:List.take items.size (List.drop 0 items.toList)=items.toList:=by
   rw [a4o];exact a2t (by simp)
  rw [i]
  rw [if_neg (by simp)]
  have h:m.IsList t items:=(l.push _).extBut a.extBut j
  refine Vl (Wi (a0x u c h (by simp) fun n d=>?_))
  simp only [Option.isSome_none,Vy,if_false]
  refine Vr (r n fun b o q e=>d b o q (a.extBut b o q (Vo _ e)))
theorem La {env:Z7}{a:List Expr} {x1} {pos:W4}{t:Addr}{items:Array Value}{Q:Unit->Vp->Prop}(d:A.handled=none)(i:s.heap.IsList t items)
  (e:(Xx a env).length=items.size)(b:(Xx a env).findIdx? (·.1)=none)
  (h:∀ c,a1r s.heap.objs.size s.heap c->VD (VM prog w) A (assignInOrder ((Xx a env).map (·.2)) items.toList) Q E { s with heap:=c }) :
  VD (VM prog w) A (a1m (.Tuple a x1 pos) env (.ref t)) Q E s:=by
 rw [a5B]
 refine Vl (Z9 ?_)
 unfold unpack
 rw [e,b]
 exact Vl (Wi (K9 d i h))
end
noncomputable def lT:aH->List Nat->List D->aH
 | ρ,i::is,x::xs=>lT (ρ.set i (some x)) is xs
 | ρ,_,_=>ρ
noncomputable def cX (is:List Nat):MG:=fun d b a=>(bF a d).bind fun xs=>if xs.length=is.length then some (lT b is xs) else none
noncomputable def sF:List Nat->m3
 | []=>AR
 | i::r=>AS (vH i) (sF r)
theorem w5 {K:Vk}{π:Nat->Addr}{n:Nat}{H:Hp}:∀ (is:List Nat){vs:List V}{xs:List D}{σ:St}{b:aH}{Q:St->Hp->Prop},IsDs K π n H vs xs->En K π n H σ b->xs.length=is.length->(∀ a,En K π n H a (lT b is xs)->Q a H)->sF is vs σ H Q
 | [],vs,xs,σ,b,Q,h,E,hl,k=>by
  cases h with
  | nil=>exact ⟨rfl,k σ E⟩
  | cons h t=>cases hl
 | i::is,vs,xs,σ,b,Q,h,E,hl,k=>by
  cases h with
  | nil=>cases hl
  | cons h t=>exact ⟨_,_,rfl,w5 is t (E.set h i) (by simpa using hl) k⟩
section
variable {X:Cx}{pos:W4}
theorem Lb {es:List Expr}{k:Nat}{is:List Nat}(hc:X.calm=true)(h:pM X es (sF is))(L:(Xx es X.env).length=is.length:=by rfl)(p:(Xx es X.env).findIdx? (·.1)=none:=by rfl) :
  PG X (.Tuple es k pos) (f6 X.K (cX is)):=by
 intro j s y H v u Q I r hw
 obtain ⟨O,ρ,N,d,ρ',R,E,hd,Y,M⟩:=hw
 obtain ⟨K,l,B⟩:=Vj.mp Y
 split at B
 ·rename_i x
  cases B
  have n:(∃ a i,v=.ref a/\SqT X.K H a i/\IsDs X.K O N.length H i K)\/(∃ a i,v=.ref a/\SqL X.K H a i/\IsDs X.K O N.length H i K):=by
   cases hd with
   | tup q t=>cases l;exact .inl ⟨_,_,rfl,q,t⟩
   | rol q t=>cases l;exact .inr ⟨_,_,rfl,q.sq,t⟩
   | @loc a ha=>
    simp only [bF] at l
    split at l
    ·rename_i ys Z
     cases l
     obtain ⟨i,T,U⟩:=R.lst a K Z
     exact .inr ⟨_,i,rfl,.of T,U⟩
    ·cases l
   | _=>cases l
  rcases n with ⟨a,i,rfl,q,t⟩|⟨a,i,rfl,q,t⟩
  ·cases r
   obtain ⟨m,w,G,hz⟩:=I.tuple q
   have c:m.length=is.length:=by rw [<- w.length,t.length];exact x
   refine a5A (I.ok.hd hc) G (by simp [L,c]) p fun A J=>?_
   have z:Inv X j y H { s with heap:=A }:=I.kept (t':=s.toks) fun b o e=>J b o (VB (Vu e)) e
   exact h j _ y H i _ Q z (by simpa using w) (w5 is t E x M)
  ·cases r
   obtain ⟨m,w,G,hz⟩:=I.list q
   have c:m.length=is.length:=by rw [<- w.length,t.length];exact x
   refine La (I.ok.hd hc) G.isList (by simp [L,c]) p fun A J=>?_
   have z:Inv X j y H { s with heap:=A }:=I.kept (t':=s.toks) fun b o e=>J b o (VB (Vu e)) e
   exact h j _ y H i _ Q z (by simpa using w) (w5 is t E x M)
 ·cases B
noncomputable def fA (m:ME)(g:MG):MS:=fun b c=>(m b c).bind fun p=>(g p.1 b p.2).map fun a=>(.nx,a,p.2)
theorem Lc {tg e:Expr}{m:ME}{g:MG}(q:PE X e (tM X.K m))(r:PG X tg (f6 X.K g))(s:swapsWithSole [tg] e pos.line X.env=pure false:=by rfl)(hw:a2U [tg] e X.env=pure none:=by rfl)
  (h1:(Xx [tg] X.env).map (·.2)=[a1m tg X.env]:=by rfl):PS X (.Assign [tg] e pos) (dN X.K (fA m g)):=iU (Ig q r s hw h1) (by
 rintro E I H ⟨y,l,v,B,z,w,R,h,a,k⟩
 obtain ⟨⟨x,c⟩,h1,a⟩:=Vj.mp a
 obtain ⟨A,p,a⟩:=Vn.mp a
 cases a
 exact ⟨y,l,v,x,c,R,h,h1,fun b G o j i u=>⟨b,l,_,x,_,i,h.mono j,u,p,fun d n=>k b d o j i n⟩⟩)
end
section
variable {X:Cx}{K:Vk}
noncomputable def pY:MF:=fun ds a=>match ds with
 | [.str z]=>if z.length<=VA then some (.int z.length,a) else none
 | [x]=>(bF a x).map fun b=>(.int b.length,a)
 | _=>none
noncomputable def w6 (K:Vk):List V->Hp->VK->Prop:=fun xs H Q=>(∃ p a,xs=[.ref p]/\(SqL K H p a\/SqT K H p a)/\Q (.int a.length) H)\/(∃ z,xs=[.str z]/\z.length<=VA/\Q (.int z.length) H)
theorem call_lenM:CallR X (.builtin "len") (w6 X.K):=call_len_seq.or JB
theorem lU {π:Nat->Addr}{b:Hm}{H:Hp}{v:V}{x:D}{xs:List D}(R:Rp K π H b)(h:IsD K π b.length H v x)(e:bF b x=some xs):∃ p vs,v=.ref p/\(SqL K H p vs\/SqT K H p vs)/\IsDs K π b.length H vs xs:=by
 cases h with
 | tup q t=>cases e;exact ⟨_,_,rfl,.inr q,t⟩
 | rol q t=>cases e;exact ⟨_,_,rfl,.inl q.sq,t⟩
 | @loc a j=>
  simp only [bF] at e
  split at e
  ·rename_i l i
   cases e
   obtain ⟨vs,c,d⟩:=R.lst a xs i
   exact ⟨_,vs,rfl,.inl (.of c),d⟩
  ·cases e
 | _=>cases e
theorem B7:dR K pY (w6 K):=by
 intro b H r n d l m Q R i a k
 unfold pY at a
 split at a
 ·split at a
  ·rename_i h
   cases a
   cases i with
   | cons i t=>cases i;cases t;exact .inr ⟨_,rfl,h,k b _ H .refl R (.int _)⟩
  ·cases a
 ·obtain ⟨o,c,e⟩:=Vn.mp a
  cases e
  cases i with
  | cons i t=>
   cases t
   obtain ⟨p,j,rfl,q,hd⟩:=lU R i c
   refine .inl ⟨p,j,rfl,q,?_⟩
   rw [hd.length]
   exact k b _ H .refl R (.int _)
 ·cases a
noncomputable def nF:MF:=fun ds a=>match ds with
 | [.int i]=>some (.int i,a)
 | [.bl b]=>some (.int (if b then 1 else 0),a)
 | _=>none
theorem Ld:dR K nF (fun xs H Q=>(∃ i,xs=[.int i]/\Q (.int i) H)\/∃ k,xs=[.bl k]/\Q (.int (if k then 1 else 0)) H):=by
 intro b H h xs d c e Q R i a k
 unfold nF at a
 split at a
 ·cases a
  cases i with
  | cons i t=>cases i;cases t;exact .inl ⟨_,rfl,k b _ H .refl R (.int _)⟩
 ·cases a
  cases i with
  | cons i t=>cases i;cases t;exact .inr ⟨_,rfl,k b _ H .refl R (.int _)⟩
 ·cases a
noncomputable def sG:MF:=fun ds a=>match ds with
 | [x]=>(bF a x).map fun b=>(.loc a.length,a++[.lst b])
 | _=>none
theorem B8:dR K sG (fun xs H Q=>∃ p a,xs=[.ref p]/\(SqL K H p a\/SqT K H p a)/\∀ l,H l=none->Q (.ref l) (aK H l (.lst a))):=by
 intro s H r xs d n o Q R i b k
 unfold sG at b
 split at b
 ·obtain ⟨a,h,j⟩:=Vn.mp b
  cases j
  cases i with
  | cons i t=>
   cases t
   obtain ⟨p,c,rfl,q,hd⟩:=lU R i h
   refine ⟨p,c,rfl,q,fun l m=>?_⟩
   obtain ⟨e,R2,_⟩:=R.alloc (c:=.lst a) (o:=.lst c) m hd
   exact k _ _ _ e R2 fL
 ·cases b
noncomputable def B9 (K:Vk):List V->Hp->VK->Prop:=fun vs H Q=>∃ π a x v t c b,vs=[v,.ty c]/\Rp K π H a/\IsD K π a.length H v x/\sD a x=some t/\sE t c=some b/\Q (.bl b) H
theorem Le:dR K eY (B9 K):=by
 intro c H q p d n o Q R i a k
 unfold eY at a
 split at a
 ·obtain ⟨t,e,a⟩:=Vj.mp a
  obtain ⟨b,h,a⟩:=Vn.mp a
  cases a
  cases i with
  | cons i l=>
   cases l with
   | cons j m=>
    cases m
    cases j
    exact ⟨c,_,_,_,t,_,b,rfl,R,i,e,h,k c _ H .refl R (.bl _)⟩
 ·cases a
theorem Lf:CallR X (.builtin "isinstance") (B9 X.K):=by
 intro J s σ H O us Q I r h
 obtain ⟨M,μ,x,v,t,c,b,rfl,R,i,d,l,q⟩:=h
 obtain ⟨u,u2,rfl,w,Y⟩:=IM r
 cases Y
 have fin:∀ L,EP X J σ Q (.bool b) { s with toks:=L }:=fun L=>⟨.bl b,H,I.tok L,rfl,q⟩
 cases i with
 | non=>cases d;cases w;exact Xp PySem.W.kitx_none I.kIn Yt (jM X.K (by simp) l) (fun z=>nomatch z) fin
 | bl y=>cases d;cases w;exact Xp PySem.W.kitx_bool I.kIn Yt (jM X.K (by simp) l) (fun z=>nomatch z) fin
 | int y=>cases d;obtain ⟨t,rfl⟩:=w;exact Xp PySem.W.kitx_int I.kIn Yt (jM X.K (by simp) l) (fun z=>nomatch z) fin
 | str y=>cases d;obtain ⟨t,rfl⟩:=w;exact Xp PySem.W.kitx_str I.kIn Yt (jM X.K (by simp) l) (fun z=>nomatch z) fin
 | tup g t=>
  cases d
  cases w
  obtain ⟨E,N,p,_⟩:=I.tuple g
  obtain ⟨o,e,j,_⟩:=p
  exact Xp PySem.W.kitx_tuple I.kIn ⟨o,e,j⟩ (jM X.K (by simp) l) (fun z=>nomatch z) fin
 | rol g t=>
  cases d
  cases w
  obtain ⟨E,N,p,_⟩:=I.list g.sq
  obtain ⟨o,e,j,_⟩:=p.isList
  exact Xp a2N I.kIn ⟨o,e,j⟩ (jM X.K (by simp) l) (fun z=>nomatch z) fin
 | @loc a ha=>
  cases w
  simp only [sD] at d
  split at d
  ·rename_i O B
   cases d
   obtain ⟨G,A,h4⟩:=R.lst a O B
   obtain ⟨E,N,p,_⟩:=I.list (SqL.of (K:=X.K) A)
   obtain ⟨o,e,j,_⟩:=p.isList
   exact Xp a2N I.kIn ⟨o,e,j⟩ (jM X.K (by simp) l) (fun z=>nomatch z) fin
  ·rename_i m B
   cases d
   obtain ⟨G,A,_⟩:=R.dK a m B
   obtain ⟨_,_,Z,_,p⟩:=(show ObjOk X.prog X.w H s.heap (M a) (.dK G) from I.hok _ _ A)
   obtain ⟨o,U,T,e,j,_⟩:=p
   exact Xp a2O I.kIn ⟨o,e,j.1⟩ (jM X.K (by simp) l) (fun z=>nomatch z) fin
  ·rename_i m B
   cases d
   obtain ⟨G,A,_⟩:=R.dT a m B
   obtain ⟨⟨Z,_,_,_,o,U,T,e,j,_⟩,_⟩:=(show ObjOk X.prog X.w H s.heap (M a) (aY (M a) G) from I.hok _ _ A)
   exact Xp a2O I.kIn ⟨o,e,j.1⟩ (jM X.K (by simp) l) (fun z=>nomatch z) fin
  ·cases d
 | ty n=>cases d
end
noncomputable def nG (kvs:List (a9×D))(k:a9):Option D:=(kvs.find? fun a=>decide (a.1=k)).map (·.2)
inductive IsKs (K:Vk)(π:Nat->Addr)(n:Nat)(H:Hp):List (a9×V)->List (a9×D)->Prop where
 | nil:IsKs K π n H [] []
 | cons {k:a9}{v:V}{d:D}{vs:List (a9×V)}{ds:List (a9×D)}(h:IsD K π n H v d)(t:IsKs K π n H vs ds):IsKs K π n H ((k,v)::vs) ((k,d)::ds)
section
variable {K:Vk}{π π':Nat->Addr}{n n':Nat}{H H':Hp}
theorem IsKs.of:∀ {vs:List (a9×V)}{ds:List (a9×D)},vs.map (·.1)=ds.map (·.1)->IsDs K π n H (vs.map (·.2)) (ds.map (·.2))->IsKs K π n H vs ds
 | [],[],_,_=>.nil
 | [],_::_,h,_=>by cases h
 | _::_,[],h,_=>by cases h
 | (k,v)::vs,(k',d)::ds,h,t=>by
  rw [VE,VE] at h t
  injection h with h1 h2
  dsimp only at h1
  subst h1
  cases t with
  | cons a b=>exact .cons a (IsKs.of h2 b)
theorem IsKs.append {vs ws:List (a9×V)}{ds es:List (a9×D)}(h:IsKs K π n H vs ds)(a:IsKs K π n H ws es):IsKs K π n H (vs++ws) (ds++es):=by
 induction h with
 | nil=>exact a
 | cons h t b=>exact .cons h b
theorem IsKs.any {vs:List (a9×V)}{ds:List (a9×D)}(h:IsKs K π n H vs ds)(k:a9):(vs.any fun a=>decide (a.1=k))=ds.any fun a=>decide (a.1=k):=by
 induction h with
 | nil=>rfl
 | cons h t b=>rw [XQ,XQ,b]
theorem IsKs.val {vs:List (a9×V)}{ds:List (a9×D)}(h:IsKs K π n H vs ds)(k:a9):(nG ds k=none/\eN vs k=none)\/∃ v d,nG ds k=some d/\eN vs k=some v/\IsD K π n H v d:=by
 induction h with
 | nil=>exact .inl ⟨rfl,rfl⟩
 | @cons a c b vs ds h t l=>
  by_cases e:a=k
  ·exact .inr ⟨c,b,by simp [nG,Wv,e],by simp [eN,Wv,e],h⟩
  ·have i:nG ((a,b)::ds) k=nG ds k:=by simp [nG,Wv,e]
   have j:eN ((a,c)::vs) k=eN vs k:=by simp [eN,Wv,e]
   rw [i,j]
   exact l
theorem IsKs.length {vs:List (a9×V)}{ds:List (a9×D)}(h:IsKs K π n H vs ds):vs.length=ds.length:=by
 induction h with
 | nil=>rfl
 | cons h t a=>rw [V1,V1,a]
end
noncomputable def Lg (K:Vk)(a:List (ME×ME)):List (TE×TE):=a.map fun p=>(tM K p.1,tM K p.2)
section
variable {X:Cx}{a b c:Expr}{ma mb mc:ME}{pos:W4}
end
theorem eT {k:Nat}{A:VU}(r:Room k A):A.units+1<WX:=by have:=r.un;omega
noncomputable def gA (a:ME):ME:=fun c b=>(a c b).bind fun p=>(wU p.1).map fun d=>(d,p.2)
end L3
namespace L3
open PySem L2
noncomputable def fN (a:List (Str×Addr)):List (Str×XX)->List (Str×Addr)->List (Str×Addr)
 | [],acc=>acc
 | (n,k)::r,acc=>if k=.free then (match a.lookup n with|some c=>fN a r ((n,c)::acc)|none=>fN a r acc) else fN a r acc
theorem Cb {env:Z7}:∀ (names:List (Str×XX))(a:List (Str×Addr)),(∀ y∈names,y.2=.free->∃ c,env.cells.lookup y.1=some c)->
  (forIn names a fun (x:Str×XX)(cs:List (Str×Addr))=>(do
   if x.2 == .free then (do let c <- cellOf env x.1;pure (YB ((x.1,c)::cs))) else pure (YB cs):a4W (ForInStep (List (Str×Addr)))))=pure (fN env.cells names a)
 | [],a,_=>rfl
 | (n,k)::r,a,h=>by
  have d:=fun a=>Cb r a fun y i=>h y (VI _ i)
  rw [List.forIn_cons]
  by_cases b:k=.free
  ·subst b
   obtain ⟨c,hc⟩:=h (n,.free) (VO ..) rfl
   dsimp only at hc
   have e:cellOf env n=pure c:=by unfold cellOf;rw [hc]
   simp only [fN,hc,e,beq_self_eq_true,if_true,pure_bind]
   exact d _
  ·have e:(k == Xr)=false:=by simpa using b
   simp only [fN,e,b,if_false,Vy,pure_bind]
   exact d _
theorem Lh {scope:X1}{env:Z7}(h:∀ y∈scope.names,y.2=.free->∃ c,env.cells.lookup y.1=some c):a4x scope env=pure (fN env.cells scope.names []):=by
 have:=Cb (env:=env) scope.names [] h
 unfold a4x
 simp only [bind_pure] at *
 exact this
theorem sH {a:List (Str×Addr)}:∀ (names:List (Str×XX))(b:List (Str×Addr)),(∀ y c,b.lookup y=some c->a.lookup y=some c)->∀ y c,(fN a names b).lookup y=some c->a.lookup y=some c
 | [],b,h=>h
 | (n,k)::r,b,h=>by
  unfold fN
  split
  ·split
   ·rename_i i hc
    refine sH r _ fun y c e=>?_
    rw [Y6] at e
    by_cases d:y=n
    ·subst d
     simp only [beq_self_eq_true] at e
     cases e
     exact hc
    ·have:(y == n)=false:=by simpa using d
     rw [this] at e
     exact h y c e
   ·exact sH r b h
  ·exact sH r b h
theorem sI {b:List (Str×Addr)}:∀ (names:List (Str×XX))(a:List (Str×Addr))(y:Str),(∃ c,a.lookup y=some c)->∃ c,(fN b names a).lookup y=some c
 | [],a,y,h=>h
 | (n,k)::r,a,y,h=>by
  unfold fN
  split
  ·split
   ·refine sI r _ y ?_
    rw [Y6]
    by_cases d:(y == n)=true
    ·rw [d];exact ⟨_,rfl⟩
    ·have:(y == n)=false:=by simpa using d
     rw [this]
     exact h
   ·exact sI r a y h
  ·exact sI r a y h
theorem sJ {a:List (Str×Addr)}:∀ (names:List (Str×XX))(b:List (Str×Addr))(y:Str),(y,Xr)∈names->(∃ c,a.lookup y=some c)->∃ c,(fN a names b).lookup y=some c
 | [],b,y,h,_=>by cases h
 | (n,k)::r,b,y,h,hc=>by
  unfold fN
  rcases VP.mp h with h|h
  ·cases h
   obtain ⟨c,hc⟩:=hc
   rw [if_pos rfl,hc]
   exact sI r _ _ ⟨c,by simp [Y6]⟩
  ·split
   ·split
    ·exact sJ r _ y h hc
    ·exact sJ r _ y h hc
   ·exact sJ r _ y h hc
structure CompSt (osc:X1)(N:List Str)(scope:X1)(xs:List Str):Prop where
 nocell:∀ y∈scope.names,y.2≠.cell
 kind:scope.kind=.function
 names:∀ y∈scope.names,y.2=.local->scope.names.lookup y.1=some .local
 here:∀ x∈xs,scope.names.lookup x=some .local
 free:∀ y∈scope.names,y.2=.free->osc.names.lookup y.1=some .cell\/osc.names.lookup y.1=some .free
 own:∀ y∈scope.names,y.2=.local->y.1∉bM xs N
 nd:N.Nodup
 hnd:(bM xs N).Nodup
 hidn:∀ y∈N,xs.contains y=true->scope.names.lookup (nC y)=none
theorem CompSt.ok {X:Cx}{scope:X1}{xs:List Str}(S:CompSt X.env.scope X.N scope xs)(ok:X.Ok):CompOk X scope (fN X.env.cells scope.names []) xs:=by
 have has:∀ y∈scope.names,y.2=.free->∃ c,X.env.cells.lookup y.1=some c:=fun y d b=>ok.has y.1 (S.free y d b)
 refine ⟨Lh has,S.nocell,S.kind,S.names,S.here,sH scope.names [] (fun y c e=>by cases e),fun y e=>?_,fun y e=>?_,S.hidn⟩
 ·have a:=WG e
  exact ⟨S.free _ a rfl,sJ scope.names [] y a (has _ a rfl)⟩
 ·exact S.own _ (WG e) rfl
end L3
namespace L3
open PySem L2
section
variable {X:Cx}{pos:W4}
end
end L3
namespace L3
open PySem L2
noncomputable def c8 (e:Expr):Bool:=!(e.ctorIdx == 22)
theorem fB {e:Expr}{es:List Expr}{env:Z7}(h:c8 e=true):V5 (e::es) env=(false,eval e env)::V5 es env:=by
 cases e<;>first|rfl|cases h
theorem lV {pos:W4}{env:Z7}:∀ {es:List Expr},es.all c8=true->(Yi pos (V5 es env)).any (·.1)=false
 | [],_=>rfl
 | e::es,h=>by
  rw [Wf,Vq] at h
  rw [fB h.1]
  have:=lV (pos:=pos) (env:=env) h.2
  simpa [Yi] using this
theorem sL {e:Expr}{es:List Expr}{env:Z7}(h:c8 e=true):Xx (e::es) env=(false,a1m e env)::Xx es env:=by
 cases e<;>first|rfl|cases h
theorem Cd {env:Z7}:∀ {es:List Expr},es.all c8=true->(Xx es env).length=es.length
 | [],_=>rfl
 | e::es,h=>by
  rw [Wf,Vq] at h
  rw [sL h.1,V1,V1,Cd h.2]
theorem Ce {env:Z7}:∀ {es:List Expr},es.all c8=true->(Xx es env).findIdx? (·.1)=none
 | [],_=>rfl
 | e::es,h=>by
  rw [Wf,Vq] at h
  rw [sL h.1,List.findIdx?_cons,Ce h.2]
  rfl
section
variable {X:Cx}{e a b c:Expr}{es:List Expr}{m:ME}{ms:MA}{pos:W4}
end
end L3
namespace L3
open PySem L2
structure QE (X:Cx)(e:Expr)(m:ME):Prop where
 h:PE X e (tM X.K m)
structure QT (X:Cx)(e:Expr)(m:MT):Prop where
 h:PT X e (dE X.K m)
structure QW (X:Cx)(e:Expr)(m:MT):Prop where
 h:PW X e (dE X.K m)
structure QA (X:Cx)(es:List Expr)(m:MA)(n:Nat):Prop where
 h:PA X es (fJ X.K m)
 l:∀ ρ μ ds μ',m ρ μ=some (ds,μ')->ds.length=n
 s:es.all c8=true
structure QO (X:Cx)(e:Option Expr)(m:MO):Prop where
 h:PO X e (pT X.K m)
structure QS (X:Cx)(st:Stmt)(m:MS):Prop where
 h:PS X st (dN X.K m)
structure QB (X:Cx)(st:List Stmt)(m:MS):Prop where
 h:PSs X st (dN X.K m)
structure QG (X:Cx)(e:Expr)(g:MG):Prop where
 h:PG X e (f6 X.K g)
structure QGs (X:Cx)(es:List Expr)(is:List Nat):Prop where
 h:pM X es (sF is)
 n:es.length=is.length
 s:es.all c8=true
structure QI (X:Cx)(ifs:List Expr)(m:MT):Prop where
 h:nE X ifs m
structure QP (X:Cx)(pos:W4)(keys:List (Option Expr))(values:List Expr)(prs:List (ME×ME)):Prop where
 h:Jg X pos keys values (Lg X.K prs)
 a:keys.all (·.isSome)=true
 l:keys.length=values.length
section
variable {X:Cx}{e a b c:Expr}{m ma mb mc:ME}{pos:W4}{mt mu:MT}{rest es:List Expr}{ms:MA}{n:Nat}
theorem Cf {x:Str}(i:Nat)(h:X.N[i]? = some x:=by rfl)(j:pK X.env.scope x:=by first|exact a3R rfl|exact a2Q (a3R rfl)|exact a2Q (a2Q rfl))(hd:(x == ("__debug__":Str))=false:=by decide)
  (d:(x == ("__classdict__":Str))=false:=by decide):QE X (.Name x pos) (aA i):=⟨JV i (rP h j hd d)⟩
theorem Li {i:Int}{j:Nat}:QE X (.Constant (.int i) j pos) (mC (.int i)):=⟨JW⟩
theorem Lj {i:Bool}{j:Nat}:QE X (.Constant (.bool i) j pos) (mC (.bl i)):=⟨JX⟩
theorem Lk {i:Str}{j:Nat}:QE X (.Constant (.str i) j pos) (mC (.str i)):=⟨JY⟩
theorem Ll {j:Nat}:QE X (.Constant .none j pos) (mC .non):=⟨JZ⟩
theorem pZ {op:a2F}{r:R2}{f:D->D->Hm->Option (D×Hm)}(j:OpR X (YI op) r)(i:cS X.K f r)(d:QE X a ma)(h:QE X b mb):QE X (.BinOp a op b pos) (aB f ma mb):=⟨J0 j i d.h h.h⟩
theorem Lm (d:QE X a ma)(h:QE X b mb):QE X (.BinOp a .Add b pos) (aB bJ ma mb):=pZ KU KW d h
theorem Ln (d:QE X a ma)(h:QE X b mb):QE X (.BinOp a .Sub b pos) (aB cP ma mb):=pZ IC KN d h
theorem Lo (d:QE X a ma)(h:QE X b mb):QE X (.BinOp a .Mult b pos) (aB bH ma mb):=pZ (op_mulB.or JK) KP d h
theorem Lp (d:QE X a ma)(h:QE X b mb):QE X (.BinOp a .FloorDiv b pos) (aB dX ma mb):=pZ KL KQ d h
theorem Lq (d:QE X a ma)(h:QE X b mb):QE X (.BinOp a .Mod b pos) (aB aW ma mb):=pZ ID KR d h
theorem Lr (d:QE X a ma):QE X (.UnaryOp .USub a pos) (gA ma):=⟨iY d.h⟩
theorem Ls (d:QE X a ma):QE X (.UnaryOp .Not a pos) (kH ma):=⟨J9 d.h⟩
theorem Lu {k:Nat}(i:Room k X.A)(d:QE X a ma)(h:QE X b mb):QE X (.Compare a [.Eq] [b] pos) (aB (aT false) ma mb):=⟨eF (B0 (sC i)) sA d.h h.h (c6 _)⟩
theorem Lv {k:Nat}(i:Room k X.A)(d:QE X a ma)(h:QE X b mb):QE X (.Compare a [.NotEq] [b] pos) (aB (aT true) ma mb):=⟨eF (B1 (sC i)) sA d.h h.h (c6 _)⟩
theorem Lx (d:QE X a ma)(h:QE X b mb):QE X (.Compare a [.Lt] [b] pos) (aB iH ma mb):=⟨eF vT gZ d.h h.h (c6 _)⟩
theorem Lz (d:QE X a ma)(h:QE X b mb):QE X (.Compare a [.LtE] [b] pos) (aB wY ma mb):=⟨eF vU gZ d.h h.h (c6 _)⟩
theorem LA (d:QE X a ma)(h:QE X b mb):QE X (.Compare a [.Gt] [b] pos) (aB lR ma mb):=⟨eF vV gZ d.h h.h (c6 _)⟩
theorem LB (d:QE X a ma)(h:QE X b mb):QE X (.Compare a [.GtE] [b] pos) (aB pV ma mb):=⟨eF vW gZ d.h h.h (c6 _)⟩
noncomputable def fC (e:Expr):Bool:=!(e.ctorIdx == 7)
theorem hG {op:YS}{b:Expr}(h:fC b=true):Yr op b=false:=by
 cases b<;>first|rfl|cases h
theorem LC {op:BoolOp}(h:QE X a m):QE X (.BoolOp op [a] pos) m:=⟨J6 h.h⟩
theorem LF (d:QE X a ma)(h:QE X (.BoolOp .And (b::rest) pos) mb):QE X (.BoolOp .And (a::b::rest) pos) (gW ma mb):=⟨J7 d.h h.h⟩
theorem LG (d:QE X a ma)(h:QE X (.BoolOp .Or (b::rest) pos) mb):QE X (.BoolOp .Or (a::b::rest) pos) (m8 ma mb):=⟨J8 d.h h.h⟩
theorem LH (hc:QT X c mt)(d:QE X a ma)(h:QE X b mb):QE X (.IfExp c a b pos) (iG mt ma mb):=⟨Ka hc.h d.h h.h⟩
theorem LJ:QA X [] aD 0:=⟨Kb,Kg,rfl⟩
theorem LK (i:QE X e m)(d:QA X es ms n)(h:c8 e=true:=by rfl):QA X (e::es) (aC m ms) (n+1):=⟨Kc i.h d.h (fB h),Kh d.l,by rw [Wf,h,d.s];rfl⟩
theorem LM {d:Nat}(h:QA X es ms n):QE X (.Tuple es d pos) (bI ms):=⟨Kd h.h⟩
theorem LN (h:QA X es ms n):QE X (.List es pos) (cL ms):=⟨Ke h.h⟩
noncomputable def nH (e:Expr):Bool:=!(e.ctorIdx == 26)
theorem Cg {b:Expr}(h:nH b=true):wD b:=by
 intro o i
 cases b<;>first|rfl|cases h
theorem LO (d:QE X a ma)(i:QE X b mb)(h:nH b=true:=by rfl):QE X (.Subscript a b pos) (aB fK ma mb):=⟨Km d.h i.h (Cg h)⟩
theorem LP:QO X none jL:=⟨Kn⟩
theorem LQ (h:QE X e m):QO X (some e) (iW m):=⟨Ko h.h⟩
theorem LR {lo d:Option Expr}{i h:MO}{p:W4}(j:QE X a ma)(l:QO X lo i)(o:QO X d h):QE X (.Subscript a (.Slice lo d none p) pos) (lQ ma i h):=⟨Kq j.h l.h o.h⟩
theorem LS {k:Nat}{f:Addr}{j:Xc}{ps:List Str}{l:MF}{x:Str}{p:W4}(F:FnOk X.prog X.w X.K X.mg X.base eE k f j ps (iF X.K n l))(u:Room k X.A)(s:X.mg x=some (.ref f))
  (r:Ww X.K (.ref f)=true)(o:Binds X.K j ps [])(d:QA X (e::es) ms n)(q:Gl X x:=by rfl)(h:(x == ("__debug__":Str))=false:=by decide):QE X (.Call (.Name x p) (e::es) [] pos) (aG l ms):=by
 have i:=d.s
 rw [Wf,Vq] at i
 exact ⟨Ki F u q s r o d.h d.l h (fB i.1) (lV i.2)⟩
theorem Ci {f:MF}{r:List V->Hp->VK->Prop}{id:String}{x:Str}{p:W4}(hc:CallR X (.builtin id) r)(j:dR X.K f r)(o:X.mg x=none)(s:W3 x=some (.builtin id))(i:QA X (e::es) ms n)
  (l:Gl X x:=by rfl)(q:x ≠ "__name__":=by decide) (d:(x == ("__debug__":Str))=false:=by decide):QE X (.Call (.Name x p) (e::es) [] pos) (aG f ms):=by
 have h:=i.s
 rw [Wf,Vq] at h
 exact ⟨Kj hc j l o s i.h q d (fB h.1) (lV h.2)⟩
theorem Cj {f:MF}{r:List V->Hp->VK->Prop}{T:String}{x:Str}{p:W4}(hc:CallR X (.type T) r)(j:dR X.K f r)(o:X.mg x=none)(s:W3 x=some (.type T))(i:QA X (e::es) ms n)
  (l:Gl X x:=by rfl)(q:x ≠ "__name__":=by decide) (d:(x == ("__debug__":Str))=false:=by decide):QE X (.Call (.Name x p) (e::es) [] pos) (aG f ms):=by
 have h:=i.s
 rw [Wf,Vq] at h
 exact ⟨Kk hc j l o s i.h q d (fB h.1) (lV h.2)⟩
theorem LU {x:Str}{n:String}(h:X.mg x=none)(j:W3 x=some (.type n))(d:Gl X x:=by rfl)(i:x ≠ "__name__":=by decide) (hd:(x == ("__debug__":Str))=false:=by decide):QE X (.Name x pos) (mC (.ty n)):=⟨KY d h j i hd⟩
theorem LV {k:Nat}(i:Room k X.A)(d:QE X a ma)(h:QE X b mb):QT X (.Compare a [.Eq] [b] pos) (aO (aB (aT false) ma mb)):=⟨eG (B0 (sC i)) sA d.h h.h (c6 _)⟩
theorem LW {k:Nat}(i:Room k X.A)(d:QE X a ma)(h:QE X b mb):QT X (.Compare a [.NotEq] [b] pos) (aO (aB (aT true) ma mb)):=⟨eG (B1 (sC i)) sA d.h h.h (c6 _)⟩
theorem LX (d:QE X a ma)(h:QE X b mb):QT X (.Compare a [.Lt] [b] pos) (aO (aB iH ma mb)):=⟨eG vT gZ d.h h.h (c6 _)⟩
theorem LY (d:QE X a ma)(h:QE X b mb):QT X (.Compare a [.LtE] [b] pos) (aO (aB wY ma mb)):=⟨eG vU gZ d.h h.h (c6 _)⟩
theorem LZ (d:QE X a ma)(h:QE X b mb):QT X (.Compare a [.Gt] [b] pos) (aO (aB lR ma mb)):=⟨eG vV gZ d.h h.h (c6 _)⟩
theorem L0 (d:QE X a ma)(h:QE X b mb):QT X (.Compare a [.GtE] [b] pos) (aO (aB pV ma mb)):=⟨eG vW gZ d.h h.h (c6 _)⟩
noncomputable def w8:Expr->Bool
 | .UnaryOp .Not ..=>false
 | .BoolOp ..=>false
 | .IfExp ..=>false
 | .Compare ..=>false
 | _=>true
theorem L1 {e:Expr}{env:Z7}(h:w8 e=true):∀ d,a3t e env d=(do let v <- d;standAt e.pos;holding [v] (truthy v)):=by
 intro d
 cases e<;>first|rfl|cases h|skip
 rename_i i x p
 cases i<;>first|rfl|cases h
theorem L4 (d:QT X a mt):QT X (.UnaryOp .Not a pos) (gU mt):=⟨J5 d.h⟩
theorem L5 (d:QT X a mt):QW X (.BoolOp .And [a] pos) mt:=⟨J1 d.h⟩
theorem L6 (d:QT X a mt):QW X (.BoolOp .Or [a] pos) mt:=⟨J2 d.h⟩
theorem L7 (d:QT X a mt)(h:QW X (.BoolOp .And (b::rest) pos) mu):QW X (.BoolOp .And (a::b::rest) pos) (fY mt mu):=⟨J3 d.h h.h⟩
theorem L8 (d:QT X a mt)(h:QW X (.BoolOp .Or (b::rest) pos) mu):QW X (.BoolOp .Or (a::b::rest) pos) (fZ mt mu):=⟨J4 d.h h.h⟩
theorem L9 (h:QW X e mt):QT X e mt:=⟨h.h.pt⟩
theorem Ma:QI X [] e8:=⟨K6⟩
theorem Mb (h:QT X c mt):QI X [c] mt:=⟨K7 h.h⟩
end
section
variable {X:Cx}{e a b c:Expr}{m:ME}{pos:W4}{mt:MT}{st:Stmt}{rest body orelse:List Stmt}{ms mr mu:MS}{n:Nat}{is:List Nat}{es:List Expr}{g:MG}
theorem Mc:QB X [] bG:=⟨Kr⟩
theorem Md (h1:QS X st ms)(d:QB X rest mr):QB X (st::rest) (aI ms mr):=⟨Ks h1.h d.h⟩
theorem Me (h1:QS X st ms):QB X [st] ms:=⟨Kt h1.h⟩
theorem Mf:QS X (.Pass pos) bG:=⟨Ku⟩
theorem Mg (d:QE X e m):QS X (.Return (some e) pos) (aQ m):=⟨Kw d.h⟩
noncomputable def eP (e:Expr):Bool:=!(e.ctorIdx == 8||e.ctorIdx == 9||e.ctorIdx == 10)
theorem nI {e:Expr}{t:Option Expr}{n:Nat}{env:Z7}(h:eP e=true):ZQ e t n env=pure false:=by
 cases e<;>first|rfl|cases h
theorem Mh (d:QE X e m)(h:eP e=true:=by rfl):QS X (.Expr e pos) (dS m):=⟨Ky d.h (nI h)⟩
theorem Mi (hc:QT X c mt)(d:QB X body ms)(h:QB X orelse mu):QS X (.If c body orelse pos) (bD mt ms mu):=⟨Kz hc.h d.h h.h⟩
theorem Ck (i:Nat){x:Str}{d:W4}(j:X.N.Nodup)(l:QE X e m)(h:eP e=true:=by rfl)(p:X.N[i]? = some x:=by rfl)(q:Loc X.env.scope x:=by first|exact a3R rfl|exact a2Q rfl)
  (o:X.fn x=true\/X.env.scope.names.lookup x=some .local:=by first|exact .inl rfl|exact .inr rfl):QS X (.Assign [.Name x d] e pos) (aR i m):=⟨BN j p q l.h (nI h) o⟩
theorem Mj (i:Nat){x:Str}(d:X.N.Nodup)(j:X.N[i]? = some x:=by rfl)(l:Loc X.env.scope x:=by first|exact a3R rfl|exact a2Q rfl)
  (h:X.fn x=true\/X.env.scope.names.lookup x=some .local:=by first|exact .inl rfl|exact .inr rfl):QG X (.Name x pos) (dF i):=⟨B3 d j l h⟩
theorem Cm:QGs X [] []:=⟨Ic,rfl,rfl⟩
theorem Cn (i:Nat){x:Str}(h:X.N.Nodup)(d:QGs X es is)(l:X.N[i]? = some x:=by rfl)(o:Loc X.env.scope x:=by first|exact a3R rfl|exact a2Q rfl)
  (j:X.fn x=true\/X.env.scope.names.lookup x=some .local:=by first|exact .inl rfl|exact .inr rfl):QGs X (.Name x pos::es) (i::is):=
 ⟨Ie (AQ h l o j) d.h (by rw [sL (e:=.Name x pos) rfl];rfl),by rw [V1,V1,d.n],by rw [Wf,d.s];rfl⟩
theorem w9 {k:Nat}(h:QGs X es is)(hc:X.calm=true:=by rfl):QG X (.Tuple es k pos) (cX is):=⟨Lb hc h.h ((Cd h.s).trans h.n) (Ce h.s)⟩
noncomputable def xA (e:Expr):Bool:=!(e.ctorIdx == 25)
theorem Ml {es:List Expr}{k:Nat}{pt:W4}{e:Expr}{env:Z7}(h:xA e=true):a2U [.Tuple es k pt] e env=pure none:=by
 cases e<;>first|rfl|cases h
theorem Mm {k:Nat}{pt:W4}(d:QE X e m)(i:QG X (.Tuple es k pt) g)(h:xA e=true:=by rfl):QS X (.Assign [.Tuple es k pt] e pos) (fA m g):=
 ⟨Lc d.h i.h (by cases e<;>rfl) (Ml h) (by rw [sL (e:=.Tuple es k pt) rfl];rfl)⟩
end
section
variable {P:VQ}{w:V6}{K:Vk}{mg:Str->Option Value}{base:Wj}
theorem Mn {x qual:Str}{st:Stmt}{f:Addr}{e:Xc}{N ps:List Str}{k:Nat}{body:List Stmt}{m:MS}(F:Fun K x qual st f e)(S:FnScope N ps (bR st))(d:ps.length<=N.length)(c:dM st=body)
  (b:∀ (a:Value)(A:VU)(outer:List Z7)(s:Vp)(H:Hp)(E:XK),Room k (A.deeper (YY qual (bR st) s.heap.objs.size f a))->
   QB (dW eE P w K mg base N qual (bR st) f a A outer s H E).nox body m):FnOk P w K mg base eE (k+1) f e ps (iF K ps.length (wL N.length m)):=
 KA F S d fun a A outer s H E h=>by
  rw [c]
  exact (b a A outer s H E h).h
end
end L3
namespace L3
open PySem L2
noncomputable abbrev gC:=Hm->Nat->Option (Option D)
noncomputable abbrev MI:=aH->Hm->Option (gC×Nat×Hm)
noncomputable def jO (K:Vk)(m:MI):TI:=fun σ H R=>∃ π h e c n a,Rp K π H e/\En K π e.length H σ h/\m h e=some (c,n,a) /\
 ∀ b d J,Ext π e.length H b a.length d->Rp K b d a->Wk K J c b a.length d->R J d
structure QJ (X:Cx)(e:Expr)(m:MI):Prop where
 h:∀ tg,PI X tg e (jO X.K m)
section
variable {X:Cx}{pos:W4}{e:Expr}{m:ME}
noncomputable def Co:MI:=fun _ _=>none
theorem Mo:QJ X e Co:=⟨fun tg a5X s σ H R I hw=>by
 obtain ⟨i,j,h,b,n,c,d,E,a,k⟩:=hw
 cases a⟩
noncomputable def jP (a:Hm):D->Option (List D)
 | d=>bF a d
noncomputable def jQ (x:D):gC:=fun a i=>(jP a x).map fun xs=>xs[i]?
noncomputable def cF (m:ME):MI:=fun b a=>(m b a).bind fun p=>(jP p.2 p.1).map fun xs=>(jQ p.1,xs.length+1,p.2)
theorem Mp (h:QE X e m):QJ X e (cF m):=⟨fun tg a5X s σ H R I hw=>by
 obtain ⟨M,N,K,G,n,L,w,E,b,k⟩:=hw
 obtain ⟨⟨x,l⟩,y,b⟩:=Vj.mp b
 obtain ⟨J,z,b⟩:=Vn.mp b
 cases b
 have i:∀ (r:bF l x=some J)(u:jQ x=jN x),VD (VM X.prog X.w) X.A (eval e X.env) (fun v B=>VD (VM X.prog X.w) X.A (a2z v) (rQ X a5X σ tg R) X.xe B) X.xe s:=fun r u=>by
  refine K0 h.h a5X s σ H R I ⟨M,N,K,x,_,w,E,y,fun c O o p d A=>?_⟩
  obtain ⟨a,e,q⟩:=K1 d A r
  subst e
  refine ⟨a,rfl,?_⟩
  dsimp only at k
  rw [u] at k
  rcases q with ⟨j,W⟩|⟨j,W⟩
  ·exact .inl ⟨j,k c o _ p d W⟩
  ·exact .inr ⟨j,k c o _ p d W⟩
 cases x with
 | _=>exact i z rfl⟩
noncomputable def lW (a:MA):MI:=fun c b=>(a c b).bind fun p=>match p.1 with
 | [.int j]=>if -(2 ^ 62)<=j/\j<2 ^ 62 then some (f7 0 j.toNat,j.toNat+1,p.2) else none
 | _=>none
theorem Mq {a:Expr}{u:MA}{n:Nat}{p:W4}(c:Gl X "range") (d:X.mg "range" = none) (o:QA X [a] u n):QJ X (.Call (.Name "range" p) [a] [] pos) (lW u):=⟨fun tg a5X s σ H R I hw=>by
 have r:=o.s
 rw [Wf,Vq] at r
 obtain ⟨L,M,J,B,N,K,y,E,b,k⟩:=hw
 obtain ⟨⟨x,i⟩,A,b⟩:=Vj.mp b
 refine Iq c d o.h (fB r.1) a5X s σ H R I ⟨L,M,J,x,i,y,E,A,fun l O v z w h=>?_⟩
 dsimp only at b
 split at b
 ·rename_i j
  split at b
  ·rename_i q
   cases b
   cases h with
   | cons h G=>
    cases h
    cases G
    exact ⟨j,rfl,q.1,q.2,k l v _ z w B4⟩
  ·cases b
 ·cases b⟩
noncomputable def kK (a:MA):MI:=fun c b=>(a c b).bind fun p=>match p.1 with
 | [.int i,.int j]=>if -(2 ^ 62)<=i/\i<2 ^ 62/\-(2 ^ 62)<=j/\j<2 ^ 62 then some (f7 i (j - i).toNat,(j - i).toNat+1,p.2) else none
 | _=>none
theorem Mr {a b:Expr}{v:MA}{n:Nat}{p:W4}(h:Gl X "range") (l:X.mg "range" = none) (u:QA X [a,b] v n):QJ X (.Call (.Name "range" p) [a,b] [] pos) (kK v):=⟨fun tg a5X s σ H R I hw=>by
 have d:=u.s
 rw [Wf,Vq,Wf,Vq] at d
 obtain ⟨Q,T,N,K,U,O,z,E,c,k⟩:=hw
 obtain ⟨⟨x,q⟩,B,c⟩:=Vj.mp c
 refine Ir h l u.h (by rw [fB d.1,fB d.2.1];rfl) (by rw [fB d.2.1];rfl) a5X s σ H R I ⟨Q,T,N,x,q,z,E,B,fun r Y w A y o=>?_⟩
 dsimp only at c
 split at c
 ·rename_i i j
  split at c
  ·rename_i G
   cases c
   cases o with
   | cons o L=>
    cases o
    cases L with
    | cons J M=>
     cases J
     cases M
     exact ⟨i,j,rfl,G,k r w _ A y B4⟩
  ·cases c
 ·cases c⟩
noncomputable def cQ (c:MI)(g:MG)(b:MS):MS:=fun a d=>(c a d).bind fun p=>eZ p.1 g b p.2.1 0 a p.2.2
end
noncomputable def iI (d:BD)(h:MI)(c:MT)(e:ME):ME:=fun b i=>(h b i).bind fun p=>
 (f9 p.1 d c e b p.2.2.length p.2.1 0 (p.2.2++[.lst []])).map fun a=>(.loc p.2.2.length,a)
noncomputable abbrev eQ (a:MI)(c:MT)(e:ME):ME:=iI pW a c e
noncomputable def gB (n:Nat)(a:BD):MG:=fun d c b=>(a d b).map fun x=>c.take n++x
theorem Ms {X:Cx}{n:Nat}{x:Str}{j:W4}(l:X.N.length=n+1)(h:PG X (.Name x j) (f6 X.K (dF n))):PG X (.Name x j) (f6 X.K (gB n pW)):=by
 intro b s y H v u Q I r hw
 obtain ⟨q,a,p,d,w,R,E,hd,m,k⟩:=hw
 cases m
 refine h b s y H v u Q I r ⟨q,a,p,d,_,R,E,hd,rfl,fun c i=>k c ?_⟩
 have o:a.length=n+1:=by rw [<- E.len,I.len,l]
 have e:a.set n (some d)=a.take n++[some d]:=by
  rw [List.set_eq_take_append_cons_drop,if_pos (by omega),List.drop_of_length_le (by omega)]
 rw [e] at i
 exact i
theorem Cp:∀ (xs:List D)(a b:aH),b.length=xs.length->lT (a++b) (ZN a.length xs.length) xs=a++xs.map some
 | [],a,[],_=>by simp [lT]
 | x::xs,a,y::b,h=>by
  have c:=Cp xs (a++[some x]) b (by simpa using h)
  rw [V1,ZZ]
  show lT ((a++y::b).set a.length (some x)) (ZN (a.length+1) xs.length) xs=_
  rw [a0f _ _ (Vv _),Nat.sub_self,Vs]
  rw [VR,a0g] at c
  rw [a3I,List.singleton_append] at c
  rw [c]
  simp
theorem Mt {X:Cx}{n k:Nat}{tg:Expr}(w:X.N.length=n+k)(h:PG X tg (f6 X.K (cX (ZN n k)))):PG X tg (f6 X.K (gB n (pX k))):=by
 intro b s K H v u Q I r hw
 obtain ⟨G,a,B,d,J,R,E,hd,x,A⟩:=hw
 obtain ⟨y,o,p⟩:=Vn.mp x
 obtain ⟨m,q,c⟩:=Vj.mp o
 split at c
 ·rename_i l
  cases c
  subst p
  have z:a.length=n+k:=by rw [<- E.len,I.len,w]
  refine h b s K H v u Q I r ⟨G,a,B,d,lT a (ZN n k) m,R,E,hd,(by simp only [cX,q,VJ,List.length_range',if_pos l]),fun i j=>A i ?_⟩
  have e:=Cp m (a.take n) (a.drop n) (by rw [Z0];omega)
  rw [a2H,XY,a1F (by omega),l] at e
  rw [e] at j
  exact j
 ·cases c
section
variable {X:Cx}{scope:X1}{cl:List (Str×Addr)}{xs:List Str}{tg elt iter:Expr}{ifs:List Expr}{pos ppos:W4}{mi:MI}{me:ME}{mc:MT}{bd:BD}
theorem Mu {K:Vk}{π:Nat->Addr}{n:Nat}{H:Hp}{σ:St}{b o:aH}{k:Nat}(E:En K π n H σ (b++o))(c:o.length=k):En K π n H σ (b++VW k none):=by
 refine ⟨by rw [E.len,VR,VR,XD,c],fun i d q=>?_⟩
 by_cases a:i<b.length
 ·rw [We a] at q
  exact E.get i d (by rw [We a];exact q)
 ·rw [Xh (Yx.mp a),XZ] at q
  split at q<;>cases q
theorem Cq (O:CompOk X scope cl xs)(hcalm:X.calm=true)(hi:PI X tg iter (jO X.K mi))(hb':∀ d μ z,bd d μ=some z->z.length=xs.length)(hg:∀ C s₀ H₀ G,PG (c7 X scope cl C (bM xs X.N++xs) s₀ H₀ G) tg (f6 X.K (gB X.N.length bd)))
  (hc:∀ C s₀ H₀ G,nE (c7 X scope cl C (bM xs X.N++xs) s₀ H₀ G) ifs mc)(he:∀ C s₀ H₀ G,PE (c7 X scope cl C (bM xs X.N++xs) s₀ H₀ G) elt (tM X.K me))
  (hs:∀ x,Y8 iter X.env x=pure x){use:Option (Value->a4W Unit)}{QQ:Value->Vp->Prop}{a5X:List (Addr×WY)}{s:Vp}{σ:St}{H:Hp}{π:Nat->Addr}{Y:aH}{μ Z:Hm}{d:D}
  (I:Inv X a5X σ H s)(R:Rp X.K π H μ)(E:En X.K π μ.length H σ Y)(hm:iI bd mi mc me Y μ=some (d,Z))
  (fin:∀ (p C:Addr)(l:Nat->Addr)(H':Hp)(s':Vp),Ext π μ.length H l Z.length H'->Rp X.K l H' Z->IsD X.K l Z.length H' (.ref p) d->(∃ m,s'.heap.Ns C m)->X.s₀.heap.objs.size<=C->C≠X.env.locals->H' C=none->
   (∀ y c,X.env.cells.lookup y=some c->c≠C)->(∀ q∈X.pn++a5X,q.1≠C)->(∀ h',(∀ b o,b≠C->s'.heap.get? b=some o->h'.get? b=some o)->Inv X a5X σ H' { s' with heap:=h' })->
   compPost (VM X.prog X.w) X.A X.xe use QQ (.ref p) C (.ok .next) s') :
  VD (VM X.prog X.w) X.A (comprehension (.ListComp elt [⟨tg,iter,ifs,0⟩] scope pos) scope X.env ppos (newList []) false (eval iter X.env) use) QQ X.xe s:=by
 obtain ⟨⟨src,nt,a⟩,h1,hm⟩:=Vj.mp hm
 obtain ⟨μ2,h3,hm⟩:=Vn.mp hm
 cases hm
 have hit:VD (VM X.prog X.w) X.A (eval iter X.env) (fun v s1=>VD (VM X.prog X.w) X.A (a2z v) (rQ X a5X σ tg fun J H1=>∃ π1,Ext π μ.length H π1 a.length H1/\Rp X.K π1 H1 a/\Wk X.K J src π1 a.length H1) X.xe s1) X.xe s:=
  hi a5X s σ H _ I ⟨π,Y,μ,src,nt,a,R,E,h1,fun π1 H1 J e1 R1 W=>⟨π1,e1,R1,W⟩⟩
 refine wpAny_comprehension_free rfl hs O.clos O.kind O.names (Wa hit (fun v s1 hv=>Wa hv (fun itv B h4=>?_) fun _ _ z=>z) fun _ _ z=>z)
 obtain ⟨it,G,tn,J,H2,rfl,I2,T,st2,f2,π1,e1,R1,W⟩:=h4
 refine W7 (wpAny_newFunctionEnv O.nocell (by intro y hy;simp at hy) (fun h₁ L M=>?_) O.kind)
 dsimp only at L M ⊢
 have hfr:H2 B.heap.objs.size=none:=I2.hok.fresh (Vv _)
 have I3:Inv X a5X σ (aK H2 B.heap.objs.size (.lst [])) { B with heap:=B.heap.push { cls:=.type "list",dict:=none,data:=.seq ([]:List Value).toArray } }:=
  I2.laid (t':=B.toks) (fun b u e=>Vo _ e) (Vv _) ⟨Wn _,[],0,.nil,VC _ rfl⟩
 obtain ⟨e2,R2,q2⟩:=R1.alloc (c:=.lst []) (o:=.lst []) hfr .nil
 generalize hs3:({ B with heap:=B.heap.push { cls:=.type "list",dict:=none,data:=.seq ([]:List Value).toArray } }:Vp)=s3 at I3
 have K:B.heap.push { cls:=.type "list",dict:=none,data:=.seq ([]:List Value).toArray } = s3.heap:=by rw [<- hs3]
 have e12:=e1.trans e2
 generalize hH3:aK H2 B.heap.objs.size (.lst [])=H3 at I3 e2 R2 e12
 generalize hπ3:gT π1 a.length B.heap.objs.size=π3 at e2 R2 q2 e12
 have hob:∀ b∈G,∃ o,s3.heap.get? b=some o:=fun b A=>by
  obtain ⟨o,ho,_⟩:=T.obj 0 _ st2 b A
  exact ⟨o,by rw [<- K];exact Vo _ ho⟩
 have f3:∀ b∈G,fH X a5X H3 b:=fun b A=>by
  obtain ⟨o,ho,_⟩:=T.obj 0 _ st2 b A
  refine ⟨?_,(f2 b A).2⟩
  rw [<- hH3,a8 (VB (Vu ho))]
  exact (f2 b A).1
 have st3:tn 0 s3.heap:=T.keep 0 _ _ st2 fun b A o e=>by rw [<- K];exact Vo _ e
 have hC:(B.heap.push { cls:=.type "list",dict:=none,data:=.seq ([]:List Value).toArray }).objs.size=s3.heap.objs.size:=by rw [K]
 rw [K] at L M
 have hk1:∀ b o,s3.heap.get? b=some o->h₁.get? b=some o:=fun b o e=>M.extBut b o (VB (Vu e)) (Vo _ e)
 have E3:En X.K π3 (a++[C.lst []]).length H3 (σ++VW xs.length none) (Y++VW xs.length none):=by
  have E':=E.mono e12
  refine ⟨by rw [VR,VR,E'.len,XD,XD],fun i d' q=>?_⟩
  by_cases hi:i<Y.length
  ·rw [We hi] at q
   obtain ⟨v,h5,h6⟩:=E'.get i d' q
   exact ⟨v,by rw [We (by rw [E'.len];exact hi)];exact h5,h6⟩
  ·rw [Xh (Yx.mp hi),XZ] at q
   split at q<;>cases q
 have hlen:Y.length=X.N.length:=by rw [<- E.len];exact I.len
 have stat:∀ {H':Hp}{pl:List (Addr×WY)},(∀ b∈G,H' b=none)->pl=[]->∀ b∈G,fH (c7 X scope cl s3.heap.objs.size (bM xs X.N++xs) s3 H3 G) pl H' b:=fun {H' pl} hn hpl b A=>by
  obtain ⟨f0,f1,f2',f3',f4,f5⟩:=f3 b A
  obtain ⟨o,ho⟩:=hob b A
  refine ⟨hn b A,VB (Vu ho),fun z=>?_,.inl A,fun y c h=>f4 y c (O.sub y c h),fun p hp=>?_⟩
  ·rcases VP.mp (I3.stkSub b z) with z|z
   ·exact f1 z
   ·exact f2' z
  ·subst hpl
   exact absurd (show p∈([]:List (Addr×WY)) from hp) (by simp)
 have loop:∀ s4:Vp,(∃ tk,s4 = { s3 with heap:=h₁,toks:=tk })->
   ZM (VM X.prog X.w) X.A (.compLoop (.ListComp elt [⟨tg,iter,ifs,0⟩] scope pos) 0 (.ref it) (.ref B.heap.objs.size) (Y9 scope cl s3.heap.objs.size X.env))
    (compPost (VM X.prog X.w) X.A X.xe use QQ (.ref B.heap.objs.size) s3.heap.objs.size) s4:=by
  rintro s4 ⟨tk,rfl⟩
  have I4:=O.inv (tk:=tk) I3 f3 hob L hk1
  refine K5 (fun n s'=>∃ i U H' l N o,Inv (c7 X scope cl s3.heap.objs.size (bM xs X.N++xs) s3 H3 G) [] U H' s'/\tn i s'.heap/\(∀ b∈G,H' b=none)/\Ext π3 (a++[C.lst []]).length H3 l N.length H'/\Rp X.K l H' N /\
   En X.K l N.length H' U (Y++o)/\o.length=xs.length/\f9 src bd mc me Y a.length n i N=some Z) ?_ nt
   ⟨0,_,H3,π3,a++[C.lst []],VW xs.length none,I4,T.keep 0 _ _ st3 fun b A o e=>hk1 b o e,fun b A=>(f3 b A).1,.refl,R2,E3,XD,h3⟩
  rintro n s5 ⟨i,σ5,H5,Q,μ5,o5,I5,st5,fr5,e5,R5,E5,l5,g5⟩
  cases n with
  | zero=>cases g5
  | succ n=>
   obtain ⟨o,h6,h7⟩:=Vj.mp g5
   cases o with
   | none=>
    cases h7
    have stop:=W.stop Q _ H5 i (e2.trans e5) R5 h6
    refine Wa (T.done (c7 X scope cl s3.heap.objs.size (bM xs X.N++xs) s3 H3 G) rfl rfl rfl hcalm i [] s5 σ5 H5 (fun _ _=>False) I5 (stat fr5 rfl) st5 stop) (fun r s6 ⟨hr,I6⟩=>?_) fun _ _ z=>z
    subst hr
    obtain ⟨m6,hn6,_⟩:=id I6.loc
    have hp:Q a.length=B.heap.objs.size:=by rw [e5.pi a.length (by simp),q2]
    refine fin B.heap.objs.size s3.heap.objs.size Q H5 s6 (e12.trans e5) R5 ?_ ⟨m6,hn6⟩ I3.sz (WB (VB I3.lt)) I6.free (fun y c hc z=>?_) (fun q hq z=>?_) fun h' hh=>CompOk.back I3 f3 I6 hh
    ·rw [<- hp]
     exact .loc (VL (by simp) e5.le)
    ·obtain ⟨v,o,ho,_⟩:=I3.cell y c hc
     exact VB (Vu ho) z
    ·exact VB (Vu (I3.pin q hq).1) z
   | some d=>
    obtain ⟨z,hz,h7⟩:=Vj.mp h7
    obtain ⟨⟨b,μ6⟩,h8,h9⟩:=Vj.mp h7
    obtain ⟨g1,g2⟩:=W.go Q μ5 H5 i d (e2.trans e5) R5 h6
    refine Wa (T.item (c7 X scope cl s3.heap.objs.size (bM xs X.N++xs) s3 H3 G) rfl rfl rfl hcalm i [] s5 σ5 H5 (fun _ _=>False) I5 (stat fr5 rfl) st5 g1) (fun r s6 ⟨u,hr,h10⟩=>?_) fun _ _ z=>z
    subst hr
    refine Wa h10 (fun _ s7 ⟨v,H7,I7,r7,y7,st7,fr7⟩=>?_) fun _ _ z=>z
    obtain ⟨e7,R7,hd⟩:=g2 v H7 y7
    have I7':=I7.pinned (stat fr7 rfl) (T.obj _ _ st7)
    have e5:=e5.trans e7
    refine Wa (hg _ _ _ _ _ s7 σ5 H7 v u (fun U H'=>En X.K Q μ5.length H7 U (Y++z)/\H'=H7) I7' r7
     ⟨Q,Y++VW xs.length none,μ5,d,Y++z,R7,Mu (E5.mono e7) l5,hd,(by
      show (bd d μ5).map (fun x=>(Y++VW xs.length none).take X.N.length++x)=_
      rw [hz,<- hlen,List.take_left]
      rfl),fun U E'=>⟨E',rfl⟩⟩) (fun _ s8 ⟨σ8,H8,I8,E8,z2⟩=>?_) fun _ _ z=>z
    subst z2
    have again:∀ {s9:Vp}{H9:Hp}{j:Nat->Addr}{μ9:Hm},Inv (c7 X scope cl s3.heap.objs.size (bM xs X.N++xs) s3 H3 G) ([]++pO G s7.heap) σ8 H9 s9->Ext π3 (a++[C.lst []]).length H3 j μ9.length H9->Rp X.K j H9 μ9->
      En X.K j μ9.length H9 σ8 (Y++z)->f9 src bd mc me Y a.length n (i+1) μ9=some Z->
      ∃ m,m<n+1/\∃ i U H' l N o,Inv (c7 X scope cl s3.heap.objs.size (bM xs X.N++xs) s3 H3 G) [] U H' s9/\tn i s9.heap/\(∀ b∈G,H' b=none)/\Ext π3 (a++[C.lst []]).length H3 l N.length H'/\Rp X.K l H' N /\
       En X.K l N.length H' U (Y++o)/\o.length=xs.length/\f9 src bd mc me Y a.length m i N=some Z:=fun {s9 H9 j μ9} I9 e9 R9 E9 g9=>by
     refine ⟨n,YD _,i+1,_,H9,j,μ9,z,I9.unpinned,T.keep _ _ _ st7 fun b A o e=>(I9.pin (b,o) (WI _ (WI _ (rR A e)))).1,fun b A=>?_,e9,R9,E9,hb' _ _ _ hz,g9⟩
     obtain ⟨o,e,_⟩:=T.obj _ _ st7 b A
     exact (I9.pin (b,o) (WI _ (WI _ (rR A e)))).2.1
    refine Wa (hc _ _ _ _ _ s8 _ H8 (fun b' H'=>∃ j,b'=b/\Ext Q μ5.length H8 j μ6.length H'/\Rp X.K j H' μ6) I8 ⟨Q,_,μ5,b,μ6,R7,E8,h8,fun j H9 e9 R9=>⟨j,rfl,e9,R9⟩⟩) (fun ok s9 ⟨H9,I9,j,A,e9,R9⟩=>?_) fun _ _ z=>z
    subst A
    cases ok with
    | false=>
     rw [if_neg V7]
     exact again I9 (e5.trans e9) R9 (E8.mono e9) h9
    | true=>
     rw [if_pos rfl]
     obtain ⟨⟨dy,μ7⟩,h11,h12⟩:=Vj.mp h9
     obtain ⟨μ8,h13,h14⟩:=Vj.mp h12
     refine Wa (he _ _ _ _ _ s9 _ H9 (fun y H'=>∃ w,Ext j μ6.length H9 w μ7.length H'/\Rp X.K w H' μ7/\IsD X.K w μ7.length H' y dy) I9 ⟨j,_,μ6,dy,μ7,R9,E8.mono e9,h11,fun w y H10 e10 R10 i10=>⟨w,e10,R10,i10⟩⟩)
      (fun u' s10 ⟨y,H10,I10,ry,w,e10,R10,i10⟩=>?_) fun _ _ z=>z
     unfold nD at h13
     split at h13
     ·rename_i zs hz
      split at h13
      ·rename_i hl
       cases h13
       obtain ⟨vs,h15,h16⟩:=R10.lst _ zs hz
       have eall:=(e5.trans e9).trans e10
       have hp:w a.length=B.heap.objs.size:=by rw [eall.pi a.length (by simp),q2]
       obtain ⟨e11,R11⟩:=R10.put (a:=a.length) (c:=.lst (zs++[dy])) (o:=.lst (vs++[y])) (Vx.mp hz).1 h15 (.inl ⟨vs,rfl⟩) (h16.append (.cons i10 .nil))
       rw [hp] at h15 e11 R11
       refine Wa (Br (X:=c7 X scope cl s3.heap.objs.size (bM xs X.N++xs) s3 H3 G) _ s10 _ H10 (.ref B.heap.objs.size) [y] (.ref B.heap.objs.size) [u'] (fun _ H'=>H'=aK H10 B.heap.objs.size (.lst (vs++[y]))) I10 rfl (.cons ry .nil)
        ⟨B.heap.objs.size,vs,y,rfl,rfl,h15,by rw [h16.length];exact hl,rfl⟩) (fun _ s11 ⟨_,H11,I11,_,z⟩=>?_) fun _ _ z=>z
       subst z
       exact again I11 (eall.trans e11) R11 ((E8.mono (e9.trans e10)).mono e11) h14
      ·cases h13
     ·cases h13
 have l4:=loop { s3 with heap:=h₁,toks:=B.toks+([]:List (Str×Value)).length } ⟨_,rfl⟩
 have hst4:tn 0 h₁:=T.keep 0 _ _ st3 fun b A o e=>hk1 b o e
 subst hs3
 exact codeAny_compStart_list l4 (T.self _ 0 _ _ _ hst4 l4)
theorem Mv (O:CompOk X scope cl xs)(a:X.calm=true)(K:PI X tg iter (jO X.K mi))(h:∀ d u z,bd d u=some z->z.length=xs.length)(J:∀ C s₀ H₀ c,PG (c7 X scope cl C (bM xs X.N++xs) s₀ H₀ c) tg (f6 X.K (gB X.N.length bd)))
  (hc:∀ C s₀ H₀ c,nE (c7 X scope cl C (bM xs X.N++xs) s₀ H₀ c) ifs mc)(G:∀ C s₀ H₀ c,PE (c7 X scope cl C (bM xs X.N++xs) s₀ H₀ c) elt (tM X.K me))
  (T:∀ x,Y8 iter X.env x=pure x):PE X (.ListComp elt [⟨tg,iter,ifs,0⟩] scope pos) (tM X.K (iI bd mi mc me)):=by
 intro w s σ H Q I hw
 obtain ⟨π,ρ,u,d,μ',R,E,L,k⟩:=hw
 rw [eval_ListComp]
 refine Cq (use:=none) O a K h J hc G T I R E L fun p C l n s' y v Y j U N i q r back=>?_
 obtain ⟨m,M⟩:=j
 exact ⟨m,M,fun A Z=>⟨.ref p,n,back A (fun b o B e=>(Z.2 b B).trans e),rfl,k l _ n y v Y⟩⟩
theorem Mw {i:Nat}{y:Str}{py h:W4}(O:CompOk X scope cl xs)(hN:X.N.Nodup)(j:X.calm=true)(hi:PI X tg iter (jO X.K mi))(G:∀ d Z z,bd d Z=some z->z.length=xs.length)(hg:∀ C s₀ H₀ q,PG (c7 X scope cl C (bM xs X.N++xs) s₀ H₀ q) tg (f6 X.K (gB X.N.length bd)))
  (hc:∀ C s₀ H₀ q,nE (c7 X scope cl C (bM xs X.N++xs) s₀ H₀ q) ifs mc)(he:∀ C s₀ H₀ q,PE (c7 X scope cl C (bM xs X.N++xs) s₀ H₀ q) elt (tM X.K me))
  (hs:∀ x,Y8 iter X.env x=pure x)(hy:X.N[i]? = some y)(Y:X.env.scope.names.lookup y=some .local)
  (L:ZQ (.ListComp elt [⟨tg,iter,ifs,0⟩] scope pos) (some (.Name y py)) h.line X.env=pure true) :
  PS X (.Assign [.Name y py] (.ListComp elt [⟨tg,iter,ifs,0⟩] scope pos) h) (dN X.K (aR i (iI bd mi mc me))):=by
 intro n s σ H EN I hw
 obtain ⟨π,ρ,Z,fl,ρ',μ',R,E,J,k⟩:=hw
 obtain ⟨⟨d,μ1⟩,h1,J⟩:=Vn.mp J
 cases J
 rw [exec_Assign_Name_used _ _ _ _ L]
 refine Vl (Z9 ?_)
 refine Vl (Vl ?_)
 refine Cq (use:=some (a1m (.Name y py) X.env)) (QQ:=fun _ v=>VD (VM X.prog X.w) X.A (pure ()) (fun _ N=>VD (VM X.prog X.w) X.A (pure Flow.next) (SP X n EN) X.xe N) X.xe v) O j hi G hg hc he hs I R E h1 fun p C T w v U R1 i1 K M r l c u back=>?_
 obtain ⟨m,hn⟩:=K
 have I1:Inv X n σ w v:=back v.heap fun b o _ e=>e
 show VD (VM X.prog X.w) X.A (a1m (.Name y py) X.env (.ref p)) _ X.xe v
 refine a4G ?_
 refine rO I1 hN hy (.inl Y) (show RelV (.ref p) (.ref p) from rfl) (fun s2 I2 ⟨a,sb,B⟩=>?_) (.inr Y)
 have A:C≠a:=by
  rcases B with rfl|B
  ·exact r
  ·exact WB (c _ _ B)
 refine ⟨m,hn.sameBut sb A,fun h' Q=>Vr (Vr ?_)⟩
 refine ⟨σ.set i (some (.ref p)),w,I2.turned (t':=s2.toks) (fun b o hb e=>(Q.2 b hb).trans e) l r (.inr M) c u,?_⟩
 exact k T _ w U R1 ((E.mono U).set i1 i)
end
end L3
namespace L3
open PySem L2
noncomputable def bS:ME:=fun _ _=>none
noncomputable def lX:MT:=fun _ _=>none
noncomputable def cJ:MS:=fun _ _=>none
section
variable {X:Cx}{e a b c o:Expr}{m m1 m2 ma mb mc:ME}{pos:W4}{mt mu:MT}{rest es:List Expr}{ms:MA}{n:Nat}
theorem bW:QE X e bS:=⟨fun a5X s σ H Q I h=>by
 obtain ⟨p,q,l,d,j,R,E,i,k⟩:=h
 cases i⟩
theorem xB:QT X e lX:=⟨fun a5X s σ H Q I h=>by
 obtain ⟨p,q,l,d,j,R,E,i,k⟩:=h
 cases i⟩
theorem Mx:QW X e lX:=⟨fun l a5X s σ H Q I h=>by
 obtain ⟨q,r,p,d,j,R,E,i,k⟩:=h
 cases i⟩
theorem c9 {st:Stmt}:QS X st cJ:=⟨fun a5X s σ H D I h=>by
 obtain ⟨q,r,p,l,j,i,R,E,d,k⟩:=h
 cases d⟩
theorem sM {g:MG}(p:∀ d l j,g d l j=none):QG X e g:=⟨fun a5X s σ H v u Q I r h=>by
 obtain ⟨w,l,j,d,q,R,E,hd,i,k⟩:=h
 rw [p] at i
 cases i⟩
theorem lY (h1:QE X e m1)(u:QE X e m2)(h:∀ j i r,m j i=some r->m1 j i=some r\/m2 j i=some r):QE X e m:=⟨fun a5X s σ H Q I q=>by
 obtain ⟨p,j,i,d,l,R,E,v,k⟩:=q
 rcases h j i _ v with z|z
 ·exact h1.h a5X s σ H Q I ⟨p,j,i,d,l,R,E,z,k⟩
 ·exact u.h a5X s σ H Q I ⟨p,j,i,d,l,R,E,z,k⟩⟩
theorem nJ {m m1 m2:MT}(h1:QT X e m1)(u:QT X e m2)(h:∀ j i r,m j i=some r->m1 j i=some r\/m2 j i=some r):QT X e m:=⟨fun a5X s σ H Q I q=>by
 obtain ⟨p,j,i,d,l,R,E,v,k⟩:=q
 rcases h j i _ v with z|z
 ·exact h1.h a5X s σ H Q I ⟨p,j,i,d,l,R,E,z,k⟩
 ·exact u.h a5X s σ H Q I ⟨p,j,i,d,l,R,E,z,k⟩⟩
theorem gD {f l s:D->D->Hm->Option (D×Hm)}(h:∀ x y d r,f x y d=some r->l x y d=some r\/s x y d=some r) :
  ∀ j d r,aB f ma mb j d=some r->aB l ma mb j d=some r\/aB s ma mb j d=some r:=by
 intro j d r i
 obtain ⟨p,u,i⟩:=Vj.mp i
 obtain ⟨q,v,i⟩:=Vj.mp i
 rcases h _ _ _ _ i with z|z
 ·exact .inl (Vj.mpr ⟨p,u,Vj.mpr ⟨q,v,z⟩⟩)
 ·exact .inr (Vj.mpr ⟨p,u,Vj.mpr ⟨q,v,z⟩⟩)
theorem nK (h:∀ i d r,m i d=some r->m1 i d=some r\/m2 i d=some r):∀ i d r,aO m i d=some r->aO m1 i d=some r\/aO m2 i d=some r:=by
 intro i d r j
 obtain ⟨p,l,j⟩:=Vj.mp j
 rcases h _ _ _ l with z|z
 ·exact .inl (Vj.mpr ⟨p,z,j⟩)
 ·exact .inr (Vj.mpr ⟨p,z,j⟩)
noncomputable def kL:List D->Option (List Int)
 | []=>some []
 | .int i::r=>(kL r).map (i::·)
 | _=>none
noncomputable def eH:D->Option (List Int)
 | .tup ds=>kL ds
 | _=>none
noncomputable def bN (kvs:List (List Int×D))(k:List Int):Option D:=(kvs.find? fun p=>decide (p.1=k)).map (·.2)
noncomputable def dA (kvs:List (List Int×D))(k:List Int)(d:D):List (List Int×D):=if (bN kvs k).isSome then kvs.map (fun p=>if p.1=k then (p.1,d) else p) else kvs++[(k,d)]
noncomputable def aJ:D->D->Hm->Option (D×Hm):=fun x y h=>match x with
 | .loc a=>match h[a]? with
  | some (.dT kvs)=>(eH y).bind fun k=>(bN kvs k).map fun d=>(d,h)
  | _=>fK x y h
 | _=>fK x y h
structure TabOk (X:Cx)(x:Str)(kvs:List (a9×D)):Prop where
 ex:∃ (p:Addr)(vs:List (a9×V))(ws:List (a9×Value)),X.mg x=some (.ref p)/\(∀ h:Wj,X.K.In h->h.DictOf (lJ X.prog X.w) p ws)/\KV vs ws/\∀ π n H,IsKs X.K π n H vs kvs
theorem Cr {a5X:List (Addr×WY)}{σ:St}{H:Hp}{s:Vp}(I:Inv X a5X σ H s){p:Addr}{d:WY}(h:X.K.lookup p=some d):H p=none:=(I.bs p d (I.mod.kin p d h)).2
theorem Ct {K:Vk}{π:Nat->Addr}{H:Hp}{p:Hm}(R:Rp K π H p){d:Nat}(u:d<p.length):(∃ vs,H (π d)=some (.lst vs))\/(∃ vs,H (π d)=some (.dK vs))\/(∃ j,H (π d)=some (.ext j))\/∃ l j,H (π d)=some (.frz l (.ext j)):=by
 cases q:p[d]? with
 | none=>exact absurd (WC.mp q) (by omega)
 | some r=>
  cases r with
  | lst i=>obtain ⟨vs,h,_⟩:=R.lst d i q;exact .inl ⟨vs,h⟩
  | dK i=>obtain ⟨vs,h,_⟩:=R.dK d i q;exact .inr (.inl ⟨vs,h⟩)
  | st i=>obtain ⟨vs,h,_⟩:=R.st d i q;exact .inr (.inr (.inl ⟨_,h⟩))
  | dT i=>obtain ⟨vs,h,_⟩:=R.dT d i q;exact .inr (.inr (.inl ⟨_,h⟩))
  | exc x s ds=>obtain ⟨l,j,h,_⟩:=R.exc d x s ds q;exact .inr (.inr (.inr ⟨l,_,h⟩))
section
variable {a5X:List (Addr×WY)}{σ:St}{H:Hp}{s:Vp}{π:Nat->Addr}{μ:Hm}
theorem Cu (I:Inv X a5X σ H s)(R:Rp X.K π H μ){i:Nat}(j:i<μ.length){vs:List V}(h:SqT X.K H (π i) vs):False:=by
 have hc:=Ct R j
 rcases h with h|h
 ·rcases h with h|⟨q,h⟩<;>rcases hc with ⟨d,z⟩|⟨d,z⟩|⟨d,z⟩|⟨_,d,z⟩<;>(rw [h] at z;cases z)
 ·obtain ⟨q,p,n,l,_⟩:=h
  have:=Cr I l
  rcases hc with ⟨d,z⟩|⟨d,z⟩|⟨d,z⟩|⟨_,d,z⟩<;>(rw [this] at z;cases z)
theorem Cv (I:Inv X a5X σ H s)(R:Rp X.K π H μ){i:Nat}(j:i<μ.length){vs:List V}(h:RoL X.K H (π i) vs):False:=by
 have hc:=Ct R j
 rcases h with ⟨q,h⟩|h
 ·rcases hc with ⟨d,z⟩|⟨d,z⟩|⟨d,z⟩|⟨_,d,z⟩<;>(rw [h] at z;cases z)
 ·obtain ⟨q,p,n,l,_⟩:=h
  have:=Cr I l
  rcases hc with ⟨d,z⟩|⟨d,z⟩|⟨d,z⟩|⟨_,d,z⟩<;>(rw [this] at z;cases z)
theorem Cw (I:Inv X a5X σ H s){p:Addr}{vs ws:List V}(h:SqT X.K H p vs)(h':RoL X.K H p ws):False:=by
 obtain ⟨i,_,t,_⟩:=I.tuple h
 obtain ⟨d,_,l,_⟩:=I.list h'.sq
 exact absurd rfl (Xf l.isList t)
mutual
theorem xC (I:Inv X a5X σ H s)(R:Rp X.K π H μ){v:V}{d d':D}:IsD X.K π μ.length H v d->IsD X.K π μ.length H v d'->d=d'
 | .non,h'=>by cases h';rfl
 | .bl _,h'=>by cases h';rfl
 | .int _,h'=>by cases h';rfl
 | .str _,h'=>by cases h';rfl
 | .ty _,h'=>by cases h';rfl
 | .tup h t,h'=>by
  cases h' with
  | tup i j=>
   have:=I.tuple_inj h i
   subst this
   rw [xD I R t j]
  | rol i j=>exact (Cw I h i).elim
  | loc i=>exact (Cu I R i h).elim
 | .rol h t,h'=>by
  cases h' with
  | tup i j=>exact (Cw I i h).elim
  | rol i j=>
   have:=I.list_inj h.sq i.sq
   subst this
   rw [xD I R t j]
  | loc i=>exact (Cv I R i h).elim
 | .loc (a:=a1) ha,h'=>by
  generalize hz:V.ref (π a1)=z at h'
  cases h' with
  | tup i j=>cases hz;exact (Cu I R ha i).elim
  | rol i j=>cases hz;exact (Cv I R ha i).elim
  | loc i=>
   have:=R.inj _ _ ha i (V.ref.inj hz)
   rw [this]
  | _=>cases hz
theorem xD (I:Inv X a5X σ H s)(R:Rp X.K π H μ){vs:List V}{ds d:List D}:IsDs X.K π μ.length H vs ds->IsDs X.K π μ.length H vs d->ds=d
 | .nil,h'=>by cases h';rfl
 | .cons h t,h'=>by
  cases h' with
  | cons i j=>rw [xC I R h i,xD I R t j]
end
end
noncomputable def jR (a:Hm)(x:D):List D->Option Bool
 | []=>some false
 | y::r=>(cD 8 a y x).bind fun b=>(jR a x r).map fun c=>b||c
noncomputable def lZ (a:Bool):D->D->Hm->Option (D×Hm):=fun x y c=>(bF c y).bind fun d=>(jR c x d).map fun b=>(.bl (if a then !b else b),c)
noncomputable def xE (K:Vk)(c:Bool):R2:=fun x y H Q=>∃ π a d e h b,Rp K π H a/\IsD K π a.length H x d/\IsD K π a.length H y e/\bF a e=some h/\jR a d h=some b/\Q (.bl (if c then !b else b)) H
theorem sN {K:Vk}{c:Bool}:cS K (lZ c) (xE K c):=by
 intro e H q x y d n o p Q R j l a k
 obtain ⟨m,h,a⟩:=Vj.mp a
 obtain ⟨b,i,a⟩:=Vn.mp a
 cases a
 exact ⟨e,_,x,y,m,b,R,j,l,h,i,k e _ H .refl R (.bl _)⟩
theorem sO {a5X:List (Addr×WY)}{σ:St}{H:Hp}{s:Vp}{π:Nat->Addr}{i:Hm}(I:Inv X a5X σ H s)(R:Rp X.K π H i){A:VU}(U:A.units+8<WX){x:V}{v:Value}{n:D}(rx:RelV x v)(ix:IsD X.K π i.length H x n) :
  ∀ {e:List D}{vs:List V}{us:List Value}{b:Bool},IsDs X.K π i.length H vs e->Vals vs us->jR i n e=some b->
   ∃ g:Value->Bool,(∀ u∈us,Z4 A s u v (g u))/\us.any g=b:=by
 classical
 intro e vs us b l m d
 have p:∀ {e:List D}{vs:List V}{us:List Value}{b:Bool},IsDs X.K π i.length H vs e->Vals vs us->jR i n e=some b->(∀ u∈us,∃ c,Z4 A s u v c/\∃ w o,RelV w u/\IsD X.K π i.length H w o/\cD 8 i o n=some c):=by
  intro e
  induction e with
  | nil=>
   intro vs us b l m d u a
   cases l
   cases m
   cases a
  | cons y e K=>
   intro vs us b l m d u a
   cases l with
   | cons h t=>
    cases m with
    | cons r rt=>
     obtain ⟨c,E,d⟩:=Vj.mp d
     obtain ⟨O,G,d⟩:=Vn.mp d
     rcases VP.mp a with rfl|a
     ·exact ⟨c,r9 I R 8 U r rx h ix E,_,_,r,h,E⟩
     ·exact K t rt G u a
 have q:=p l m d
 refine ⟨fun u=>if h:u∈us then Ym (q u h) else false,fun u a=>?_,?_⟩
 ·simp only [dif_pos a]
  exact (YR (q u a)).1
 ·have L:∀ u (h:u∈us) w o c,RelV w u->IsD X.K π i.length H w o->cD 8 i o n=some c->Ym (q u h)=c:=by
   intro u h w o c M iw N
   obtain ⟨_,w2,Q,r2,Z,T⟩:=YR (q u h)
   have:w2=w:=r2.inj M
   subst this
   have:=xC I R Z iw
   subst this
   rw [T] at N
   exact VX N
  have B:∀ {e:List D}{vs:List V}{j:List Value}{b:Bool},(∀ u∈j,u∈us)->IsDs X.K π i.length H vs e->Vals vs j->jR i n e=some b->j.any (fun u=>if h:u∈us then Ym (q u h) else false)=b:=by
   intro e
   induction e with
   | nil=>
    intro vs j b J l m d
    cases l
    cases m
    cases d
    rfl
   | cons y e K=>
    intro vs j b J l m d
    cases l with
    | cons h t=>
     cases m with
     | @cons _ u _ us2 r rt=>
      obtain ⟨c,E,d⟩:=Vj.mp d
      obtain ⟨O,G,d⟩:=Vn.mp d
      have eT:u∈us:=J u (VO ..)
      rw [XQ,K (fun z Y=>J z (VI _ Y)) t rt G,dif_pos eT,L u eT _ _ c r h E]
      exact d
  exact B (fun _ h=>h) l m d
theorem sP {k:Nat}{A:VU}(r:Room k A):A.units+9<WX:=by have:=r.un;omega
theorem Cy (J:X.A.units+9<WX):OpR X (Wt .In) (xE X.K false):=by
 intro n s O H x y v u Q I m B h
 obtain ⟨N,M,E,G,L,b,R,l,A,o,j,q⟩:=h
 obtain ⟨p,K,rfl,c,hd⟩:=lU R A o
 cases B
 rcases c with c|c
 ·obtain ⟨a,r,i,z⟩:=I.list c
  obtain ⟨g,d,e⟩:=sO I R (A:=X.A.in1) (by rw [kI];omega) m l hd r j
  refine SeqAt.in_listAt g i.isList (fun w hw=>d w (by simpa using hw)) ⟨.bl _,H,I,rfl,?_⟩
  rw [show a.toArray.any g=a.any g by simp,e]
  exact q
 ·obtain ⟨a,r,i,z⟩:=I.tuple c
  obtain ⟨g,d,e⟩:=sO I R (A:=X.A.in1) (by rw [kI];omega) m l hd r j
  refine SeqAt.in_tupleAt g i (fun w hw=>d w (by simpa using hw)) ⟨.bl _,H,I,rfl,?_⟩
  rw [show a.toArray.any g=a.any g by simp,e]
  exact q
theorem Cz (J:X.A.units+9<WX):OpR X (Wt .NotIn) (xE X.K true):=by
 intro n s O H x y v u Q I m B h
 obtain ⟨N,M,E,G,L,b,R,l,A,o,j,q⟩:=h
 obtain ⟨p,K,rfl,c,hd⟩:=lU R A o
 cases B
 rcases c with c|c
 ·obtain ⟨a,r,i,z⟩:=I.list c
  obtain ⟨g,d,e⟩:=sO I R (A:=X.A.in1) (by rw [kI];omega) m l hd r j
  refine SeqAt.notIn_listAt g i.isList (fun w hw=>d w (by simpa using hw)) ⟨.bl _,H,I,rfl,?_⟩
  rw [show a.toArray.any g=a.any g by simp,e]
  exact q
 ·obtain ⟨a,r,i,z⟩:=I.tuple c
  obtain ⟨g,d,e⟩:=sO I R (A:=X.A.in1) (by rw [kI];omega) m l hd r j
  refine SeqAt.notIn_tupleAt g i (fun w hw=>d w (by simpa using hw)) ⟨.bl _,H,I,rfl,?_⟩
  rw [show a.toArray.any g=a.any g by simp,e]
  exact q
noncomputable def cT (b:Bool):D->D->Hm->Option (D×Hm)
 | .str i,.str j,μ=>some (.bl (if b then !(!(WW j i 0 j.length 1).isEmpty) else !(WW j i 0 j.length 1).isEmpty),μ)
 | x,.loc a,μ=>match μ[a]? with
  | some (.dT kvs)=>(eH x).map fun k=>(.bl (if b then !(bN kvs k).isSome else (bN kvs k).isSome),μ)
  | _=>lZ b x (.loc a) μ
 | x,y,μ=>lZ b x y μ
noncomputable def xF:D->D->Hm->Option (D×Hm)
 | .str i,.str j,μ=>some (.bl (!(!(WW j i 0 j.length 1).isEmpty)),μ)
 | _,_,_=>none
theorem CA {K:Vk}:cS K xF (fun x y H Q=>∃ i j,x=.str i/\y=.str j/\Q (.bl (!(!(WW j i 0 j.length 1).isEmpty))) H):=by
 intro h H n x y d e l m Q R b c a k
 unfold xF at a
 split at a
 ·cases a
  cases b
  cases c
  exact ⟨_,_,rfl,rfl,k h _ H .refl R (.bl _)⟩
 ·cases a
noncomputable def iZ (a:Bool):D->D->Hm->Option (D×Hm)
 | x,.non,μ=>some (.bl (match x with|.non=>!a|_=>a),μ)
 | _,_,_=>none
theorem CB {K:Vk}:cS K (iZ false) (fun x y H Q=>y=.non/\Q (.bl (decide (x=.non))) H):=by
 intro h H l x y d e i j Q R b c a k
 unfold iZ at a
 split at a
 ·cases a
  cases c
  refine ⟨rfl,?_⟩
  cases b<;>exact k h _ H .refl R (.bl _)
 ·cases a
theorem CC {K:Vk}:cS K (iZ true) (fun x y H Q=>y=.non/\Q (.bl (!decide (x=.non))) H):=by
 intro h H l x y d e i j Q R b c a k
 unfold iZ at a
 split at a
 ·cases a
  cases c
  refine ⟨rfl,?_⟩
  cases b<;>exact k h _ H .refl R (.bl _)
 ·cases a
theorem My (c:QE X a ma)(d:QE X b mb):QE X (.Compare a [.Is] [b] pos) (aB (iZ false) ma mb):=⟨eF AY CB c.h d.h (c6 _)⟩
theorem Mz (c:QE X a ma)(d:QE X b mb):QE X (.Compare a [.IsNot] [b] pos) (aB (iZ true) ma mb):=⟨eF AZ CC c.h d.h (c6 _)⟩
theorem MB (c:QE X a ma)(d:QE X b mb):QT X (.Compare a [.Is] [b] pos) (aO (aB (iZ false) ma mb)):=⟨eG AY CB c.h d.h (c6 _)⟩
theorem MC (c:QE X a ma)(d:QE X b mb):QT X (.Compare a [.IsNot] [b] pos) (aO (aB (iZ true) ma mb)):=⟨eG AZ CC c.h d.h (c6 _)⟩
end
end L3
namespace L3
open PySem L2
section
variable {X:Cx}{e a b c o:Expr}{m m1 m2 ma mb mc mo:ME}{pos apos cpos:W4}{mt mu:MT}{rest es:List Expr}{ms:MA}{n:Nat}
noncomputable def nM (d:Hm):D->Bool
 | .rol _=>true
 | .loc a=>match d[a]? with|some (.lst _)=>true|_=>false
 | _=>false
noncomputable def dG (f:D->List D->Hm->Option (D×Hm))(mo:ME)(ms:MA):ME:=fun d h=>(mo d h).bind fun p=>match nM p.2 p.1 with
 | true=>(ms d p.2).bind fun q=>f p.1 q.1 q.2
 | false=>none
noncomputable def iJ (K:Vk)(f:D->List D->Hm->Option (D×Hm))(r:V->List V->Hp->VK->Prop):Prop:=
 ∀ j H h x p d i v l Q,Rp K j H h->IsD K j h.length H v x->IsDs K j h.length H l p->f x p h=some (d,i)->KC K Q j h.length H d i->r v l H Q
theorem CD {K:Vk}{π:Nat->Addr}{H:Hp}{d:Hm}{v:V}{x:D}(R:Rp K π H d)(h:IsD K π d.length H v x)(e:nM d x=true):rX K "list" v H:=by
 cases h with
 | rol h t=>exact .inl ⟨rfl,_,h.sq⟩
 | @loc a q=>
  simp only [nM] at e
  split at e
  ·rename_i p j
   obtain ⟨l,i,_⟩:=R.lst a p j
   exact .inl ⟨rfl,l,.of i⟩
  ·cases e
 | _=>cases e
theorem MH {K:Vk}{f:D->List D->Hm->Option (D×Hm)}{r:V->List V->Hp->VK->Prop}(I:iJ K f r):∀ σ H Q,tM K (dG f mo ms) σ H Q->Bn K "list" r (tM K mo) (fJ K ms) σ H Q:=by
 rintro σ H Q ⟨T,z,O,d,l,R,E,h,k⟩
 obtain ⟨⟨x,i⟩,B,h⟩:=Vj.mp h
 dsimp only at h
 split at h
 ·rename_i J
  obtain ⟨⟨y,j⟩,G,h⟩:=Vj.mp h
  refine ⟨T,z,O,x,i,R,E,B,fun p M U u s w=>⟨CD s w J,p,z,i,y,j,s,E.mono u,G,fun q N A v R2 L=>?_⟩⟩
  exact I q A j x y d l M N Q R2 (w.mono v) L h (k.after (u.trans v))
 ·cases h
theorem MJ {K:Vk}{f:D->List D->Hm->Option (D×Hm)}{r:V->List V->Hp->VK->Prop}(y:iJ K f r):∀ σ H Q,tM K (dG f mo aD) σ H Q->Bm K "list" r (tM K mo) σ H Q:=by
 rintro σ H Q ⟨I,J,B,d,j,R,E,h,k⟩
 obtain ⟨⟨x,i⟩,v,h⟩:=Vj.mp h
 dsimp only at h
 split at h
 ·rename_i z
  obtain ⟨⟨L,G⟩,w,h⟩:=Vj.mp h
  cases w
  refine ⟨I,J,B,x,i,R,E,v,fun l A s u p q=>⟨CD p q z,?_⟩⟩
  exact y l s i x [] d j A [] Q p q .nil h (k.after u)
 ·cases h
noncomputable def i0:Expr->Bool
 | .Call (.Name _ _) [] [] _=>false
 | _=>true
theorem kM {o:Expr}{j:Str}{env:Z7}{d:a4W Value}(h:i0 o=true):Ys o j env d=d:=by
 cases o with
 | Call f i l p=>
  cases f with
  | Name id q=>
   cases i with
   | nil=>
    cases l with
    | nil=>cases h
    | cons _ _=>rfl
   | cons _ _=>rfl
  | _=>rfl
 | _=>rfl
theorem MK {e:Expr}{es:List Expr}{env:Z7}{cpos:W4}(h:(e::es).all c8=true)(j:(e::es).length<30) :
  ((Yi cpos (V5 (e::es) env)).all (fun x=>!x.1)&&(a2B cpos (a0F [] env)).all (fun x=>x.1.isSome)
   && decide ((e::es).length+([]:List Ze).length+(if ([]:List Ze).isEmpty then 0 else 1)<30))=true:=by
 have d:(Yi cpos (V5 (e::es) env)).all (fun x=>!x.1)=true:=by
  have:=lV (pos:=cpos) (env:=env) h
  rw [List.all_eq_not_any_not]
  simpa using this
 rw [d]
 have i:(e::es).length+([]:List Ze).length+(if ([]:List Ze).isEmpty then 0 else 1)<30:=by
  show (e::es).length+0+0<30
  omega
 rw [decide_eq_true i]
 rfl
theorem xG {f:D->List D->Hm->Option (D×Hm)}{r:V->List V->Hp->VK->Prop}{name:Str}{id:String}(slot:Slot "list" name id) (i:a3q (.builtin id)=pure (.type "method_descriptor")) (q:jJ X id r)(l:iJ X.K f r)
  (u:QE X o mo)(j:QA X (e::es) ms n)(v:i0 o=true)(p:(apos.endLine == cpos.line)=true)(s:(e::es).length<30):QE X (.Call (.Attribute o name apos) (e::es) [] cpos) (dG f mo ms):=by
 have h:=j.s
 have d:=h
 rw [Wf,Vq] at d
 exact ⟨cW (JE a1N slot i q u.h j.h (kM v) (MK h s) p (fB d.1) (lV d.2)) (MH l)⟩
theorem ML {f:D->List D->Hm->Option (D×Hm)}{r:V->List V->Hp->VK->Prop}{name:Str}{id:String}(slot:Slot "list" name id) (d:a3q (.builtin id)=pure (.type "method_descriptor")) (j:jJ X id r)(h:iJ X.K f r)
  (l:QE X o mo)(p:i0 o=true)(i:(apos.endLine == cpos.line)=true):QE X (.Call (.Attribute o name apos) [] [] cpos) (dG f mo aD):=
 ⟨cW (JD a1N slot d j l.h (kM p) i) (MJ h)⟩
noncomputable def eI:D->List D->Hm->Option (D×Hm)
 | .loc a,[y],μ=>(nD μ a y).map fun d=>(.non,d)
 | _,_,_=>none
noncomputable def nN:D->List D->Hm->Option (D×Hm)
 | .loc a,[.loc b],μ=>match μ[a]?,μ[b]? with
  | some (.lst xs),some (.lst ys)=>if xs.length+ys.length<=VA then some (.non,μ.set a (.lst (xs++ys))) else none
  | _,_=>none
 | _,_,_=>none
noncomputable def kN:D->List D->Hm->Option (D×Hm)
 | .loc a,[],μ=>match μ[a]? with
  | some (.lst xs)=>(xs[xs.length - 1]?).map fun y=>(y,μ.set a (.lst xs.dropLast))
  | _=>none
 | _,_,_=>none
theorem MM {K:Vk}{π:Nat->Addr}{n:Nat}{H:Hp}{vs:List V}{ds:List D}(h:IsDs K π n H vs ds):IsDs K π n H vs.dropLast ds.dropLast:=by
 rw [a2K,a2K,h.length]
 exact h.take _
theorem MN {K:Vk}:iJ K eI Bq:=by
 intro J H N x M d G v L Q R B j i k
 unfold eI at i
 split at i
 ·rename_i a y
  obtain ⟨I,h,i⟩:=Vn.mp i
  cases i
  unfold nD at h
  split at h
  ·rename_i s r
   split at h
   ·rename_i z
    cases h
    obtain ⟨l,p,q⟩:=R.lst a s r
    cases B
    cases j with
    | cons E A=>
     cases A
     obtain ⟨w,u⟩:=R.put (a:=a) (c:=.lst (s++[y])) (o:=.lst (l++[_])) (Vx.mp r).1 p (.inl ⟨l,rfl⟩) (q.append (.cons E .nil))
     exact ⟨_,l,_,rfl,rfl,p,by rw [q.length];exact z,k J _ _ w u .non⟩
   ·cases h
  ·cases h
 ·cases i
theorem MP {K:Vk}:iJ K nN Bs:=by
 intro M H T x O d L v N Q R I i h k
 unfold nN at h
 split at h
 ·rename_i a b
  split at h
  ·rename_i w u r E
   split at h
   ·rename_i B
    cases h
    obtain ⟨j,l,p⟩:=R.lst a w r
    obtain ⟨s,A,q⟩:=R.lst b u E
    cases I
    cases i with
    | cons J G=>
     cases G
     cases J
     obtain ⟨z,y⟩:=R.put (a:=a) (c:=.lst (w++u)) (o:=.lst (j++s)) (Vx.mp r).1 l (.inl ⟨j,rfl⟩) (p.append q)
     exact ⟨_,_,j,s,rfl,rfl,l,A,by rw [p.length,q.length];exact B,k M _ _ z y .non⟩
   ·cases h
  ·cases h
 ·cases h
theorem MQ {K:Vk}:iJ K kN Bt:=by
 intro I H M x L d G v J Q R E j h k
 unfold kN at h
 split at h
 ·rename_i a
  split at h
  ·rename_i s r
   obtain ⟨y,z,h⟩:=Vn.mp h
   cases h
   obtain ⟨l,q,i⟩:=R.lst a s r
   cases E
   cases j
   obtain ⟨w,A,B⟩:=i.get z
   obtain ⟨p,u⟩:=R.put (a:=a) (c:=.lst s.dropLast) (o:=.lst l.dropLast) (Vx.mp r).1 q (.inl ⟨l,rfl⟩) (MM i)
   refine ⟨_,l,w,rfl,rfl,q,by rw [i.length];exact A,k I w _ p u (B.mono p)⟩
  ·cases h
 ·cases h
noncomputable def kP (d:Hm):D->Option Bool
 | .non=>some false
 | .bl b=>some b
 | .int i=>some (i != 0)
 | .str z=>if z.length<=VA then some ((z.length:Int) != 0) else none
 | .tup xs=>some (!xs.isEmpty)
 | .rol xs=>some (!xs.isEmpty)
 | .loc a=>match d[a]? with|some (.lst xs)=>some (!xs.isEmpty)|some (.dK kvs)=>some (!kvs.isEmpty)|_=>none
 | .ty _=>none
theorem sQ {i j:Type}{xs:List i}{d:List j}(h:xs.length=d.length):xs.isEmpty=d.isEmpty:=by
 cases xs<;>cases d<;>first|rfl|cases h
theorem MU {K:Vk}{π:Nat->Addr}{H:Hp}{r:Hm}{v:V}{x:D}{b:Bool}(R:Rp K π H r)(h:IsD K π r.length H v x)(e:kP r x=some b):vY K v H b:=by
 cases h with
 | non=>cases e;rfl
 | bl c=>cases e;rfl
 | int i=>cases e;rfl
 | str z=>
  simp only [kP] at e
  split at e
  ·rename_i s;cases e;exact ⟨s,rfl⟩
  ·cases e
 | tup h t=>cases e;exact .inr (.inl ⟨_,h,by rw [sQ t.length]⟩)
 | rol h t=>cases e;exact .inl ⟨_,h.sq,by rw [sQ t.length]⟩
 | @loc a w=>
  simp only [kP] at e
  split at e
  ·rename_i u l
   cases e
   obtain ⟨q,d,j⟩:=R.lst a u l
   exact .inl ⟨q,.of d,by rw [sQ j.length]⟩
  ·rename_i p l
   cases e
   obtain ⟨q,d,j,_⟩:=R.dK a p l
   refine .inr (.inr ⟨q,d,?_⟩)
   have:=congrArg Wm j
   rw [Vm,Vm] at this
   rw [sQ this]
  ·cases e
 | ty n=>cases e
noncomputable def eJ (m:ME):MT:=fun h d=>(m h d).bind fun p=>(kP p.2 p.1).map fun b=>(b,p.2)
theorem MV (h:QE X e m)(s:w8 e=true):QT X e (eJ m):=⟨r0 (IL h.h (L1 s)) (by
 rintro I H Q ⟨z,A,v,b,w,R,E,d,k⟩
 obtain ⟨⟨x,y⟩,q,d⟩:=Vj.mp d
 obtain ⟨B,r,d⟩:=Vn.mp d
 cases d
 exact ⟨z,A,v,x,_,R,E,q,fun i G l p j u=>⟨_,MU j u r,k i l p j⟩⟩)⟩
theorem MW {k:Nat}{f:Addr}{l:Xc}{ps:List Str}{q:MF}{x:Str}{p:W4}(F:FnOk X.prog X.w X.K X.mg X.base eE k f l ps (iF X.K 0 q))(w:Room k X.A)(h:X.mg x=some (.ref f))
  (v:Ww X.K (.ref f)=true)(s:Binds X.K l ps [])(u:Gl X x)(i:(x == ("__debug__":Str))=false):QE X (.Call (.Name x p) [] [] pos) (aG q aD):=
 ⟨cW (Jb F w u h v s .nil (E:=E0) Bx i) (by
  rintro I H Q ⟨A,G,y,d,j,R,E,h,k⟩
  obtain ⟨⟨B,z⟩,r,h⟩:=Vj.mp h
  cases r
  exact ⟨rfl,A,[],y,d,j,R,.nil,h,k⟩)⟩
noncomputable def l0 (c:MT)(b:MS):Nat->MS
 | 0,_,_=>none
 | n+1,ρ,μ=>(c ρ μ).bind fun p=>match p.1 with
  | false=>some (.nx,ρ,p.2)
  | true=>(b ρ p.2).bind fun q=>match q.1 with
   | .nx=>l0 c b n q.2.1 q.2.2
   | .ct=>l0 c b n q.2.1 q.2.2
   | .bk=>some (.nx,q.2.1,q.2.2)
   | .rt d=>some (.rt d,q.2.1,q.2.2)
noncomputable def nO (n:Nat)(c:MT)(b:MS):MS:=l0 c b n
theorem MX {body:List Stmt}{mb:MS}(n:Nat)(hc:QT X c mt)(hb:QB X body mb)(hp:a1Y (VM X.prog X.w) X.A X.env X.xe):QS X (.While c body [] pos) (nO n mt mb):=⟨iU (Ij hp hc.h hb.h) (by
 rintro E σ H ⟨Z,ρ,Y,T,G,A,R,EN,hm,k⟩
 have r:∀ {i:Nat->Addr}{n2:Nat}{H2:Hp}(e:Ext Z Y.length H i n2 H2),lP X.K E i n2 H2 T G A:=fun {i n2 H2} e=>by
  cases T with
  | nx=>exact fun j u z l y K=>k j u z (e.trans l) y K
  | bk=>exact fun j u z l y K=>k j u z (e.trans l) y K
  | ct=>exact fun j u z l y K=>k j u z (e.trans l) y K
  | rt d=>exact KC.after k e
 refine ⟨fun m w x=>∃ i p s,Ext Z Y.length H i p.length x/\Rp X.K i x p/\En X.K i p.length x w s/\l0 mt mb m s p=some (T,G,A),⟨n,Z,Y,ρ,.refl,R,EN,hm⟩,?_⟩
 rintro m σ1 H1 ⟨i,p,s,N,R2,E2,h2⟩
 cases m with
 | zero=>cases h2
 | succ m=>
  obtain ⟨⟨b,Q⟩,h3,h4⟩:=Vj.mp h2
  refine ⟨i,s,p,b,Q,R2,E2,h3,fun j z l y=>?_⟩
  cases b with
  | false=>
   refine kD ?_
   cases h4
   exact r N j σ1 z l y (E2.mono l)
  | true=>
   refine kE ?_
   obtain ⟨⟨f4,I,B⟩,h5,U⟩:=Vj.mp h4
   refine ⟨fun w x=>∃ h v q,Ext Z Y.length H h q.length x/\Rp X.K h x q/\En X.K h q.length x w v/\l0 mt mb m v q=some (T,G,A),
    fun w x ⟨h,v,q,a1,a2,a3,a4⟩=>⟨m,YD _,h,q,v,a1,a2,a3,a4⟩,j,s,Q,f4,I,B,y,E2.mono l,h5,?_⟩
   cases f4 with
   | nx=>exact fun h J H5 O M L=>⟨h,I,B,(N.trans l).trans O,M,L,U⟩
   | ct=>exact fun h J H5 O M L=>⟨h,I,B,(N.trans l).trans O,M,L,U⟩
   | bk=>
    cases U
    exact fun h J H5 O M L=>r (N.trans l) h J H5 O M L
   | rt d'=>
    cases U
    exact r (N.trans l))⟩
theorem MY:QS X (.Return none pos) (aQ (mC .non)):=⟨iU HY (by
 rintro E s H ⟨i,r,q,p,j,h,R,l,d,k⟩
 cases d
 exact k i .non H .refl R .non)⟩
end
end L3
namespace L3
open PySem L2
noncomputable def jS:List D->Option (List Bool)
 | []=>some []
 | .bl b::r=>(jS r).map (b::·)
 | _=>none
noncomputable def qA:MF:=fun ds a=>match ds with
 | [x]=>(bF a x).bind fun b=>(jS b).map fun bs=>(.bl (bs.all id),a)
 | _=>none
noncomputable def sR:MF:=fun ds a=>match ds with
 | [x]=>(bF a x).bind fun b=>(jS b).map fun bs=>(.bl (bs.any id),a)
 | _=>none
theorem CF {K:Vk}{π:Nat->Addr}{n:Nat}{H:Hp}:∀ {xs:List D}{vs:List V}{bs:List Bool},IsDs K π n H vs xs->jS xs=some bs->vs=bs.map V.bl
 | [],_,bs,h,e=>by cases h;cases e;rfl
 | x::xs,vs,bs,h,e=>by
  cases h with
  | cons h t=>
   cases x with
   | bl b=>
    obtain ⟨a,c,d⟩:=Vn.mp e
    subst d
    cases h
    rw [CF t c]
    rfl
   | _=>cases e
noncomputable def xH (K:Vk)(g:List Bool->Bool):List V->Hp->VK->Prop:=fun xs H Q=>∃ p bs,xs=[.ref p]/\(SqL K H p (bs.map V.bl)\/SqT K H p (bs.map V.bl))/\Q (.bl (g bs)) H
theorem CG {K:Vk}{g:List Bool->Bool}{f:MF}(h:f=fun ds b=>match ds with|[x]=>(bF b x).bind fun xs=>(jS xs).map fun bs=>(.bl (g bs),b)|_=>none):dR K f (xH K g):=by
 subst h
 intro l H b xs d j m Q R i a k
 dsimp only at a
 split at a
 ·obtain ⟨o,c,a⟩:=Vj.mp a
  obtain ⟨bs,e,a⟩:=Vn.mp a
  cases a
  cases i with
  | cons i t=>
   cases t
   obtain ⟨p,n,rfl,q,hd⟩:=lU R i c
   have:=CF hd e
   subst this
   exact ⟨p,bs,rfl,q,k l _ H .refl R (.bl _)⟩
 ·cases a
theorem CH {bs:List Bool}{n:Nat}(a:n=bs.length):(Wc n).all (fun i=>bs.getD i false)=bs.all id:=by
 subst a
 induction bs with
 | nil=>rfl
 | cons b bs c=>
  rw [V1,Z5,Wf,a2u,Wf,<- c]
  rfl
theorem CI {bs:List Bool}{n:Nat}(a:n=bs.length):(Wc n).any (fun i=>bs.getD i false)=bs.any id:=by
 subst a
 induction bs with
 | nil=>rfl
 | cons b bs c=>
  rw [V1,Z5,XQ,a0S,XQ,<- c]
  rfl
section
variable {X:Cx}
theorem sS {prog:VQ}{w:V6}{A:VU}{bs:List Bool}{a:List Value}(r:Vals (bs.map V.bl) a):TruthOf prog w A (fun i v=>a.toArray[i]? = some v) (fun i=>bs.getD i false):=by
 intro i v s Q E l c
 have b:a[i]? = some v:=by simpa using l
 have h:i<bs.length:=by
  have:=(Vx.mp b).1
  have:=r.length
  rw [Vm] at this
  omega
 obtain ⟨u,d,j⟩:=r.get (i:=i) (x:=.bl bs[i]) (by rw [V0,VH h];rfl)
 rw [b] at d
 cases d
 cases j
 have e:bs.getD i false=bs[i]:=by simp [Wo,h]
 dsimp only at c
 rw [e] at c
 exact Xi c
theorem MZ (hc:X.calm=true):CallR X (.builtin "all") (xH X.K (·.all id)):=by
 intro z s K H J G Q I r h
 obtain ⟨p,bs,rfl,l,q⟩:=h
 obtain ⟨u,rfl,E⟩:=eD r
 cases E
 have y:X.A.in1.handled=none:=I.ok.hd hc
 rcases l with l|l
 ·obtain ⟨a,m,j,B⟩:=I.list l
  refine call_all_walk (Yz j.isList ?_)
  have d:p≠s.heap.objs.size:=by
   obtain ⟨o,v,_⟩:=j.isList
   exact VB (Vu v)
  refine ⟨s.heap.objs.size,_,_,_,_,_,fun i=>bs.getD i false,rfl,a2V y _ p d a.toArray,⟨⟨_,VC _ rfl,rfl,rfl⟩,j.isList.push _⟩,sS m,fun A x w=>?_⟩
  have c:a.toArray.size=bs.length:=by rw [VG,<- m.length,Vm]
  refine ⟨.bl _,H,I.kept (t':=x) fun b o e=>w b o ?_ (Vo _ e),rfl,?_⟩
  ·intro n
   have:b=s.heap.objs.size:=by simpa using n
   exact VB (Vu e) this
  ·rw [CH c]
   exact q
 ·obtain ⟨a,m,j,B⟩:=I.tuple l
  refine call_all_walk (YX (show s.heap.IsTuple p a.toArray from j) ?_)
  have d:p≠s.heap.objs.size:=by
   obtain ⟨o,v,_⟩:=j
   exact VB (Vu v)
  refine ⟨s.heap.objs.size,_,_,_,_,_,fun i=>bs.getD i false,rfl,a2C y _ p d a.toArray,⟨⟨_,VC _ rfl,rfl,rfl⟩,Y4 j _⟩,sS m,fun A x w=>?_⟩
  have c:a.toArray.size=bs.length:=by rw [VG,<- m.length,Vm]
  refine ⟨.bl _,H,I.kept (t':=x) fun b o e=>w b o ?_ (Vo _ e),rfl,?_⟩
  ·intro n
   have:b=s.heap.objs.size:=by simpa using n
   exact VB (Vu e) this
  ·rw [CH c]
   exact q
theorem M0 (hc:X.calm=true):CallR X (.builtin "any") (xH X.K (·.any id)):=by
 intro z s K H J G Q I r h
 obtain ⟨p,bs,rfl,l,q⟩:=h
 obtain ⟨u,rfl,E⟩:=eD r
 cases E
 have y:X.A.in1.handled=none:=I.ok.hd hc
 rcases l with l|l
 ·obtain ⟨a,m,j,B⟩:=I.list l
  refine call_any_walk (Yz j.isList ?_)
  have d:p≠s.heap.objs.size:=by
   obtain ⟨o,v,_⟩:=j.isList
   exact VB (Vu v)
  refine ⟨s.heap.objs.size,_,_,_,_,_,fun i=>bs.getD i false,rfl,a2V y _ p d a.toArray,⟨⟨_,VC _ rfl,rfl,rfl⟩,j.isList.push _⟩,sS m,fun A x w=>?_⟩
  have c:a.toArray.size=bs.length:=by rw [VG,<- m.length,Vm]
  refine ⟨.bl _,H,I.kept (t':=x) fun b o e=>w b o ?_ (Vo _ e),rfl,?_⟩
  ·intro n
   have:b=s.heap.objs.size:=by simpa using n
   exact VB (Vu e) this
  ·rw [CI c]
   exact q
 ·obtain ⟨a,m,j,B⟩:=I.tuple l
  refine call_any_walk (YX (show s.heap.IsTuple p a.toArray from j) ?_)
  have d:p≠s.heap.objs.size:=by
   obtain ⟨o,v,_⟩:=j
   exact VB (Vu v)
  refine ⟨s.heap.objs.size,_,_,_,_,_,fun i=>bs.getD i false,rfl,a2C y _ p d a.toArray,⟨⟨_,VC _ rfl,rfl,rfl⟩,Y4 j _⟩,sS m,fun A x w=>?_⟩
  have c:a.toArray.size=bs.length:=by rw [VG,<- m.length,Vm]
  refine ⟨.bl _,H,I.kept (t':=x) fun b o e=>w b o ?_ (Vo _ e),rfl,?_⟩
  ·intro n
   have:b=s.heap.objs.size:=by simpa using n
   exact VB (Vu e) this
  ·rw [CI c]
   exact q
end
end L3
namespace L3
open PySem L2
open PyProof.Rows (IntsAre)
open PySem.W (KasT kas_asc kas_desc kas_tail3 kas_descPart kas_count kas_place kas_bin kas_sort kas_rev kas_ask)
noncomputable def aZ {b:Type}(ans:Nat->Nat->Bool):a5e b->b
 | .ret a=>a
 | .ask i j k=>aZ ans (k (ans i j))
noncomputable def InR {c:Type}(n:Nat)(R:c->Prop):a5e c->Prop
 | .ret a=>R a
 | .ask i j k=>i<n/\j<n/\∀ b,InR n R (k b)
theorem InR.bind {c h:Type}{n:Nat}{R:c->Prop}{d:h->Prop}{f:c->a5e h}(e:∀ a,R a->InR n d (f a)):∀ {t:a5e c},InR n R t->InR n d (t.bind f)
 | .ret a,q=>e a q
 | .ask i j k,q=>⟨q.1,q.2.1,fun b=>InR.bind e (q.2.2 b)⟩
theorem xI {c:Type}{n:Nat}{R:c->Prop}{ans:Nat->Nat->Bool}{b:Nat->Nat->(Bool->Vp->Prop)->Vp->Prop}{s:Vp}(hc:∀ i j (C:Bool->Vp->Prop),i<n->j<n->C (ans i j) s->b i j C s){Q:c->Vp->Prop} :
  ∀ {t:a5e c},InR n R t->Q (aZ ans t) s->t.kasWp b Q s
 | .ret a,_,q=>q
 | .ask i j k,h,q=>hc i j _ h.1 h.2.1 (xI hc (h.2.2 _) q)
theorem CJ {b:Type}{n:Nat}{R:b->Prop}{ans:Nat->Nat->Bool}:∀ {t:a5e b},InR n R t->R (aZ ans t)
 | .ret a,q=>q
 | .ask i j k,h=>CJ (t:=k (ans i j)) (h.2.2 _)
section
variable {n:Nat}
noncomputable def IxOk (n:Nat)(p:Array Nat):Prop:=p.Perm (Wc n).toArray
theorem IxOk.lt {p:Array Nat}(h:IxOk n p)(c:0<n)(i:Nat):p.getD i 0<n:=by
 by_cases a:i<p.size
 ·have e:p.getD i 0=p[i]:=by simp [XN,a]
  rw [e]
  have d:p[i]∈p:=Array.getElem_mem a
  have b:p[i]∈(Wc n).toArray:=h.mem_iff.mp d
  simpa using b
 ·have e:p.getD i 0=0:=by simp [XN,a]
  rw [e];exact c
theorem IxOk.rev {p:Array Nat}(h:IxOk n p)(i j:Nat):IxOk n (XH p i j):=(a5t _ _ _ _).trans h
theorem IxOk.bub {p:Array Nat}(h:IxOk n p)(i j:Nat):IxOk n (a5z p i j):=(a5y _ _ _).trans h
theorem xJ {p:Array Nat}(h:IxOk n p)(a:0<n):∀ (f m:Nat),InR n (fun _=>True) (XI p f m)
 | 0,m=>trivial
 | f+1,m=>⟨h.lt a _,h.lt a _,fun b=>by
   cases b with
   | true=>exact trivial
   | false=>exact xJ h a f (m+1)⟩
theorem sT (a:0<n):∀ (f:Nat)(p:Array Nat)(m q:Nat),IxOk n p->InR n (fun r=>IxOk n r.1) (Xq f p m q)
 | 0,p,m,q,h=>h
 | f+1,p,m,q,h=>⟨h.lt a _,h.lt a _,fun b=>by
   cases b with
   | true=>
    show InR n _ (if q>0 then Xq f (XH p (m - (q+1)) m) (m+1) 0 else Xq f p (m+1) 0)
    split
    ·exact sT a f _ _ _ (h.rev _ _)
    ·exact sT a f _ _ _ h
   | false=>
    refine ⟨h.lt a _,h.lt a _,fun d=>?_⟩
    cases d with
    | true=>exact h
    | false=>exact sT a f _ _ _ h⟩
theorem CK (c:0<n){p:Array Nat}(h:IxOk n p)(a r:Nat):InR n (fun r=>IxOk n r.2) (ZR a r p):=
 by
 have b:IxOk n (XH p 0 a):=h.rev 0 a
 unfold ZR
 refine InR.bind (R:=fun _=>True) (fun m _=>?_) (xJ b c _ _)
 exact b
theorem CL (b:0<n){p:Array Nat}(h:IxOk n p)(a r:Nat):InR n (fun r=>IxOk n r.2) (Yh a r p):=
 InR.bind (fun q c=>by
  show InR n _ (if q.2.2>0 then ZR q.2.1 r (XH q.1 (q.2.1 - (q.2.2+1)) q.2.1) else ZR q.2.1 r q.1)
  split
  ·exact CK b (c.rev _ _) _ _
  ·exact CK b c _ _) (sT b _ _ _ _ h)
theorem M3 (a:0<n){p:Array Nat}(h:IxOk n p)(r:Nat):InR n (fun r=>IxOk n r.2) (a3e r p):=
 InR.bind (fun m _=>by
  show InR n _ (if (m == r)=true then XJ (m,p) else if m>1 then a0n (p.getD 0 0) (p.getD (m - 1) 0) (fun c=>if c=true then XJ (m,p) else Yh m r (XH p 0 m)) else Yh m r p)
  split
  ·exact h
  ·split
   ·refine ⟨h.lt a _,h.lt a _,fun b=>?_⟩
    cases b with
    | true=>exact h
    | false=>exact CL a (h.rev _ _) _ _
   ·exact CL a h _ _) (xJ h a _ _)
theorem xK {p:Array Nat}(h:IxOk n p)(a:0<n)(k:Nat):∀ (f l r:Nat),InR n (fun _=>True) (W2 p k f l r)
 | 0,l,r=>trivial
 | f+1,l,r=>by
  show InR n _ (if l >= r then XJ l else a0n (p.getD k 0) (p.getD ((l+r) / 2) 0) fun c=>if c=true then W2 p k f l ((l+r) / 2) else W2 p k f ((l+r) / 2+1) r)
  split
  ·exact trivial
  ·refine ⟨h.lt a _,h.lt a _,fun b=>?_⟩
   cases b with
   | true=>exact xK h a k f _ _
   | false=>exact xK h a k f _ _
theorem CM (a:0<n):∀ (f:Nat)(p:Array Nat)(k:Nat),IxOk n p->InR n (IxOk n) (a1B f p k)
 | 0,p,k,h=>h
 | f+1,p,k,h=>InR.bind (fun l _=>CM a f _ _ (h.bub _ _)) (xK h a k _ _ _)
theorem xM (a:0<n):InR n (IxOk n) (a1A n):=
 InR.bind (fun r b=>by
  show InR n _ (if r.1<n then a1B (n - max r.1 1) r.2 (max r.1 1) else XJ r.2)
  split
  ·exact CM a _ _ _ b
  ·exact b) (M3 a (Array.Perm.refl _) n)
end
noncomputable def cB (lt:Nat->Nat->Bool)(n:Nat):List Nat:=(aZ lt (a1A n)).toList
theorem jT (lt:Nat->Nat->Bool){n:Nat}(a:0<n):(cB lt n).Perm (Wc n):=by
 have h:IxOk n (aZ lt (a1A n)):=CJ (xM a)
 have:=Array.perm_iff_toList_perm.mp h
 simpa [cB] using this
section
variable {X:Cx}{a5X:List (Addr×WY)}{σ:St}{H:Hp}{s:Vp}
theorem CN {P:VQ}{w:V6}{H:Hp}{h:Wj}{a:Addr}{o:HO}(x:ObjOk P w H h a o):∃ c,h.get? a=some c:=by
 cases o with
 | lst d=>obtain ⟨_,_,_,_,e⟩:=x;exact ⟨_,e⟩
 | tup d=>obtain ⟨_,_,_,c,e,_⟩:=x;exact ⟨_,e⟩
 | dK b=>obtain ⟨_,_,_,_,o,_,_,e,_⟩:=x;exact ⟨_,e⟩
 | dT b=>obtain ⟨_,_,_,_,o,_,_,e,_⟩:=x;exact ⟨_,e⟩
 | set S n=>obtain ⟨o,_,_,_,e,_⟩:=x;exact ⟨_,e⟩
 | ins C i fs=>obtain ⟨_,_,_,e,_⟩:=x;exact ⟨_,e⟩
 | own y=>exact x
 | xd fs=>obtain ⟨_,⟨_,_,_,e,_⟩,_⟩:=x;exact ⟨_,e⟩
 | rng l j=>obtain ⟨_,_,_,e⟩:=x;exact ⟨_,e⟩
 | frz c u=>exact ⟨_,x.1⟩
 | tbl m=>exact ⟨_,x⟩
 | met f y=>exact ⟨_,x⟩
 | ext p=>exact x.2.1
theorem M4 {h':Wj}{D:Addr}{o:HO}{t':Nat}{m:Str->Option Value}(I:Inv X a5X σ H s)(y:s.heap.Ns X.env.locals m)(a:∀ b d,b≠X.env.locals->s.heap.get? b=some d->h'.get? b=some d)(w:h'.Ns X.env.locals m)
  (r:s.heap.get? D=none)(new:ObjOk X.prog X.w (aK H D o) h' D o):Inv X a5X σ (aK H D o) { s with heap:=h',toks:=t' }:=by
 have i:H D=none:=by
  cases q:H D with
  | none=>rfl
  | some u=>
   obtain ⟨d,e⟩:=CN (I.hok D u q)
   rw [r] at e;cases e
 have j:∀ b u,H b=some u->b≠X.env.locals:=fun b u e z=>by rw [z,I.free] at e;cases e
 refine I.step (g':=s.gens) (d':=s.drawn) (ch:=[]) (fun _ z=>nomatch z) (fun b d h _ _ e _=>a b d h e) (fun b d h _ _ e _=>⟨d.slots,a b d h e⟩) (fun b d _ e n=>?_) (fun b d _ e=>?_)
  (fun b A e=>by rw [a8 (eM e i)];exact e) (fun b d u e=>by rw [a8 (eM e i)];exact e) (fun b E e=>⟨#[],by rw [a8 (eM e i),e];simp⟩) (fun B l=>?_) (fun b u e=>?_) I.bare
 ·have:b≠D:=fun z=>by rw [z,r] at e;cases e
  rw [a8 this];exact n
 ·by_cases h:b=X.env.locals
  ·obtain ⟨p,_,_,x,_⟩:=w
   exact ⟨p,by rw [h];exact x⟩
  ·exact ⟨d,a b d h e⟩
 ·rw [l.eq_nsMap,<- y.eq_nsMap]
  exact w
 ·by_cases h:b=D
  ·subst h
   rw [cG] at e
   cases e
   exact new
  ·rw [a8 h] at e
   refine (I.hok b u e).stay (fun c v hc q=>a c v ?_ q) (fun c q=>by rw [a8 (eM q i)];exact q) fun c A q=>by rw [a8 (eM q i)];exact q
   rcases hc with rfl|hc
   ·exact j _ _ e
   ·exact j _ _ hc
end
theorem xN {prog:VQ}{w:V6}{A:VU}{s:Vp}{Q:Bool->Vp->Prop}:∀ {us vs:List Value}{ns b:List Int}(i:Nat),X6 us ns->X6 vs b->Q (HT.lexLt ns b) s->
  PySem.W.KatLex prog w A true (decide (us.length<vs.length)) Q (us.zip vs) i s
 | _,_,_,_,i,.nil,.nil,h=>by exact h
 | _,_,_,_,i,.nil,.cons c u hv,h=>by
  show Q (decide (0<_+1)) s
  rw [decide_eq_true (a0c _)]
  exact h
 | _,_,_,_,i,.cons a t hu,.nil,h=>by
  show Q (decide (_+1<0)) s
  rw [decide_eq_false (Zv _)]
  exact h
 | _,_,_,_,i,.cons (vs:=us) (ns:=ns) a t hu,.cons (vs:=vs) (ns:=b) c u hv,h=>by
  rw [HT.lexLt_cons] at h
  refine PySem.W.kat_cons (a2e a t c u prog w _ _ ?_)
  by_cases e:a=c
  ·subst e
   rw [if_pos rfl] at h
   rw [beq_self_eq_true]
   refine PySem.W.kat_yes ?_
   have:=xN (prog:=prog) (w:=w) (A:=A) (s:=s) (Q:=Q) (i+1) hu hv h
   have j:decide ((V3 a t::us).length<(V3 a u::vs).length)=decide (us.length<vs.length):=by simp
   rw [j]
   exact this
  ·rw [if_neg e] at h
   have d:(a == c)=false:=by simpa using e
   rw [d]
   refine PySem.W.kat_no ?_
   cases l:(true&&i == 0) with
   | true=>exact a5r h
   | false=>exact PySem.W.kat_one _ _ (a1E h)
noncomputable abbrev TupsV (K:Vk)(H:Hp):List V->List (List Int)->Prop:=Zc fun v t=>∃ a,v=V.ref a/\SqT K H a (t.map V.int)
theorem TupsV.get {K:Vk}{H:Hp}:∀ {vs:List V}{b:List (List Int)}{i:Nat},TupsV K H vs b->i<vs.length->∃ a,vs[i]? = some (V.ref a)/\SqT K H a ((b.getD i []).map V.int)
 | _,_,_,.nil,h=>by simp at h
 | _,_,0,.cons ⟨a,e,q⟩ _,_=>⟨a,by rw [e];rfl,q⟩
 | _,_,i+1,.cons _ t,h=>by
  obtain ⟨a,e,q⟩:=TupsV.get (i:=i) t (by simpa using h)
  exact ⟨a,by simpa using e,q⟩
section
open PyProof.Rows
variable {prog:VQ}{w:V6}{A:VU}{E:Value->Vp->Prop}{s:Vp}
theorem xO {c:Addr}{us:List Value}{z:Nat}{R:Fin->Vp->Prop}(h:us.length<2)(g:s.heap.get? c=some (WV "list" us.toArray z)) (q:R (.done (.ret .none)) { s with heap:=a1l s.heap c us us.toArray }) :
  VD (VM prog w) A (Builtin.«list.sort» ⟨[.ref c],[]⟩) R E s:=by
 rw [a5n]
 have lt:c<s.heap.objs.size:=Vu g
 refine Vl (listItems_at g rfl (Vl (a1c g rfl ?_)))
 obtain ⟨y,d⟩:∃ y,(s.heap.update c (Xb fun _=>#[])).get? c=some (WV "list" #[] y):=⟨_,a5o g _⟩
 refine Vl (a2d d rfl (Vl (a2w (Vl (a0a (Wi ?_))))))
 have e:(((s.heap.update c (Xb fun _=>#[])).push (WV "tuple" us.toArray 0)).push (WV "list" #[] 0)).get? c=some (WV "list" #[] y):=
  Vo _ (Vo _ d)
 show VD (VM prog w) A _ R E ⟨((s.heap.update c (Xb fun _=>#[])).push (WV "tuple" us.toArray 0)).push (WV "list" #[] 0),s.gens,s.drawn,s.toks,s.os⟩
 dsimp only
 have a:us.toArray.size<2:=by simpa using h
 rw [if_pos a,if_pos a]
 refine Vl (Vr ?_)
 rw [StateT.run_pure]
 refine Vl (Vr ?_)
 dsimp only
 have b:a5K (fun x=>x.2) (arrOf (SortSt.mk' general' (us.toArray.zip us.toArray) #[] 7 none))=us.toArray:=by
  show a5K (fun x=>x.2) (us.toArray.zip us.toArray)=us.toArray
  exact Array.ext (by simp) (fun i j l=>by simp)
 refine Vl (a2d e rfl (Vl (a1c e rfl ?_ (hsz2:=by rw [b,VS];omega))))
 rw [b]
 simp only [bne_self_eq_false,Vy,if_false]
 exact Vr q
theorem M5 {l:Addr}{u:Value}{Q:Value->Vp->Prop}(a:s.heap.IsList l [u].toArray)(q:Q (.ref (s.heap.objs.size+1)) { s with heap:=sortedAll s.heap [u] [u].toArray }):VD (VM prog w) A (call (.builtin "sorted") [.ref l]) Q E s:=by
 refine ZF a3Y a3s a3u (a3w _) ?_
 unfold a0B
 refine Vl (m:=a4y "sorted" 1 1 _) (Vr (Vl (collect_list a (Vl (a0a ?_)))))
 have z:((s.heap.push (WV "list" #[] 0)).update s.heap.objs.size (Xb (·++[u].toArray))).objs.size=s.heap.objs.size+1:=by rw [Heap.size_update,size_push']
 have g:(((s.heap.push (WV "list" #[] 0)).update s.heap.objs.size (Xb (·++[u].toArray))).push (WV "list" [u].toArray 0)).get? (s.heap.objs.size+1)=some (WV "list" [u].toArray 0):=z ▸ VC _ rfl
 show VD _ _ _ _ _ ⟨((s.heap.push (WV "list" #[] 0)).update s.heap.objs.size (Xb (·++[u].toArray))).push (WV "list" [u].toArray 0),s.gens,s.drawn,s.toks,s.os⟩
 rw [z]
 refine Vl (Wi (W0 ZW ⟨_,g,rfl⟩ ZC (xO (us:=[u]) (by simp) g ⟨_,rfl,?_⟩) (ZY _)))
 exact Vr ⟨_,rfl,q⟩
end
theorem xP (lt:Nat->Nat->Bool):cB lt 1=[0]:=rfl
theorem xQ (lt:Nat->Nat->Bool):cB lt 0=[]:=rfl
theorem sU (lt:Nat->Nat->Bool)(n:Nat):(cB lt n).Perm (Wc n):=by
 cases n with
 | zero=>rw [xQ];exact .nil
 | succ n=>exact jT lt (a0c n)
section
variable {X:Cx}
theorem M6 {a5X:List (Addr×WY)}{s:Vp}{σ:St}{H:Hp}{q:Addr}{v:V}{Q:VK}(I:Inv X a5X σ H s)(c:SqL X.K H q [v])(k:∀ l,H l=none->Q (.ref l) (aK H l (.lst [v]))) :
  VD (VM X.prog X.w) X.A (call (.builtin "sorted") [.ref q]) (EP X a5X σ Q) X.xe s:=by
 obtain ⟨d,j,h,m⟩:=I.list c
 cases j with
 | cons i rt=>
  cases rt
  rename_i u
  refine M5 (u:=u) h.isList ?_
  obtain ⟨e,a⟩:=a0I s.heap [u] [u].toArray
  refine ⟨.ref (s.heap.objs.size+1),_,I.laid (t':=s.toks) (a:=s.heap.objs.size+1) (o:=.lst [v]) (fun b n z=>a0D z) (Yy _) ?_,rfl,k _ (I.hok.fresh (Yy _))⟩
  exact ⟨by rw [VS];show 1<=_;decide,[u],e,.cons i .nil,a⟩
end
noncomputable def xR (K:Vk):List V->Hp->VK->Prop:=fun xs H Q=>∃ q ws a,xs=[.ref q]/\SqL K H q ws/\TupsV K H ws a/\1<=ws.length/\ws.length<64/\(∀ t∈a,t≠[]) /\
 ∀ l,H l=none->Q (.ref l) (aK H l (.lst ((cB (fun i j=>HT.lexLt (a.getD i []) (a.getD j [])) ws.length).map fun i=>ws.getD i .non)))
theorem CO {ns:List Int}{us:List Value}(h:Vals (ns.map V.int) us):X6 us ns:=wB h
section
variable {X:Cx}
theorem M7:CallR X (.builtin "sorted") (xR X.K):=by
 intro a5X s σ H xs us Q I r h
 obtain ⟨q,ws,y,rfl,hq,K,h1,h64,E,k⟩:=h
 obtain ⟨u,rfl,ru⟩:=eD r
 cases ru
 by_cases h2:ws.length<2
 ·obtain ⟨v,rfl⟩:=List.length_eq_one_iff.mp (by omega:ws.length=1)
  refine M6 I hq fun l hl=>?_
  have z:=k l hl
  rw [a0g,xP] at z
  exact z
 replace h2:2<=ws.length:=a4b h2
 obtain ⟨o,L,pl,hz⟩:=I.list hq
 obtain ⟨m,F⟩:=I.fr
 have hlen:=L.length
 refine PySem.W.kat_sorted F (Hl (g:=X.base) (h:=s.heap) (L:=X.env.locals)) pl.isList (by omega) (by omega) fun D e1 h' F' N' hD=>?_
 have keep:∀ b w,b≠X.env.locals->s.heap.get? b=some w->h'.get? b=some w:=fun b w hb e=>by
  cases z:X.base.get? b with
  | some R=>
   have:=I.bk b R z
   rw [e] at this;cases this
   exact F'.keep b _ z
  | none=>exact (N' (b,w) (VI _ (vF hb z e))).1
 have Z:=N' (D,_) (VO ..)
 have hDs:s.heap.get? D=none:=by
  cases z:s.heap.get? D with
  | none=>rfl
  | some w=>exact absurd (hD (D,w) (vF Z.2.1 Z.2.2 z)) (Xz _)
 have neL:∀ {a:Addr}{vs:List V},SqT X.K H a vs->a≠X.env.locals:=fun {a vs} A z=>by
  subst z
  rcases A with (A|⟨w,A⟩)|⟨w,_,_,hk,_⟩
  ·rw [I.free] at A;cases A
  ·rw [I.free] at A;cases A
  ·have h1:X.env.locals<X.base.objs.size:=Vu (I.mod.kin _ _ hk)
   exact Xz _ (VL h1 F.above)
  -- the tuples stand there still
 have x:∀ {a:Addr}{t:List Int},SqT X.K H a (t.map V.int)->∃ (w:WY)(xs:List Value)(n:Nat),h'.get? a=some w/\w.cls=.type "tuple"/\w.data=.seq xs.toArray n/\X6 xs t:=fun {a t} A=>by
  obtain ⟨xs,rx,⟨w,e,c,n,d⟩,_⟩:=I.tuple A
  exact ⟨w,xs,n,keep a w (neL A) e,c,d,CO rx⟩
 have tups:∀ {ws:List V}{o:List Value}{y:List (List Int)},Vals ws o->TupsV X.K H ws y->(∀ t∈y,t≠[])->∃ fs:List Value,fs.length=o.length/\PySem.W.KatTups h' o fs/\∀ v∈fs,∃ i t,v=V3 i t:=by
  intro ws o y L K
  induction K generalizing o with
  | nil=>intro _;cases L;exact ⟨[],rfl,.nil,fun v G=>nomatch G⟩
  | @cons v t ws y G _ ih=>
   intro E
   cases L with
   | cons r1 r2=>
    obtain ⟨a,rfl,A⟩:=G
    cases r1
    obtain ⟨fs,h1,h3,h4⟩:=ih r2 fun t K=>E t (VI _ K)
    obtain ⟨w,xs,n,e,c,d,M⟩:=x A
    cases M with
    | nil=>exact absurd rfl (E [] (VO ..))
    | @cons i tk xs' ns' hi'=>
     refine ⟨V3 i tk::fs,by simp [h1],.cons e c d (by simp) h3,fun v G=>?_⟩
     rcases VP.mp G with rfl|G
     ·exact ⟨i,tk,rfl⟩
     ·exact h4 v G
 obtain ⟨fs,hf1,hf2,hf3⟩:=tups L K E
 refine PySem.W.kat_kind (T:=.type "int") hf2 (by omega) (fun v G=>?_) rfl ?_
 ·obtain ⟨i,t,rfl⟩:=hf3 v G
  exact .now
 have htl:y.length=ws.length:=K.length.symm
 refine xI (n:=o.length) (ans:=fun i j=>HT.lexLt (y.getD i []) (y.getD j [])) (fun i j C M hj hC=>?_) (xM (by omega)) ?_
 ·obtain ⟨a,ea,sa⟩:=K.get (i:=i) (by omega)
  obtain ⟨b,eb,sb⟩:=K.get (i:=j) (by omega)
  obtain ⟨ua,ha1,ha2⟩:=L.get ea
  obtain ⟨ub,hb1,hb2⟩:=L.get eb
  cases ha2
  cases hb2
  have ga:o.getD i Wb=.ref a:=by simp [Wo,ha1]
  have gb:o.getD j Wb=.ref b:=by simp [Wo,hb1]
  unfold kas_ask
  rw [ga,gb]
  obtain ⟨oa,xa,na,e1,_,d1,i1⟩:=x sa
  obtain ⟨w,xb,nb,e2,_,d2,i2⟩:=x sb
  refine PySem.W.kat_lt e1 d1 e2 d2 ?_
  have:=xN (prog:=X.prog) (w:=X.w) (A:=X.A.in1.in1) (s:={ s with heap:=h' }) (Q:=C) 0 i1 i2 hC
  exact this
 ·refine a4Q F' N' (.head fun p hp=>VB (hD p hp)) fun h'' c T U=>?_
  have O:∀ b w,b≠X.env.locals->s.heap.get? b=some w->h''.get? b=some w:=fun b w hb e=>by
   cases z:X.base.get? b with
   | some R=>
    have:=I.bk b R z
    rw [e] at this;cases this
    exact T.keep b _ z
   | none=>exact (U (b,w) (VI _ (vF hb z e))).1
  have J:=(U (D,_) (VO ..)).1
  rw [<- hlen] at J
  have B:=jT (fun i j=>HT.lexLt (y.getD i []) (y.getD j [])) (n:=ws.length) (by omega)
  have N:Vals ((cB (fun i j=>HT.lexLt (y.getD i []) (y.getD j [])) ws.length).map fun i=>ws.getD i .non) ((cB (fun i j=>HT.lexLt (y.getD i []) (y.getD j [])) ws.length).map fun i=>o.getD i Wb):=by
   have Y:∀ l:List Nat,(∀ i∈l,i<ws.length)->Vals (l.map fun i=>ws.getD i .non) (l.map fun i=>o.getD i Wb):=fun l=>by
    induction l with
    | nil=>intro _;exact .nil
    | cons i l ih=>
     intro hl
     refine .cons ?_ (ih fun j hj=>hl j (VI _ hj))
     have M:=hl i (VO ..)
     obtain ⟨u,g1,g2⟩:=L.get (VH M)
     have e1:ws.getD i .non=ws[i]:=by simp [Wo,M]
     have e2:o.getD i Wb=u:=by simp [Wo,g1]
     show RelV (ws.getD i .non) (o.getD i Wb)
     rw [e1,e2]
     exact g2
   exact Y _ fun i M=>by simpa using B.mem_iff.mp M
  refine ⟨.ref D,_,M4 (s:=s) (o:=.lst _) (t':=s.toks) I F.ns O T.ns hDs ⟨?_,_,_,N,J⟩,rfl,k D ?_⟩
  ·rw [Vm,B.length_eq,a0O]
   exact hz
  ·cases z:H D with
   | none=>rfl
   | some u=>
    obtain ⟨w,e⟩:=CN (I.hok D u z)
    rw [hDs] at e;cases e
end
end L3
namespace L3
open PySem L2 PySem.Spec PyProof.Rows
structure XRec (h:Wj)(e:Addr)(cls:Value)(dc:Option Addr)(T:Option (Addr×Value)):Prop where
 ob:∃ o vs,h.get? e=some o/\o.cls=cls/\o.dict=dc/\o.data=.fields vs/\vs[1]? = some (match T with|none=>Wb|some p=>.ref p.1)
 tb:∀ p,T=some p->p.1≠e/\∃ oT ts,h.get? p.1=some oT/\oT.data=.fields ts/\ts[3]? = some p.2
structure XKept (fs:List Addr)(e:Addr)(T:Option (Addr×Value))(h h':Wj):Prop where
 keep:∀ b o,h.get? b=some o->b≠e->(∀ p,T=some p->b≠p.1)->b∉fs->h'.get? b=some o
 slot:∀ b o,h.get? b=some o->b≠e->(∀ p,T=some p->b≠p.1)->∃ sl,h'.get? b=some { o with slots:=sl }
theorem CP (o:WY) (f):(o.mapFields f).dict=o.dict:=by
 cases o with
 | mk c d a b=>cases a<;>rfl
section
variable {M:a1G}{A:VU}{E:Value->Vp->Prop}{s:Vp}{base:Wj}{env:Z7}{outer:List Z7}{L e:Addr}{cls:Value}{dc:Option Addr}
theorem XRec.noFrame {h:Wj}{T:Option (Addr×Value)}{l:List Z7}(x:XRec h e cls dc T)(d:h.FunFrames base l):e∉dJ l/\∀ p,T=some p->p.1∉dJ l:=by
 obtain ⟨o,v,m,_,_,n,_⟩:=x.ob
 refine ⟨fun c=>?_,fun p q c=>?_⟩
 ·obtain ⟨_,r,a,b⟩:=d.mem c
  rw [m] at a;cases a
  exact b v n
 ·obtain ⟨_,w,u,i,j,_⟩:=x.tb p q
  obtain ⟨_,r,a,b⟩:=d.mem c
  rw [i] at a;cases a
  exact b u j
theorem CQ {T:Option (Addr×Value)}{hd:Value}{nx:Bool}{Q:Unit->Vp->Prop}(j:A.frames=some (env::outer))(v:s.heap.FunFrames base (env::outer))(O:env.frame=some L)(x:XRec s.heap e cls dc T)
  (k:∀ d m,XRec d e cls dc (some (m,XR L))->s.heap.objs.size<=m->XKept (dJ (env::outer)) e T s.heap d->Q () { s with heap:=d }) :
  VD M A (do a2y (.ref e) 1 (<- a2b hd (<- frameOf env) .none (XR L) .none (<- entryPlaceOf L nx))) Q E s:=by
 obtain ⟨o,X,H,I,J,u,K⟩:=x.ob
 have y:1<X.size:=(Xg.mp K).1
 have ne:=(x.noFrame v).1
 refine Vl (wpAny_frameOf_fun j v O fun a c=>?_)
 refine Vl (wpAny_entryPlaceOf fun G w=>?_)
 unfold a2b newFields
 refine Vl (W7 ?_ (w.sizeOk5 _ _ _ _ _))
 have q:a.get? e=some o:=(c.2.1 e ne).trans H
 generalize hob:({ cls:=.type "traceback",dict:=none,data:=.fields ([hd,.ref L,.none,XR L,.none]++(if G.isEmpty then VW 6 Wb else G)).toArray }:WY)=tb
 have r:(a.push tb).get? e=some o:=Vo _ q
 refine YH r u y (k _ a.objs.size ?_ ?_ ?_)
 ·have z:a.objs.size≠e:=W8 (Vu q)
  have n:=X7 u (·.setIfInBounds 1 (Vz a.objs.size))
  refine ⟨⟨_,_,WA _ r (Yk n),by rw [a0Y];exact I,?_,n,by simp [y]⟩,fun p l=>?_⟩
  ·rw [<- J,CP]
  ·cases l
   refine ⟨z,tb,_,?_,by rw [<- hob],?_⟩
   ·rw [Wr _ _ (WB z)]
    exact VC _ (by rw [<- hob];rfl)
   ·first|(simp;done)|(rcases w with rfl|⟨_,_,_,_,_,_,_,rfl⟩<;>simp)
 ·rw [c.1]
  exact Vv _
 ·refine ⟨fun b B i h _ N=>?_,fun b B i h _=>?_⟩
  ·rw [Wr _ _ (WB h)]
   exact Vo _ ((c.2.1 b N).trans i)
  ·obtain ⟨U,R⟩:=c.2.2 b B i
   refine ⟨U,?_⟩
   rw [Wr _ _ (WB h)]
   exact Vo _ R
theorem CS {T:Option (Addr×Value)}{Q:Unit->Vp->Prop}(H:∀ p,T=some p->p.2=.none)(h:A.frames=some (env::outer))(u:s.heap.FunFrames base (env::outer))(r:env.frame=some L)(x:XRec s.heap e cls dc T)
  (k:∀ c j,XRec c e cls dc (some (j,XR L))->s.heap.objs.size<=j->XKept (dJ (env::outer)) e T s.heap c->Q () { s with heap:=c }):VD M A (a1U (.ref e) env) Q E s:=by
 obtain ⟨o,vs,y,K,N,B,G⟩:=x.ob
 unfold a1U
 simp only [r]
 refine Vl (XU y B G ?_)
 cases T with
 | none=>
  rw [if_neg (by decide)]
  exact CQ h u r x k
 | some p=>
  obtain ⟨J,oT,Z,l,m,v⟩:=x.tb p rfl
  rw [if_pos (show (Vz p.1 != Wb)=true by simp)]
  refine Vl (XU l m v ?_)
  rw [H p rfl,if_neg (show ¬ (Wb == XR L)=true by simp [XR])]
  refine Vl (YH l m (Xg.mp v).1 ?_)
  have same:∀ b,b≠p.1->(s.heap.update p.1 (Zg (·.setIfInBounds 3 Wb))).get? b=s.heap.get? b:=fun b a=>Wr _ _ (WB a)
  have Y:=(x.noFrame u).2 p rfl
  refine CQ (T:=some p) h (u.of_keeps fun b i a X=>⟨i,(same b fun z=>by rw [z,l] at a;cases a;exact X Z m).trans a,rfl⟩) r ⟨⟨o,vs,(same e (WB J)).trans y,K,N,B,G⟩,fun q R=>?_⟩ fun c j x' U I=>k c j x' (by simpa using U) ⟨fun b i a n d O=>?_,fun b i a n d=>?_⟩
  ·cases R
   have w:=X7 m (·.setIfInBounds 3 Wb)
   exact ⟨J,_,_,WA _ l (Yk w),w,by rw [H p rfl];simp [(Xg.mp v).1]⟩
  ·exact I.keep b i ((same b (d p rfl)).trans a) n d O
  ·exact I.slot b i ((same b (d p rfl)).trans a) n d
theorem xS {T:Addr}{n:Value}{Q:Unit->Vp->Prop}(x:XRec s.heap e cls dc (some (T,n)))(k:∀ h',XRec h' e cls dc (some (T,.none))->h'.objs.size=s.heap.objs.size->(∀ b,b≠T->h'.get? b=s.heap.get? b)->Q () { s with heap:=h' }) :
  VD M A (a1T (.ref e) none) Q E s:=by
 obtain ⟨o,w,c,q,r,d,h⟩:=x.ob
 obtain ⟨i,y,z,j,l,m⟩:=x.tb _ rfl
 unfold a1T
 refine Vl (XU c d h ?_)
 rw [if_pos (show (Vz T != Wb)=true by simp)]
 have same:∀ b,b≠T->(s.heap.update T (Zg (·.setIfInBounds 3 Wb))).get? b=s.heap.get? b:=fun b u=>Wr _ _ (WB u)
 have a:=X7 l (·.setIfInBounds 3 Wb)
 refine YH j l (Xg.mp m).1 (k _ ⟨⟨o,w,(same e (WB i)).trans c,q,r,d,h⟩,fun p v=>?_⟩ (by simp) same)
 cases v
 exact ⟨i,_,_,WA _ j (Yk a),a,by simp [(Xg.mp m).1]⟩
theorem M8 {T:Option (Addr×Value)}{Q:Unit->Vp->Prop}(w:∀ p,T=some p->p.2=.none)(d:A.frames=some (env::outer))(z:s.heap.FunFrames base (env::outer))(y:env.frame=some L)(x:XRec s.heap e cls dc T)
  (k:∀ c l,XRec c e cls dc (some (l,.none))->s.heap.objs.size<=l->XKept (dJ (env::outer)) e T s.heap c->Q () { s with heap:=c }):VD M A (a4K env (.ref e)) Q E s:=by
 unfold a4K
 refine Vl (CS w d z y x fun r q H j m=>?_)
 refine xS (s:={ s with heap:=r }) H fun u I _ n=>k u q I j ⟨fun b o a h i B=>?_,fun b o a h i=>?_⟩
 ·rw [n b (VB (VL (Vu a) j))]
  exact m.keep b o a h i B
 ·obtain ⟨G,v⟩:=m.slot b o a h i
  refine ⟨G,?_⟩
  rw [n b (VB (VL (Vu a) j))]
  exact v
end
end L3
namespace L3
open PySem L2 PySem.Spec PyProof.Rows
structure Ex (X:Cx)(a5X:List (Addr×WY))(H:Hp)(s:Vp)(e:Addr)(cls:Value)(dc:Option Addr)(T:Option (Addr×Value)):Prop where
 rc:XRec s.heap e cls dc T
 hT:∀ p,T=some p->p.2=.none
 lo:X.s₀.heap.get? e=none/\∀ p,T=some p->X.s₀.heap.get? p.1=none
 fr:H e=none/\∀ p,T=some p->H p.1=none
 pn:∀ q∈X.pn++a5X,q.1≠e/\∀ p,T=some p->q.1≠p.1
noncomputable def iK (P:VQ)(w:V6):fX:=fun outer H s E e a=>∃ b H' cls c T,e=.ref b/\a.os=s.os/\Z8 a.gens/\Un (dJ outer) [] H H' s.heap a.heap/\HOk P w H' a.heap /\
 XRec a.heap b cls c (some (T,.none))/\s.heap.get? b=none/\s.heap.get? T=none/\H' b=none/\H' T=none/\E cls c H'
section
variable {X:Cx}{a5X:List (Addr×WY)}{σ:L2.St}{H H':Hp}{s s':Vp}{e:Addr}{cls:Value}{dc:Option Addr}{T:Option (Addr×Value)}
theorem XKept.hok {P:VQ}{w:V6}{h h':Wj}{fs:List Addr}(k:XKept fs e T h h')(ok:HOk P w H h)(l:H e=none)(j:∀ p,T=some p->H p.1=none)(m:∀ b∈fs,H b=none):HOk P w H h':=fun b u q=>by
 have ne:∀ c v,H c=some v->c≠e/\(∀ p,T=some p->c≠p.1)/\c∉fs:=fun c v hc=>
  ⟨(fun z=>by rw [z,l] at hc;cases hc),(fun p n z=>by rw [z,j p n] at hc;cases hc),(fun z=>by rw [m c z] at hc;cases hc)⟩
 refine (ok b u q).stay (fun c v hc g=>?_) (fun _ g=>g) fun _ _ g=>g
 rcases hc with rfl|hc
 ·obtain ⟨a,d,i⟩:=ne c u q
  exact k.keep c v g a d i
 ·obtain ⟨a,d,i⟩:=ne c _ hc
  exact k.keep c v g a d i
theorem M9 {E:XK}{v:Value}(l:X.ex=[])(I:Inv X a5X σ H s)(h:iK X.prog X.w X.stack H s E v s'):∃ e H' cls dc T,v=.ref e/\Inv X a5X σ H' s'/\Ex X a5X H' s' e cls dc (some (T,.none))/\E cls dc H':=by
 obtain ⟨e,H',cls,dc,T,rfl,A,i,un,hok,B,m,n,r,u,w⟩:=h
 have j:∀ a,s.heap.get? a=none->X.s₀.heap.get? a=none:=fun a x=>by
  cases q:X.s₀.heap.get? a with
  | none=>rfl
  | some o=>
   obtain ⟨G,g⟩:=I.base.there a o q (by rw [l];simp)
   rw [x] at g;cases g
 refine ⟨e,H',cls,dc,T,rfl,I.call' (ch:=[]) A un hok i (fun b z=>absurd z (by simp)),⟨B,(fun p d=>by cases d;rfl),⟨j e m,(fun p d=>by cases d;exact j T n)⟩,⟨r,(fun p d=>by cases d;exact u)⟩,fun q y=>?_⟩,w⟩
 have c:=(I.pin q y).1
 exact ⟨(fun z=>by rw [z,m] at c;cases c),(fun p d z=>by cases d;rw [z,n] at c;cases c)⟩
theorem CT {ch:List Addr}(I:Inv X a5X σ H s)(l:X.ex=[])(h1:∀ b∈ch,X.s₀.heap.get? b=none)(q:∀ b∈ch,∃ o vs,s.heap.get? b=some o/\o.data=.fields vs):Inv { X with ex:=ch } a5X σ H s:=by
 have i:∀ b o,X.s₀.heap.get? b=some o->b∉ch:=fun b o a z=>by rw [h1 b z] at a;cases a
 have o:=I.ok
 refine ⟨⟨o.mod,o.kind,o.glob,o.blt,o.above,o.inj,o.has,o.cab,o.hd,o.frames,o.stk,fun b a=>?_,o.bs,o.bsz,fun b j a=>i b j (o.bs b j a).1,fun b a r=>?_,o.funs,o.frf⟩,I.os,I.bare,?_,I.loc,I.cell,I.free,I.freeC,I.pin,I.hok,I.len⟩
 ·obtain ⟨j,vs,n,p⟩:=q b a
  refine ⟨fun z=>?_,fun y c hc z=>?_⟩
  ·obtain ⟨m,⟨A,x,w,d,h,_⟩,_⟩:=I.loc
   have z:b=X.env.locals:=z
   rw [<- z,n] at d
   cases d
   rw [p] at h
   cases h
  ·obtain ⟨v,B,d,h⟩:=I.cell y c hc
   rw [z,n] at d
   cases d
   rw [p] at h
   cases h
 ·obtain ⟨_,j,d,_⟩:=o.funs.mem r
  exact i b j d a
 ·have u:=I.base
  rw [l] at u
  exact u.mono (fun _ z=>z) (by simp)
theorem CU {ch:List Addr}(I:Inv { X with ex:=ch } a5X σ H s)(h:X.ex=[])(h1:∀ b∈ch,X.s₀.heap.get? b=none):Inv X a5X σ H s:=by
 have d:∀ b o,X.s₀.heap.get? b=some o->b∉ch:=fun b o a z=>by rw [h1 b z] at a;cases a
 have o:=I.ok
 have u:=I.base
 refine ⟨⟨o.mod,o.kind,o.glob,o.blt,o.above,o.inj,o.has,o.cab,o.hd,o.frames,o.stk,(by rw [h];intro b z;cases z),o.bs,o.bsz,(by rw [h];intro b _ _ z;cases z),(by rw [h];intro b z;cases z),o.funs,o.frf⟩,I.os,I.bare,?_,I.loc,I.cell,I.free,I.freeC,I.pin,I.hok,I.len⟩
 exact ⟨fun b c a n i _=>u.keep b c a n i (d b c a),fun b c a n i _=>u.slot b c a n i (d b c a),fun b c a n _=>u.free b c a n (d b c a),fun b c a _=>u.there b c a (d b c a),u.tups,u.frzs,u.tbls⟩
noncomputable def l8 (e:Addr)(T:Option (Addr×Value)):List Addr:=e::(match T with|none=>[]|some p=>[p.1])
theorem mem_ch {b:Addr}:b∈l8 e T↔b=e\/∃ p,T=some p/\b=p.1:=by
 unfold l8
 cases T with
 | none=>simp
 | some p=>simp
theorem Ex.kept (h:X.ex=[])(I:Inv X a5X σ H s)(x:Ex X a5X H s e cls dc T){h':Wj}(k:XKept (dJ X.stack) e T s.heap h'):Inv X a5X σ H { s with heap:=h' }:=by
 have r:∀ b∈l8 e T,X.s₀.heap.get? b=none:=fun b a=>by
  rcases mem_ch.mp a with rfl|⟨p,d,rfl⟩
  ·exact x.lo.1
  ·exact x.lo.2 p d
 have G:∀ b∈l8 e T,∃ o l,s.heap.get? b=some o/\o.data=.fields l:=fun b a=>by
  rcases mem_ch.mp a with rfl|⟨p,d,rfl⟩
  ·obtain ⟨o,l,j,_,_,E,_⟩:=x.rc.ob
   exact ⟨o,l,j,E⟩
  ·obtain ⟨_,O,Q,j,B,_⟩:=x.rc.tb p d
   exact ⟨O,Q,j,B⟩
 have ne:∀ b,b∉l8 e T->b≠e/\∀ p,T=some p->b≠p.1:=fun b a=>⟨fun z=>a (mem_ch.mpr (.inl z)),fun p d z=>a (mem_ch.mpr (.inr ⟨p,d,z⟩))⟩
 have i:=CT I h r G
 have w:=i.step (H':=H) (h':=h') (g':=s.gens) (d':=s.drawn) (t':=s.toks) (ch:=l8 e T) (fun b a=>⟨.inl a,(i.ok.exf b a).1,(i.ok.exf b a).2,fun q u=>?_⟩)
  (fun b o M N c g _=>k.keep b o g (ne b c).1 (ne b c).2 fun z=>(VP.mp (I.stkSub b z)).elim M N)
  (fun b o _ _ c g _=>k.slot b o g (ne b c).1 (ne b c).2) (fun _ _ _ _ n=>n) (fun b o c g=>let ⟨_,z⟩:=k.slot b o g (ne b c).1 (ne b c).2;⟨_,z⟩)
  (fun _ _ g=>g) (fun _ _ _ g=>g) (fun b U g=>⟨#[],by rw [g];simp⟩) (fun m J=>?_) (k.hok I.hok x.fr.1 x.fr.2 I.stkFree) I.bare
 ·exact CU w h r
 ·rcases mem_ch.mp a with rfl|⟨p,d,rfl⟩
  ·exact (x.pn q u).1
  ·exact (x.pn q u).2 p d
 ·obtain ⟨R,A,y,K,L⟩:=J
  have v:X.env.locals∉l8 e T:=fun z=>(i.ok.exf _ z).1 rfl
  obtain ⟨Y,g⟩:=k.slot _ _ K (ne _ v).1 (ne _ v).2
  exact ⟨_,A,y,g,L⟩
end
theorem Na {P:VQ}{w:V6}{K:Vk}{u:Str->Option Value}{base:Wj}{N:List Str}{qual:Str}{scope:X1}{f:Addr}{d:Value}{A:VU}{outer:List Z7}{s₀ s:Vp}{H₀ H:Hp}{E:XK}{a5X:List (Addr×WY)}{σ:L2.St}{e:Addr}{cls:Value}{m:Option Addr}{T:Option (Addr×Value)}
  (I:Inv (dW (iK P w) P w K u base N qual scope f d A outer s₀ H₀ E) a5X σ H s)(x:Ex (dW (iK P w) P w K u base N qual scope f d A outer s₀ H₀ E) a5X H s e cls m T)(h:E cls m H) :
  (dW (iK P w) P w K u base N qual scope f d A outer s₀ H₀ E).xe (.ref e) s:=by
 have c:∀ b o,s₀.heap.get? b=some o->b≠e/\(∀ p,T=some p->b≠p.1)/\b≠s₀.heap.objs.size:=fun b o a=>
  ⟨(fun z=>by rw [z] at a;rw [show s₀.heap.get? e=none from x.lo.1] at a;cases a),(fun p J z=>by rw [z] at a;rw [show s₀.heap.get? p.1=none from x.lo.2 p J] at a;cases a),VB (Vu a)⟩
 have r:dJ (envOfC qual scope s₀.heap.objs.size f d::outer)=s₀.heap.objs.size::dJ outer:=rfl
 show VD (VM P w) (A.deeper (envOfC qual scope s₀.heap.objs.size f d)) (a4K (envOfC qual scope s₀.heap.objs.size f d) (.ref e)) _ _ s
 refine M8 x.hT I.ok.frames I.stack rfl x.rc fun Q G O B k=>?_
 refine ⟨e,H,cls,m,G,rfl,I.os,I.bare,⟨fun b o a n l _=>?_,fun b o a n l _=>?_,fun b o a n _=>I.base.free b o a n (by simp [dW]),fun b o a _=>?_,I.base.tups,I.base.frzs,I.base.tbls⟩,k.hok I.hok x.fr.1 x.fr.2 I.stkFree,O,x.lo.1,Zi (Wu I.sz B),x.fr.1,I.hok.fresh B,h⟩
 ·obtain ⟨i,j,v⟩:=c b o a
  refine k.keep b o (I.base.keep b o a n l (by simp [dW])) i j ?_
  rw [r]
  intro z
  rcases VP.mp z with z|z
  ·exact v z
  ·exact l z
 ·obtain ⟨i,j,v⟩:=c b o a
  obtain ⟨M,g⟩:=I.base.slot b o a n l (by simp [dW])
  obtain ⟨y,q⟩:=k.slot b _ g i j
  exact ⟨y,q⟩
 ·obtain ⟨i,j,v⟩:=c b o a
  obtain ⟨L,g⟩:=I.base.there b o a (by simp [dW])
  obtain ⟨M,q⟩:=k.slot b L g i j
  exact ⟨_,q⟩
end L3
namespace L3
open PySem L2
noncomputable abbrev Xn:=Str×List (Str×D)
noncomputable abbrev MR:=aH->Hm->Option (Xn×aH×Hm)
noncomputable abbrev RF:=List D->Hm->Option (Xn×Hm)
noncomputable def Nb (K:Vk)(cls:Value)(x:Str):Prop:=Wz K Wh x=some (some cls)
noncomputable def sV (K:Vk)(π:Nat->Addr)(n:Nat)(H:Hp)(cls:Value)(a:Option Addr)(x:Xn):Prop:=
 Nb K cls x.1/\(x.2=[]/\a=none\/∃ (b:Addr)(c:WY)(vs:List (Str×V)),a=some b/\H b=some (.frz c (.xd vs))/\vs.map (·.1)=x.2.map (·.1)/\IsDs K π n H (vs.map (·.2)) (x.2.map (·.2)))
noncomputable def Wish (X:Cx)(a5X:List (Addr×WY))(π:Nat->Addr)(n:Nat)(H:Hp)(x:Xn)(j:aH)(a:Hm):Prop:=
 ∀ b h c i e d l T,Ext π n H b a.length c->Rp X.K b c a->En X.K b a.length c h j->Inv X a5X h c i->Ex X a5X c i e d l T->sV X.K b a.length c d l x->X.xe (.ref e) i
theorem Wish.after {X:Cx}{a5X:List (Addr×WY)}{π c:Nat->Addr}{n o:Nat}{H m:Hp}{x:Xn}{d:aH}{b:Hm}(h:Wish X a5X π n H x d b)(e:Ext π n H c o m):Wish X a5X c o m x d b:=
 fun j l p s a i q T r=>h j l p s a i q T (e.trans r)
structure QRE (X:Cx)(e:Expr)(r:MR):Prop where
 h:∀ a5X s σ H π ρ μ x ρ' μ',Inv X a5X σ H s->Rp X.K π H μ->En X.K π μ.length H σ ρ->r ρ μ=some (x,ρ',μ')->Wish X a5X π μ.length H x ρ' μ'->VD (VM X.prog X.w) X.A (eval e X.env) (fun _ _=>False) X.xe s
structure QR (X:Cx)(st:Stmt)(r:MR):Prop where
 h:∀ a5X s σ H π ρ μ x ρ' μ',Inv X a5X σ H s->Rp X.K π H μ->En X.K π μ.length H σ ρ->r ρ μ=some (x,ρ',μ')->Wish X a5X π μ.length H x ρ' μ'->VD (VM X.prog X.w) X.A (exec st X.env) (fun _ _=>False) X.xe s
structure QRB (X:Cx)(st:List Stmt)(r:MR):Prop where
 h:∀ a5X s σ H π ρ μ x ρ' μ',Inv X a5X σ H s->Rp X.K π H μ->En X.K π μ.length H σ ρ->r ρ μ=some (x,ρ',μ')->Wish X a5X π μ.length H x ρ' μ'->VD (VM X.prog X.w) X.A (execs st X.env) (fun _ _=>False) X.xe s
noncomputable def bU:MR:=fun _ _=>none
theorem iL {X:Cx}{st:Stmt}:QR X st bU:=⟨fun _ _ _ _ _ _ _ _ _ _ _ _ _ h=>by cases h⟩
theorem xT {X:Cx}{e:Expr}:QRE X e bU:=⟨fun _ _ _ _ _ _ _ _ _ _ _ _ _ h=>by cases h⟩
theorem Nc {X:Cx}{st:List Stmt}:QRB X st bU:=⟨fun _ _ _ _ _ _ _ _ _ _ _ _ _ h=>by cases h⟩
section
variable {X:Cx}{e:Expr}{st:Stmt}{rest a b:List Stmt}{r ra rb:MR}{m:MS}{pos:W4}
theorem Nd (j:QRE X e r)(h:eP e=true):QR X (.Expr e pos) r:=
 ⟨fun c s q H o p n x i d I R E l w=>a2x (aP (j.h c s q H o p n x i d I R E l w) fun _ _ z=>z.elim) I.quiet (nI h)⟩
theorem Nf (i:QRE X e r):QR X (.Return (some e) pos) r:=
 ⟨fun c s p H n o l x h d I R E j w=>a4H (aP (i.h c s p H n o l x h d I R E j w) fun _ _ z=>z.elim)⟩
theorem Ng {y:Str}{c:W4}(l:QRE X e r)(h:eP e=true):QR X (.Assign [.Name y c] e pos) r:=
 ⟨fun d s u H p q o x j i I R E n w=>a4I (aP (l.h d s u H p q o x j i I R E n w) fun _ _ z=>z.elim) (nI h)⟩
noncomputable def cY (m:MS)(ra rb:MR):MR:=fun d c=>match ra d c with
 | some p=>some p
 | none=>match m d c with
  | some (.nx,ρ1,μ1)=>rb ρ1 μ1
  | _=>none
theorem Nh (T:QS X.nox st m)(O:QR X st ra)(Q:QRB X rest rb):QRB X (st::rest) (cY m ra rb):=by
 refine ⟨fun i s L H J K G x v o I R E n w=>Zq ?_⟩
 unfold cY at n
 split at n
 ·rename_i p U
  cases n
  exact aP (O.h i s L H J K G x v o I R E U w) fun _ _ z=>z.elim
 ·split at n
  ·rename_i j d N
   have k:=T.h i s L H { nx:=fun h l=>∃ c,Ext J G.length H c d.length l/\Rp X.K c l d/\En X.K c d.length l h j,rt:=fun _ _=>False } (I.wish _)
    ⟨J,K,G,.nx,j,d,R,E,N,fun c h l B A y=>⟨c,B,A,y⟩⟩
   refine Wa k (fun f Y q=>?_) fun _ _ z=>Wl z
   cases f with
   | next=>
    obtain ⟨h,l,M,c,B,A,y⟩:=q
    exact Q.h i Y h l c j d x v o M.unwish A y n (w.after B)
   | ret u=>obtain ⟨_,_,_,_,_,q⟩:=q;exact q.elim
   | brk=>obtain ⟨_,_,_,q⟩:=q;exact q.elim
   | cont=>obtain ⟨_,_,_,q⟩:=q;exact q.elim
  ·cases n
theorem Ni:QRB X [] bU:=Nc
noncomputable def nP (t:MT)(ra rb:MR):MR:=fun c d=>(t c d).bind fun p=>if p.1=true then ra c p.2 else rb c p.2
theorem Nj {c:Expr}{t:MT}(hc:QT X.nox c t)(N:QRB X a ra)(O:QRB X b rb):QR X (.If c a b pos) (nP t ra rb):=by
 refine ⟨fun j s B H L A K x u p I R E l w=>wpAny_If ?_⟩
 obtain ⟨⟨d,i⟩,M,l⟩:=Vj.mp l
 have k:=hc.h j s B H (fun y n=>y=d/\∃ h,Ext L K.length H h i.length n/\Rp X.K h n i) (I.wish _) ⟨L,A,K,d,i,R,E,M,fun h n o v=>⟨rfl,h,o,v⟩⟩
 refine Wa k (fun y J q=>?_) fun _ _ z=>Wl z
 obtain ⟨n,G,rfl,h,o,v⟩:=q
 dsimp only at l
 cases y with
 | true=>
  rw [if_pos rfl] at l
  exact N.h j J B n h A i x u p G.unwish v (E.mono o) l (w.after o)
 | false=>
  rw [if_neg (by decide)] at l
  exact O.h j J B n h A i x u p G.unwish v (E.mono o) l (w.after o)
end
noncomputable def nQ (K:Vk)(n:Nat)(r:RF):Sp:=fun vs H _ E=>vs.length=n/\∃ π ds e x a,Rp K π H e/\IsDs K π e.length H vs ds/\r ds e=some (x,a) /\
 ∀ b d c h,Ext π e.length H b a.length d->Rp K b d a->sV K b a.length d c h x->E c h d
noncomputable def kQ (r:RF)(b:MA):MR:=fun a c=>(b a c).bind fun p=>(r p.1 p.2).map fun q=>(q.1,a,q.2)
section
variable {X:Cx}{k n:Nat}{f:Addr}{fd:Xc}{ps:List Str}{x:Str}{p pos:W4}{e:Expr}{es:List Expr}{ms:MA}{r:RF}
theorem Nk (hex:X.ex=[])(F:FnOk X.prog X.w X.K X.mg X.base (iK X.prog X.w) k f fd ps (nQ X.K n r))(hr:Room k X.A)(hg:Gl X x)(hm:X.mg x=some (.ref f))(hk:Ww X.K (.ref f)=true)(hb:Binds X.K fd ps [])(Y:QA X.nox (e::es) ms n)
  (Z:(x == ("__debug__":Str))=false):QRE X (.Call (.Name x p) (e::es) [] pos) (kQ r ms):=by
 refine ⟨fun U s σ H π ρ μ y ρ' μ' I R E h w=>?_⟩
 obtain ⟨⟨ds,b⟩,h1,h⟩:=Vj.mp h
 obtain ⟨⟨y',j⟩,h2,h⟩:=Vn.mp h
 cases h
 have hst:=Y.s
 have d:=hst
 rw [Wf,Vq] at d
 refine Xo (lK I hg hm ?_ Z)
 have k1:=Y.h pos U s σ H (fun A l=>∃ a,Ext π μ.length H a b.length l/\Rp X.K a l b/\IsDs X.K a b.length l A ds) (I.wish _) ⟨π,ρ,μ,ds,b,R,E,h1,fun a A l L Q M=>⟨a,L,Q,M⟩⟩
 refine a0r (h₀:=X.base) I.ok.mod.kin hk (Wa k1 (fun N s1 ⟨A,l,o,rv,a,L,Q,M⟩=>⟨o.unwish.kIn,?_⟩) fun _ _ z=>Wl z) (fB d.1) (lV d.2)
 have o:=o.unwish
 have hn:A.length=n:=by
  rw [M.length]
  exact Y.l ρ μ ds b h1
 have G:nQ X.K n r A l (fun _ _=>False) (fun i J m=>∃ c,Ext a b.length l c j.length m/\Rp X.K c m j/\sV X.K c j.length m i J y'):=
  ⟨hn,a,ds,b,y',j,Q,M,h2,fun c m i J K O ix=>⟨c,K,O,ix⟩⟩
 have hl:N.length=ps.length:=by rw [<- rv.length];exact F.len _ _ _ _ G
 refine a1k (ZL (F.run X.A X.stack s1 l ⟨N,[]⟩ N A _ _ hr o.env0 (by have:=hb s1 N o.kIn (by simpa using hl);rwa [Zm] at this) rv G) fun rr s' B=>?_)
 cases rr with
 | error v=>
  obtain ⟨ee,m,i,J,T,rfl,I',x',c,K,O,ix⟩:=M9 hex o B
  exact w c σ m s' ee i J (some (T,.none)) (L.trans K) O ((E.mono L).mono K) I' x' ix
 | ok fl=>
  cases fl with
  | ret u=>obtain ⟨_,_,_,_,_,_,_,q⟩:=B;exact q
  | next=>exact Wl B
  | brk=>exact Wl B
  | cont=>exact Wl B
end
noncomputable def xU (n:Nat)(r:MR):RF:=fun ds a=>(r (pU n ds) a).map fun p=>(p.1,p.2.2)
theorem Nl {P:VQ}{w:V6}{K:Vk}{J:Str->Option Value}{base:Wj}{x qual:Str}{st:Stmt}{f:Addr}{G:Xc}{N ps:List Str}{k:Nat}{body:List Stmt}{r:MR}(F:Fun K x qual st f G)(S:FnScope N ps (bR st))(p:ps.length<=N.length)(m:dM st=body)
  (b:∀ (a:Value)(A:VU)(outer:List Z7)(s:Vp)(H:Hp)(E:XK),Room k (A.deeper (YY qual (bR st) s.heap.objs.size f a))->
   QRB (dW (iK P w) P w K J base N qual (bR st) f a A outer s H E) body r):FnOk P w K J base (iK P w) (k+1) f G ps (nQ K ps.length (xU N.length r)):=by
 obtain ⟨oc,od,kV,X,pm,an,a,ct,osl,rfl,lk,n⟩:=F.ex
 refine v8 (CX:=iK P w) (sp:=nQ K ps.length (xU N.length r)) lk n S (fun L H Q E h=>h.1) fun A outer s H L Q E hr h=>⟨fun _ c d=>c=L2.start N L/\d=H,?_,rfl,rfl⟩
 obtain ⟨hv,π,ds,μ,y,μ',R,i,o,kc⟩:=h
 obtain ⟨⟨y',v,q⟩,Z,o⟩:=Vn.mp o
 cases o
 rintro j s1 σ B D I ⟨rfl,rfl⟩
 rw [m]
 refine aP ((b a A outer s B E hr).h j s1 _ B π _ μ y' v q I R (BO i (by rw [hv];exact p)) Z fun u c d s' e l U T Y O E' M x' ix=>?_) fun _ _ z=>Wl z
 exact Na M x' (kc u d l U Y O ix)
end L3
namespace L3
open PySem L2
noncomputable abbrev l9:List Value:=[.type "ValueError",.type "Exception",.type "BaseException",.type "object"]
structure ClsK (K:Vk)(x:Str)(C:Addr):Prop where
 exc:a3O K C l9 "ValueError.__new__" = true
 nm:Wz K Wh x=some (some (.ref C))
theorem Nm {X:Cx}{a5X:List (Addr×WY)}{σ:L2.St}{H:Hp}{s:Vp}(I:Inv X a5X σ H s)(b:X.ex=[]){a:Addr}(c:s.heap.get? a=none):X.s₀.heap.get? a=none:=by
 cases q:X.s₀.heap.get? a with
 | none=>rfl
 | some o=>
  obtain ⟨d,g⟩:=I.base.there a o q (by rw [b];simp)
  rw [c] at g;cases g
end L3
namespace L3
open PySem L2 PySem.Spec PyProof.Rows
noncomputable def nR (K:Vk)(C:Addr):Option (List Value):=match K.lookup C with
 | some ⟨.type "type",_,.cls cd,sl⟩=>(match cd.mro,sl.toList with
  | .ref C'::bm,[_,_,_,_,some (.builtin n),_]=>if (C' == C&&n == "ValueError.__new__" && !cd.hasDel&&bm.contains (.type "BaseException")&&cd.hasDict)=true then some bm else none
  | _,_=>none)
 | _=>none
theorem xV {K:Vk}{h:Wj}{C:Addr}{bm:List Value}(X:K.In h)(q:nR K C=some bm) :
  (∃ N r s bs u b o a p d i j l m,h.get? C=some (Xk r s C N bs bm true u b o a p d i j l m "ValueError.__new__"))/\bm.contains (.type "BaseException")=true:=by
 unfold nR at q
 split at q
 ·rename_i p B M H
  split at q
  ·rename_i O v d i j l n m G I
   split at q
   ·rename_i c
    cases q
    rw [Vq,Vq,Vq,Vq,beq_iff_eq,beq_iff_eq,ZP] at c
    obtain ⟨⟨⟨⟨w,x⟩,y⟩,z⟩,A⟩:=c
    subst w x
    cases B with
    | mk r bs J L s hd u b o a E=>
     cases G
     cases y
     cases A
     have e:M = #[d,i,j,l,some (.builtin "ValueError.__new__"),m]:=a3J.mp I
     subst e
     exact ⟨⟨L,r,s,bs,u,b,o,a,p,d,i,j,l,m,X _ _ H⟩,z⟩
   ·cases q
  ·cases q
 ·cases q
noncomputable def hJ (K:Vk)(x:Str):Option Addr:=match Wz K Wh x with
 | some (some (.ref C))=>some C
 | _=>none
theorem sW {K:Vk}{x:Str}{C:Addr}(h:hJ K x=some C):Wz K Wh x=some (some (.ref C)):=by
 unfold hJ at h
 split at h
 ·cases h;assumption
 ·cases h
noncomputable def qB (K:Vk)(x y:Str):Option Bool:=(hJ K x).bind fun B=>(hJ K y).bind fun C=>(nR K B).bind fun a=>(nR K C).map fun _=>(Vz B::a).contains (.ref C)
section
variable {M:a1G}{A:VU}{E:Value->Vp->Prop}
theorem Nn {s:Vp}{B C e:Addr}{nm q G T:Str}{N L:Addr}{bs bm p a:List Value}{hdct i:Bool}{sn H:List Str}{sub m:List Value}{ab o:Bool}{col j:Option Bool}{dd r:Option Addr}{k0 k1 k2 k3 k5 v w x y z:Option Value}{K:WY}{Q:Bool->Vp->Prop}
  (O:s.heap.get? B=some (Xk nm q B N bs bm hdct sn sub ab col dd k0 k1 k2 k3 k5 "ValueError.__new__")) (I:s.heap.get? C=some (Xk G T C L p a i H m o j r v w x y z "ValueError.__new__"))
  (R:s.heap.get? e=some K)(l:K.cls=.ref B)(c:a.contains (.type "BaseException")=true) (J:Q ((Vz B::bm).contains (.ref C)) s):VD M A (excMatches (.ref e) (.ref C)) Q E s:=by
 obtain ⟨h,g,d,t,U⟩:=s
 have u:(Vz C::a).contains (.type "BaseException")=true:=by rw [Zz,c,Zw]
 have f:=tc_notTuple
 have n:∃ b,(Vz B::bm).contains (.ref C)=b:=⟨_,rfl⟩
 obtain ⟨b,n⟩:=n
 rw [n] at J
 unfold excMatches
 repeat (first|(with_reducible refine Wy R ?_;rw [l])|with_reducible refine Wy I ?_|(with_reducible refine X4 I ?_;rw [u])|(with_reducible refine X4 O ?_;rw [n])|wp_step)
 cases b<;>(wp_walk;exact J)
end
noncomputable abbrev _root_.L2.Cx.hnd (X:Cx)(e:Value):Cx:={ X with A:=X.A.mark (some e),calm:=false,xe:=fun _ _=>False }
section
variable {X:Cx}{a5X:List (Addr×WY)}{σ:L2.St}{H H':Hp}{s s':Vp}{e:Addr}{cls:Value}{dc:Option Addr}{T:Option (Addr×Value)}
theorem CV (I:Inv X a5X σ H s)(v:Value):Inv (X.hnd v) a5X σ H s:=
 ⟨⟨I.ok.mod,I.ok.kind,I.ok.glob,I.ok.blt,I.ok.above,I.ok.inj,I.ok.has,I.ok.cab,(fun z=>nomatch z),I.ok.frames,I.ok.stk,I.ok.exf,I.ok.bs,I.ok.bsz,I.ok.noex,I.ok.exfs,I.ok.funs,I.ok.frf⟩,I.os,I.bare,I.base,I.loc,I.cell,I.free,I.freeC,I.pin,I.hok,I.len⟩
theorem sX (ok:X.Ok){v:Value}(I:Inv (X.hnd v) a5X σ H s):Inv X a5X σ H s:=⟨ok,I.os,I.bare,I.base,I.loc,I.cell,I.free,I.freeC,I.pin,I.hok,I.len⟩
theorem Np {M:a1G}{E:Value->Vp->Prop}{Q:Unit->Vp->Prop}{L:Addr}(j:X.ex=[])(c:X.stack=X.env::X.outer)(B:X.env.frame=some L)(I:Inv X a5X σ H s)(x:Ex X a5X H s e cls dc T)
  (k:∀ s' w,Inv X a5X σ H s'->Ex X a5X H s' e cls dc (some (w,.none))->Q () s'):VD M X.A (a1U (.ref e) X.env) (fun _ h=>VD M X.A (a1T (.ref e) none) Q E h) E s:=by
 refine CS x.hT (by rw [<- c];exact I.ok.frames) (by rw [<- c];exact I.stack) B x.rc fun z y N i u=>?_
 refine xS (s:={ s with heap:=z }) N fun n O _ v=>?_
 have G:XKept (dJ X.stack) e T s.heap n:=by
  rw [c]
  refine ⟨fun b o d l m J=>?_,fun b o d l m=>?_⟩
  ·rw [v b (VB (VL (Vu d) i))]
   exact u.keep b o d l m J
  ·obtain ⟨K,A⟩:=u.slot b o d l m
   refine ⟨K,?_⟩
   rw [v b (VB (VL (Vu d) i))]
   exact A
 refine k { s with heap:=n } y (x.kept j I G) ⟨O,(fun p a=>by cases a;rfl),⟨x.lo.1,fun p a=>?_⟩,⟨x.fr.1,fun p a=>?_⟩,fun q r=>⟨(x.pn q r).1,fun p a=>?_⟩⟩
 ·cases a
  exact Zi (Wu I.sz i)
 ·cases a
  exact I.hok.fresh i
 ·cases a
  exact VB (VL (Vu (I.pin q r).1) i)
theorem Nq {M:a1G}{A:VU}{E:Value->Vp->Prop}{Q:Unit->Vp->Prop}{T:Addr}(c:X.ex=[])(I:Inv X a5X σ H s)(x:Ex X a5X H s e cls dc (some (T,.none)))
  (k:∀ s',Inv X a5X σ H s'->Ex X a5X H s' e cls dc (some (T,.none))->Q () s'):VD M A (a1T (.ref e) none) Q E s:=by
 refine xS x.rc fun h i _ d=>k { s with heap:=h } (x.kept c I ⟨fun b o a _ n _=>?_,fun b o a _ n=>⟨o.slots,?_⟩⟩) ⟨i,x.hT,x.lo,x.fr,x.pn⟩
 ·rw [d b (n _ rfl)];exact a
 ·rw [d b (n _ rfl)];exact a
theorem Ex.cell {π:Nat->Addr}{d:Hm}{y:Xn}(j:X.ex=[])(I:Inv X a5X σ H s)(x:Ex X a5X H s e cls dc T)(R:Rp X.K π H d)(A:sV X.K π d.length H cls dc y) :
  ∃ i H',Ext π d.length H i (d++[C.exc y.1 (y.2.map (·.1)) (y.2.map (·.2))]).length H'/\Rp X.K i H' (d++[C.exc y.1 (y.2.map (·.1)) (y.2.map (·.2))])/\Inv X a5X σ H' s/\i d.length=e:=by
 obtain ⟨o,B,q,K,r,v,g5⟩:=x.rc.ob
 have hc:rZ X.K π d.length H e (C.exc y.1 (y.2.map (·.1)) (y.2.map (·.2))) (.frz o (.ext fun _=>True)):=by
  refine ⟨o,_,rfl,by rw [K];exact A.1,⟨B,v⟩,?_⟩
  rcases A.2 with ⟨h,Q⟩|⟨G,Z,us,L,M,N,O⟩
  ·rw [h];exact .inl ⟨rfl,rfl,r.trans Q⟩
  ·exact .inr ⟨G,Z,us,by rw [r];exact L,M,N,O⟩
 obtain ⟨J,E,p1⟩:=R.alloc x.fr.1 hc
 refine ⟨_,_,J,E,?_,p1⟩
 have l:∀ b u,H b=some u->b≠e:=fun b u h z=>by rw [z,x.fr.1] at h;cases h
 have w:∀ b∈[e],X.s₀.heap.get? b=none:=fun b a=>by cases WR.mp a;exact x.lo.1
 have m:=CT I j w fun b a=>by cases WR.mp a;exact ⟨o,B,q,v⟩
 have k:=m.step (H':=aK H e (.frz o (.ext fun _=>True))) (h':=s.heap) (g':=s.gens) (d':=s.drawn) (t':=s.toks) (ch:=[e]) (fun b a=>?_) (fun b o _ _ _ g _=>g) (fun b o _ _ _ g _=>⟨o.slots,g⟩)
  (fun b o Y g n=>?_) (fun b o _ g=>⟨o,g⟩) (fun b xs h=>by rw [a8 (l _ _ h)];exact h) (fun b o u h=>by rw [a8 (l _ _ h)];exact h) (fun b ps h=>⟨#[],by rw [a8 (l _ _ h),h];simp⟩) (fun _ h=>h) ?_ I.bare
 ·exact CU k j w
 ·refine ⟨.inl a,(m.ok.exf b a).1,(m.ok.exf b a).2,fun p U=>?_⟩
  cases WR.mp a
  exact (x.pn p U).1
 ·rw [a8 (fun z=>Y (by rw [z];exact WR.mpr rfl))]
  exact n
 ·intro b u h
  by_cases a:b=e
  ·subst a
   rw [cG] at h
   cases h
   exact ⟨q,trivial,⟨o,q⟩,fun _ _ _ _=>trivial⟩
  ·rw [a8 a] at h
   exact (I.hok b u h).stay (fun _ _ _ g=>g) (fun c g=>by rw [a8 (l _ _ g)];exact g) (fun c xs g=>by rw [a8 (l _ _ g)];exact g)
theorem En.unset {K:Vk}{π:Nat->Addr}{n:Nat}{H:Hp}{σ:L2.St}{b:aH}(E:En K π n H σ b)(i:Nat):En K π n H (σ.set i none) (b.set i none):=by
 refine ⟨by rw [XF,XF];exact E.len,fun j c e=>?_⟩
 rw [a0P] at e ⊢
 by_cases a:i=j
 ·rw [if_pos a] at e
  split at e<;>cases e
 ·rw [if_neg a] at e ⊢
  exact E.get j c e
theorem sY {M:a1G}{A:VU}{E:Value->Vp->Prop}{Q:Unit->Vp->Prop}{i:Nat}{y:Str}{pos:W4}(I:Inv X a5X σ H s)(Y:X.N.Nodup)(N:X.N[i]? = some y)(O:X.env.scope.names.lookup y=some .local)
  (h:∀ s',Inv X a5X (σ.set i none) H s'->Q () s'):VD M A (do bindName X.env y .none;a3X X.env y pos) Q E s:=by
 have Z:X.env.kindOf y=some .local:=O
 have G:(X.env.scope.kind == .class||(X.env.scope.kind == .module&&X.env.locals != X.env.globals))=false:=by rw [I.ok.kind];rfl
 refine Vl (wpAny_bindName (rO (v:=.non) I Y N (.inl O) rfl (fun s1 a _=>?_) (.inr O)))
 unfold a3X
 refine wpAny_onRaise ?_
 unfold unbindName
 refine Vl (wpAny_point (Vl ?_))
 unfold deleteName
 simp only [Z,G]
 rw [if_neg (by decide)]
 obtain ⟨m,hn,hl⟩:=id a.loc
 have r:i<(σ.set i (some V.non)).length:=by rw [a.len];exact (Vx.mp N).1
 have my:(m y).isSome=true:=by
  obtain ⟨u,_,q⟩:=hl i y .non N (by rw [Wg (by simpa using r)]) (.inl O)
  rcases q with ⟨_,q⟩|⟨q,_⟩
  ·rw [q];rfl
  ·rw [Z] at q;rcases q with q|q<;>cases q
 refine Vl (wpAny_nsDel_keeps hn fun h2 v U x=>?_)
 simp only [my,W6,Vy,if_false]
 refine Vr (wpAny_point (h _ ?_))
 have cne:=a.cne
 obtain ⟨oL,_,_,hoL,_⟩:=id hn
 refine ⟨I.ok,a.os,a.bare,⟨fun b o e n R K=>?_,fun b o e n R K=>?_,a.base.free,fun b o e K=>?_,a.base.tups,a.base.frzs,a.base.tbls⟩,⟨_,U,fun j z v' B L e3=>?_⟩,fun y c e=>?_,a.free,a.freeC,fun p hp=>?_,fun b ob e=>?_,by rw [XF];exact I.len⟩
 ·exact (x.2 b (VB (VL (Vu e) I.ok.above))).trans (a.base.keep b o e n R K)
 ·obtain ⟨sl,B⟩:=a.base.slot b o e n R K
  exact ⟨sl,(x.2 b (VB (VL (Vu e) I.ok.above))).trans B⟩
 ·obtain ⟨o',B⟩:=a.base.there b o e K
  exact ⟨o',(x.2 b (VB (VL (Vu e) I.ok.above))).trans B⟩
 ·have J:j≠i:=fun J=>by
   subst J
   rw [Wg (by simpa using r)] at L
   cases L
  rw [WM (WB J)] at L
  obtain ⟨u',r',q⟩:=hl j z v' B (by rw [WM (WB J)];exact L) e3
  refine ⟨u',r',?_⟩
  rcases q with ⟨k,e⟩|⟨k,c,e,w⟩
  ·refine .inl ⟨k,?_⟩
   have:z≠y:=fun e=>J (vG Y B (e ▸ N))
   simp [this,e]
  ·exact .inr ⟨k,c,e,w.sameBut x (cne z c e)⟩
 ·obtain ⟨w',z⟩:=a.cell y c e
  exact ⟨w',z.sameBut x (cne y c e)⟩
 ·obtain ⟨e,n,ne,nf,d⟩:=a.pin p hp
  exact ⟨(x.2 p.1 ne).trans e,n,ne,nf,d⟩
 ·refine (a.hok b ob e).stay (fun c w' hc q=>(x.2 c ?_).trans q) (fun _ q=>q) fun _ _ q=>q
  intro z
  have l:=a.free
  rw [<- z] at l
  rcases hc with hc|hc
  ·rw [hc,e] at l;cases l
  ·rw [l] at hc;cases hc
end
noncomputable def kR (m:MS)(r:MR)(sup:Str->Option Bool)(i:Nat)(c:MS):MS:=fun b a=>match r b a with
 | some p=>if sup p.1.1=some true then (c (p.2.1.set i (some (.loc p.2.2.length))) (p.2.2++[C.exc p.1.1 (p.1.2.map (·.1)) (p.1.2.map (·.2))])).map fun q=>(q.1,q.2.1.set i none,q.2.2) else none
 | none=>m b a
theorem Nr {X:Cx}{body hb:List Stmt}{l:Stmt}{c y:Str}{cp hp pos:W4}{L:Addr}{i:Nat}{m mh:MS}{r:MR}{sup:Str->Option Bool}(Q:X.ex=[])(hst:X.stack=X.env::X.outer)(hf:X.env.frame=some L)(hN:X.N.Nodup)
  (hi:X.N[i]? = some y)(hy:X.env.scope.names.lookup y=some .local)(hg:Gl X c)(hdb:(c == ("__debug__":Str))=false) (hs:∀ x b,sup x=some b->qB X.K x c=some b)
  (hm:QB X.nox body m)(hr:∀ E,QRB (X.wish E) body r)(hh:∀ v,QB (X.hnd v) (l::hb) mh) :
  QS X (.Try body [.ExceptHandler (some (.Name c cp)) (some y) (l::hb) hp] [] [] pos) (kR m r sup i mh):=by
 refine ⟨fun j s A H D I t=>wpAny_Try_except ?_⟩
 obtain ⟨π,ρ,μ,fl,ρ',μ',R,En0,o,n⟩:=t
 unfold kR at o
 split at o
 ·rename_i p hp'
  obtain ⟨x,ρ1,Z⟩:=p
  dsimp only at o
  split at o
  ·rename_i w
   obtain ⟨⟨fl2,ρ2,μ2⟩,hq,o⟩:=Vn.mp o
   cases o
   refine aP ((hr (fun e s₁=>VD (VM X.prog X.w) X.A (a1U e X.env) (fun _ s₂=>VD (VM X.prog X.w) X.A (a1T e none) (fun _ s₃=>VD (VM X.prog X.w) X.A (handleBy e X.env [.ExceptHandler (some (.Name c cp)) (some y) (l::hb) hp]) (SP X j D) X.xe s₃) X.xe s₂) X.xe s₁)).h j s A H π ρ μ x ρ1 Z (I.wish _) R En0 hp' ?_) fun _ _ z=>z.elim
   intro π1 σ1 H1 s1 e N dc T e1 R1 E1 I1 Y ix
   have I1:=I1.unwish
   have Y:Ex X j H1 s1 e N dc T:=⟨Y.rc,Y.hT,Y.lo,Y.fr,Y.pn⟩
   refine Np Q hst hf I1 Y fun s2 T2 I2 x2=>?_
   obtain ⟨B,hB⟩:∃ B,hJ X.K x.1=some B:=by
    have:=hs _ _ w
    unfold qB at this
    obtain ⟨B,hB,_⟩:=Vj.mp this
    exact ⟨B,hB⟩
   have a:=hs _ _ w
   unfold qB at a
   rw [hB,VJ] at a
   obtain ⟨Ca,hC,a⟩:=Vj.mp a
   obtain ⟨b1,hb1,a⟩:=Vj.mp a
   obtain ⟨b2,hb2,a⟩:=Vn.mp a
   have hcls:N=.ref B:=by
    have h1:Wz X.K Wh x.1=some (some N):=ix.1
    rw [sW hB] at h1
    cases h1;rfl
   subst hcls
   have hmg:X.mg c=some (.ref Ca):=Y2 I.mod.kin I.mod.glob (sW hC)
   have kin:=I2.kIn
   obtain ⟨⟨N1,qU,q1,bs1,sn1,su1,ab1,col1,dd1,a0,a1,a2,a3,a5,o1⟩,_⟩:=xV kin hb1
   obtain ⟨⟨N2,nm2,q2,bs2,sn2,su2,ab2,col2,dd2,c0,c1,c2,c3,c5,o2⟩,ob2⟩:=xV kin hb2
   obtain ⟨oe,vs,g1,g2,_⟩:=x2.rc.ob
   refine wpAny_handleBy_cons (codeAny_handlers_test ?_) (by intro q;cases q)
   refine lK (X:=X.hnd (.ref e)) (CV I2 (.ref e)) hg hmg ?_ hdb
   refine Nn o1 o2 g1 g2 ob2 ?_
   rw [a]
   dsimp only [if_true]
   refine codeAny_handlers_suite_as ?_
   refine Nq Q I2 x2 fun s3 I3 x3=>?_
   obtain ⟨π4,H4,e4,R4,I4,p4⟩:=x3.cell Q I3 R1 ix
   refine rO (v:=.ref e) I4 hN hi (.inl hy) rfl (fun s5 I5 _=>?_) (.inr hy)
   have dl:IsD X.K π4 (Z++[C.exc x.1 (x.2.map (·.1)) (x.2.map (·.2))]).length H4 (.ref e) (.loc Z.length):=by
    rw [<- p4]
    exact .loc (by simp)
   have k:=(hh (.ref e)).h j s5 _ H4 { nx:=fun A H=>D.nx (A.set i none) H,bk:=fun A H=>D.bk (A.set i none) H,ct:=fun A H=>D.ct (A.set i none) H,rt:=D.rt } (CV I5 (.ref e))
    ⟨π4,_,_,fl2,ρ2,μ2,R4,(E1.mono e4).set dl i,hq,?_⟩
   ·refine Wa k (fun f s6 q=>?_) fun _ _ z=>Wl z
    cases f with
    | next=>
     obtain ⟨σ6,J,K,U⟩:=q
     exact sY (sX I.ok K) hN hi hy fun s7 M=>⟨_,J,M,U⟩
    | brk=>
     obtain ⟨σ6,J,K,U⟩:=q
     exact sY (sX I.ok K) hN hi hy fun s7 M=>⟨_,J,M,U⟩
    | cont=>
     obtain ⟨σ6,J,K,U⟩:=q
     exact sY (sX I.ok K) hN hi hy fun s7 M=>⟨_,J,M,U⟩
    | ret u=>
     obtain ⟨v6,σ6,J,K,r6,U⟩:=q
     exact sY (sX I.ok K) hN hi hy fun s7 M=>⟨v6,_,J,M,r6,U⟩
   ·have ee:=e1.trans e4
    cases fl2 with
    | nx=>exact fun h σ' G O R' E'=>n h _ G (ee.trans O) R' (E'.unset i)
    | bk=>exact fun h σ' G O R' E'=>n h _ G (ee.trans O) R' (E'.unset i)
    | ct=>exact fun h σ' G O R' E'=>n h _ G (ee.trans O) R' (E'.unset i)
    | rt d=>exact fun h v G O=>n h v G (ee.trans O)
  ·cases o
 ·refine Wa (hm.h j s A H D (I.wish _) ⟨π,ρ,μ,fl,ρ',μ',R,En0,o,n⟩) (fun f s1 q=>?_) fun _ _ z=>Wl z
  cases f with
  | next=>exact YV (SP.unwish (f:=.next) q)
  | brk=>exact SP.unwish (f:=.brk) q
  | cont=>exact SP.unwish (f:=.cont) q
  | ret u=>exact SP.unwish (f:=.ret u) q
end L3
namespace L3
open PySem L2 PySem.Spec PyProof.Rows
noncomputable abbrev nS (h:Wj)(C:Addr)(rest:List Value):Wj:=(h.push { cls:=.type "tuple",data:=.seq rest.toArray }).push { cls:=.ref C,data:=.fields #[.ref h.objs.size,.none,.none,.none,.bool false,.none] }
theorem sZ {h:Wj}{C:Addr}{rest:List Value}:∀ b o,h.get? b=some o->(nS h C rest).get? b=some o:=fun b o q=>Vo _ (Vo _ q)
theorem CW (h:Wj)(C:Addr)(rest:List Value):(nS h C rest).get? (h.objs.size+1)=some { cls:=.ref C,data:=.fields #[.ref h.objs.size,.none,.none,.none,.bool false,.none] }:=by heap_get
section
variable {prog:VQ}{w:V6}{A:VU}{E:Value->Vp->Prop}{s:Vp}
variable {nm q:Str}{C N fI:Addr}{bs bm bmB:List Value}{hdct:Bool}{sn:List Str}{sub:List Value}{ab:Bool}{col:Option Bool}{dd:Option Addr}{k0 k1 k2 k3 k5:Option Value}{B newId initId:String}{mN:Str->Option Value}{rest:List Value}
theorem Nt (F:ExcBaseFacts B newId initId bmB)(T:a2r s.heap bmB bm){m:WY}{Q:Fin->Vp->Prop}(a:s.heap.get? C=some (Xk nm q C N bs bm hdct sn sub ab col dd k0 k1 k2 k3 k5 newId))(z:s.heap.Ns N mN)(v:mN "__init__" = some (.ref fI))
  (u:s.heap.get? fI=some m)(i:m.cls=.type "function") (y:rest.length<=VA)
  (G:VD (VM prog w) A (call (.ref fI) (.ref (s.heap.objs.size+1)::rest)) (fun r n=>r=.none/\Q (.done (.ret (.ref (s.heap.objs.size+1)))) n) E { s with heap:=nS s.heap C rest }) :
  VD (VM prog w) A (Builtin.«type.__call__» ⟨.ref C::rest,[]⟩) Q E s:=by
 obtain ⟨h,g,d,t,H⟩:=s
 repeat (first|with_reducible refine Wy a ?_|with_reducible refine wpAny_madeBy_exc a ?_|wp_step)
 refine codeAny_call_builtin_code (a3o _ F.quiet) (wpAny_check_new_subT F T a (codeAny_exc_new_subT F T a ?_ y))
 show VD _ _ _ _ _ (⟨nS h C rest,g,d,t,H⟩:Vp)
 have b:=sZ (C:=C) (rest:=rest) _ _ a
 have j:=z.keeps (sZ (h:=h) (C:=C) (rest:=rest))
 have e:=sZ (C:=C) (rest:=rest) _ _ u
 have o:=T.keeps (sZ (h:=h) (C:=C) (rest:=rest))
 have p:=CW h C rest
 have c:(Vz C::bm).contains (.ref C)=true:=by simp
 unfold a4w
 repeat (first|with_reducible refine Wy p ?_|(with_reducible refine X4 b ?_;rw [c])|wp_step)
 show VD _ _ (X0 (.ref C) _) _ _ _
 refine wpAny_typeLookup_tail b j o F.mroIs F.init.lookup ?_
 rw [v]
 refine Wi (Vl ?_)
 unfold bindSpecial
 refine Vl (ZK (T:="function") ⟨_,e,i⟩ ?_)
 rw [if_pos (by decide)]
 refine Vr (Vl (Wa G (fun r n l=>?_) fun _ _ x=>x))
 obtain ⟨rfl,l⟩:=l
 wp_walk
 exact l
theorem Nu (F:ExcBaseFacts B newId initId bmB)(T:a2r s.heap bmB bm){c:WY}{Q:Value->Vp->Prop}(a:s.heap.get? C=some (Xk nm q C N bs bm hdct sn sub ab col dd k0 k1 k2 k3 k5 newId))(l:s.heap.Ns N mN)(i:mN "__init__" = some (.ref fI))
  (e:s.heap.get? fI=some c)(b:c.cls=.type "function") (j:rest.length<=VA)
  (m:VD (VM prog w) (A.under (.builtin "type.__call__" ⟨.ref C::rest,[]⟩)) (call (.ref fI) (.ref (s.heap.objs.size+1)::rest)) (fun r n=>r=.none/\Q (.ref (s.heap.objs.size+1)) n) E { s with heap:=nS s.heap C rest }) :
  VD (VM prog w) A (call (.ref C) rest) Q E s:=by
 have o:=tc_lookup
 have p:=tc_bind (.ref C)
 have u:s.TypeIs (.ref C) "type":=⟨_,a,rfl⟩
 obtain ⟨h,g,d,t,v⟩:=s
 refine a1k (codeAny_of_tree ?_)
 show VD _ _ (callAny (.ref C) _) _ _ _
 repeat (any_goals (first|assumption|with_reducible refine Wy a ?_|wp_step))
 refine ⟨rfl,?_⟩
 exact codeAny_call_builtin_at (a3o _ (by decide +kernel)) entry_typeCall (wpAny_check_type_call_sub a (Nt F T a l i e b j m))
theorem Nv {env:Z7}{x:a4W Value}{Q:Flow->Vp->Prop}(b:bm.contains (.type "BaseException")=true) (r:A.handled=none)
  (h:VD (VM prog w) A x (fun v a=>∃ e i l,v=.ref e/\a.heap.get? C=some (Xk nm q C N bs bm hdct sn sub ab col dd k0 k1 k2 k3 k5 newId)/\a.heap.get? e=some i/\i.cls=.ref C/\i.data=.fields l/\l[1]? = some .none/\E (.ref e) a) E s) :
  VD (VM prog w) A (raiseStmt env (some x) none) Q E s:=by
 have j:(Vz C::bm).contains (.type "BaseException")=true:=by rw [Zz,b,Zw]
 unfold raiseStmt
 refine Vl (Wa h (fun v a c=>?_) fun _ _ x=>x)
 obtain ⟨e,i,l,rfl,m,n,hc,hd,o,p⟩:=c
 obtain ⟨G,H,u,y⟩:=i
 cases hc
 cases hd
 obtain ⟨z,g,d,J,I⟩:=a
 repeat (first|with_reducible refine Wy n ?_|with_reducible refine Wy m ?_|(with_reducible refine X4 m ?_;rw [j])|with_reducible refine XU n rfl o ?_|wp_step)
 exact wpAny_raiseNew_none r p
theorem Nw {M:a1G}{o:WY}{x:Addr}{a v:Value}{Q:Unit->Vp->Prop}(T:a2r s.heap l9 bm)(e:s.heap.get? C=some (Xk nm q C N bs bm true sn sub ab col dd k0 k1 k2 k3 k5 newId))(j:s.heap.get? x=some o)(hc:o.cls=.ref C)(i:Q () s) :
  VD M A (a0i "object.__setattr__" ⟨[.ref x,a,v],[]⟩) Q E s:=by
 have b:=ZD
 have c:(Vz C::bm).contains (.type "object")=true:=by rw [Zz,T.hasType b.hasOwner,Zw]
 have l:=b.args (.ref x) a v
 obtain ⟨h,g,d,t,m⟩:=s
 simp only [a0i,b.kind,b.split]
 refine Vl ?_
 unfold a4w
 repeat (first|(with_reducible refine Wy j ?_;rw [hc])|(with_reducible refine X4 e ?_;rw [c])|wp_step)
 exact i
theorem Nx {name:Str}{tk:a4V}{v:Value}{x:Addr}{o:WY}{vs:Array Value}{Q:Fin->Vp->Prop}(T:a2r s.heap l9 bm)(K:s.heap.get? C=some (Xk nm q C N bs bm true sn sub ab col dd k0 k1 k2 k3 k5 newId))
  (R:YC (VM prog w) s.heap (X0 (.ref C) name) none)(G:s.heap.get? x=some o)(hc:o.cls=.ref C)(hd:o.data=.fields vs)(hnd:o.dict=none)
  (M:∀ a U J,a.get? x=some { o with dict:=some s.heap.objs.size }->a.get? s.heap.objs.size=some U->a.Ns1 s.heap.objs.size (fun y=>if y=name then some v else none)->(∀ b I,b≠x->s.heap.get? b=some I->a.get? b=some I)->Q (.done (.ret .none)) { s with heap:=a,toks:=J }) :
  VD (VM prog w) A (Builtin.«object.__setattr__» ⟨[.ref x,.str name tk,v],[]⟩) Q E s:=by
 have X:=ZD
 have c:refuseLoop (.ref x) "__setattr__" (.ref C::bm)=pure ():=by
  rw [a5P]
  clear K R M
  induction T with
  | base=>exact X.passes _
  | own _ _ _ _ ih=>rw [a5P];exact ih
 obtain ⟨h,g,d,t,os⟩:=s
 unfold Builtin.«object.__setattr__»
 repeat (first|rw [refuse_eq]|rw [c]|(with_reducible refine Wy G ?_;rw [hc])|with_reducible refine wpAny_mroOf_exc K ?_|with_reducible refine Yp (s:=⟨h,g,d,_,os⟩) R ?_|wp_step)
 rw [hnd,if_neg (by simp [typeHasDict])]
 rw [hd]
 have l:(h.push { cls:=.type "dict",data:=.dict #[] }).get? x=some o:=Vo _ G
 have m:x≠h.objs.size:=VB (Vu G)
 refine Vl (wpAny_alloc' ?_)
 refine Vl (wpAny_update' l (Vr ?_))
 have H:((h.push { cls:=.type "dict",data:=.dict #[] }).update x fun o=>{ cls:=o.cls,dict:=some h.objs.size,data:=o.data,slots:=o.slots }).get? x=some { o with dict:=some h.objs.size }:=by
  refine WA _ l ?_
  obtain ⟨oc,U,odt,osl⟩:=o
  cases hd
  rfl
 have u:((h.push { cls:=.type "dict",data:=.dict #[] }).update x fun o=>{ cls:=o.cls,dict:=some h.objs.size,data:=o.data,slots:=o.slots }).get? h.objs.size=some { cls:=.type "dict",data:=.dict #[] }:=
  (a2Y _ _ _ _ m.symm).trans (Heap.get?_push_at rfl rfl)
 have z:((h.push { cls:=.type "dict",data:=.dict #[] }).update x fun o=>{ cls:=o.cls,dict:=some h.objs.size,data:=o.data,slots:=o.slots }).Ns h.objs.size (fun _=>none):=⟨_,#[],_,u,rfl,(fun e he=>absurd he (by simp)),fun _=>rfl⟩
 show VD _ _ (Z3 h.objs.size (.str name tk) name v) _ _ _
 unfold Z3 a3U
 refine Vl (Vr (Vl (wpAny_nsSet1 (Heap.Ns1.of_empty z) fun a i O=>?_)))
 obtain ⟨oD,Z,Y,j,r,p⟩:=i.count (Within.cons name v Within.nil)
 refine Vl (wpAny_lookBehind j (by rw [r];exact pastItsLine_dict (Wu p (by rw [V1,Zl,VS];omega))) ?_)
 wp_walk
 exact M a oD _ ((O.2 x m).trans H) j i fun b I n L=>(O.2 b (VB (Vu L))).trans ((a2Y _ _ _ _ n).trans (Vo _ L))
theorem Ny {name:Str}{v:Value}{x:Addr}{o:WY}{vs:Array Value}{Q:Unit->Vp->Prop}(T:a2r s.heap l9 bm)(m:s.heap.get? C=some (Xk nm q C N bs bm true sn sub ab col dd k0 k1 k2 k3 k5 newId))
  (H:YC (VM prog w) s.heap (X0 (.ref C) "__setattr__") (some (.builtin "object.__setattr__"))) (I:YC (VM prog w) s.heap (X0 (.ref C) name) none)
  (i:s.heap.get? x=some o)(hc:o.cls=.ref C)(hd:o.data=.fields vs)(hnd:o.dict=none)
  (G:∀ a j c,a.get? x=some { o with dict:=some s.heap.objs.size }->a.get? s.heap.objs.size=some j->a.Ns1 s.heap.objs.size (fun y=>if y=name then some v else none)->(∀ b n,b≠x->s.heap.get? b=some n->a.get? b=some n)->Q () { s with heap:=a,toks:=c }) :
  VD (VM prog w) A (setAttr (.ref x) name v) Q E s:=by
 have e:=ZD
 have J:=e.slot.bind (.ref x)
 obtain ⟨h,g,d,t,l⟩:=s
 unfold setAttr callSpecial? specialOf
 repeat (any_goals (first|assumption|(with_reducible refine Wy i ?_;rw [hc])|with_reducible refine Yp (s:=⟨h,g,d,_,l⟩) H ?_|wp_step))
 refine a0H e.slot.plain e.entry (Nw (s:=⟨h,g,d,t+1,l⟩) T m i hc (Nx (s:=⟨h,g,d,t+1,l⟩) T m I i hc hd hnd fun a j c p r u z=>?_))
 repeat (any_goals (first|assumption|wp_step))
 exact G a j c p r u z
end
end L3
namespace L3
open PySem L2 PySem.Spec PyProof.Rows
noncomputable def XO (e C:Addr)(a:Option Addr):HO:=.ext fun h=>∃ o vs,h.get? e=some o/\o.cls=.ref C/\o.dict=a/\o.data=.fields vs/\vs[1]? = some .none/\∃ t,vs[0]? = some (.ref t)
theorem xW {P:VQ}{w:V6}{H:Hp}{h:Wj}{e C:Addr}{b:Option Addr}{o:WY}{vs:Array Value}{t:Addr}(h1:h.get? e=some o)(d:o.cls=.ref C)(i:o.dict=b)(j:o.data=.fields vs)(l:vs[1]? = some .none)(m:vs[0]? = some (.ref t)):ObjOk P w H h e (XO e C b):=
 ⟨⟨o,vs,h1,d,i,j,l,t,m⟩,⟨o,h1⟩,fun _ _ ⟨n,a,c,g⟩ k=>⟨n,a,k _ c,g⟩⟩
noncomputable def tB (K:Vk)(C f:Addr):Bool:=match K.lookup C with
 | some ⟨.type "type",_,.cls cd,sl⟩=>(match cd.mro,sl.toList with
  | .ref C'::bm,[_,_,_,_,some (.builtin n),_]=>C' == C&&n == "ValueError.__new__" && !cd.hasDel&&cd.hasDict&&PySem.W.tailIn K l9 bm&&PySem.W.nsOkIn K cd.ns&&Wz K cd.ns "__init__" == some (some (.ref f))
  | _,_=>false)
 | _=>false
theorem Nz {K:Vk}{h:Wj}{N:Addr}{m:Str->Option Value}{n:Str}{v:Value}(X:K.In h)(G:h.Ns N m)(e:Wz K N n=some (some v)):m n=some v:=by
 obtain ⟨o,r,p,j,hd,_,i⟩:=G
 unfold Wz at e
 split at e
 ·rename_i c d b s u q
  have g:=X _ _ q
  rw [j] at g
  cases g
  cases hd
  split at e
  ·rename_i l a
   cases e
   rw [<- i n]
   unfold nsFind findBy
   rw [<- Array.find?_toList,a]
   rfl
  ·split at e<;>cases e
 ·cases e
theorem xX {K:Vk}{h:Wj}{C f:Addr}(X:K.In h)(q:tB K C f=true) :
  ∃ d N s u bs v b p a r i j l m o w,h.get? C=some (Xk s u C N bs d true v b p a r i j l m o "ValueError.__new__")/\h.Ns N w/\w "__init__" = some (.ref f)/\a2r h l9 d:=by
 unfold tB at q
 split at q
 ·rename_i r x R A
  split at q
  ·rename_i T d i j l m n o z B
   rw [Vq,Vq,Vq,Vq,Vq,Vq,beq_iff_eq,beq_iff_eq,beq_iff_eq,ZP] at q
   obtain ⟨⟨⟨⟨⟨⟨H,I⟩,J⟩,Q⟩,L⟩,M⟩,O⟩:=q
   subst H I
   cases x with
   | mk s bs E G u hd v b p a y=>
    cases z
    cases J
    cases Q
    have e:R = #[i,j,l,m,some (.builtin "ValueError.__new__"),o]:=a3J.mp B
    subst e
    have c:=PySem.W.isNs_of_in X M
    exact ⟨d,G,s,u,bs,v,b,p,a,r,i,j,l,m,o,_,X _ _ A,.of_isNs c,Nz X (.of_isNs c) O,PySem.W.tail_of_in X L⟩
  ·cases q
 ·cases q
noncomputable def xY (K:Vk)(B:Addr):Bool:=PySem.W.readsIn K B (.type "type")&&(match a3j K (.ref B) (.type "type") "__init__" with|some (.val (.builtin n))=>n == "ValueError.__init__" | _=>false) &&
 Zx K (.ref B) "__getattribute__" == some (some (.builtin "type.__getattribute__"))
noncomputable def nU (C:Addr)(b:Str):Sp:=fun vs H Q _=>∃ e v,vs=[V.ref e,v]/\H e=some (XO e C none)/\∀ a c,H a=none->a≠e->Q .non (aK (aK H e (XO e C (some a))) a (.frz c (.xd [(b,v)])))
structure InitK (K:Vk)(C f B:Addr)(bn at':Str):Prop where
 cls:tB K C f=true
 base:xY K B=true
 bnm:Wz K Wh bn=some (some (.ref B))
 set:WH K (.ref C) "__setattr__" = some (some (.builtin "object.__setattr__"))
 none:WH K (.ref C) at'=some none
section
variable {X:Cx}{a5X:List (Addr×WY)}{σ:L2.St}{H:Hp}{s:Vp}{e C f B:Addr}{bn at':Str}
theorem NA {Q:Value->Vp->Prop}{E:Value->Vp->Prop}{us:List Value}(c:InitK X.K C f B bn at')(I:Inv X a5X σ H s)(j:H e=some (XO e C none))(hl:us.length<=VA)
  (k:∀ x,Inv X a5X σ H x->Q .none x):VD (VM X.prog X.w) X.A (call (.builtin "ValueError.__init__") (.ref e::us)) Q E s:=by
 obtain ⟨Y,N,nm,qn,bs,sn,O,U,A,Z,k0,k1,k2,k3,k5,mN,K,hn,_,T⟩:=xX I.kIn c.cls
 have F:=Zu
 obtain ⟨⟨o,R,p,r,G,i,J,ta,v⟩,_⟩:=I.hok e _ j
 obtain ⟨h,g,d,t,M⟩:=s
 refine a1k (a0H F.init.plain F.initEntry (wpAny_check_init_subT F T K p r ?_))
 have a:(h.push { cls:=.type "tuple",data:=.seq us.toArray }).get? e=some o:=Vo _ p
 have w:0<R.size:=(Xg.mp v).1
 unfold Builtin.«BaseException.__init__»
 repeat (first|with_reducible refine XU a i v ?_|with_reducible refine YH a i w ?_|wp_step)
 have same:aK H e (XO e C none)=H:=by
  funext b
  unfold aK
  split
  ·rename_i z;rw [z,j]
  ·rfl
 have y:Inv X a5X σ H ⟨h.push { cls:=.type "tuple",data:=.seq us.toArray },g,d,t,M⟩:=I.kept (t':=t) fun b u q=>Vo _ q
 have m:=X7 i (·.setIfInBounds 0 (Vz h.objs.size))
 have n:=WA (Zg (·.setIfInBounds 0 (Vz h.objs.size))) a (Yk m)
 have l:=y.write (x:=e) (e:=e) (o:=XO e C none) (h':=(h.push { cls:=.type "tuple",data:=.seq us.toArray }).update e (Zg (·.setIfInBounds 0 (Vz h.objs.size)))) (t':=t) (by rw [j];trivial) (.inl rfl) (fun b u L q=>by rw [Wr _ _ (WB L)];exact q) ⟨_,n⟩
  (xW n (by rw [a0Y];exact r) (by rw [CP];exact G) m (by rw [a1t];simpa using J) (t:=h.objs.size) (by rw [a1t];simp [w]))
 rw [same] at l
 exact k _ l
theorem NC {env:Z7}{bn sf l:Str} {kk} {c d i j b:W4}(m:(d.endLine == b.line)=true):eval (.Call (.Attribute (.Name bn c) "__init__" d) [.Name sf i,.Constant (.str l) kk j] [] b) env=(do
   let h <- eval (.Name bn c) env
   standAt d.atName
   let (f,first) <- holding [h] (getMethod h "__init__" (do return (<- importBound (.Name bn c) env).getD true))
   callWith b f first (Yi b (V5 [.Name sf i,.Constant (.str l) kk j] env)) (a2B b (a0F [] env))):=by
 rw [arm_eval_Call]
 have n:∀ a,methodCallPos a (.Name bn c) env d b=pure b:=fun a=>by
  unfold methodCallPos
  rw [m]
  cases a<;>rfl
 simp only [methodCall,n,pure_bind]
 rfl
theorem ND {v:V}{u:Value}{Q:Unit->Vp->Prop}{E:Value->Vp->Prop}(c:InitK X.K C f B bn at')(I:Inv X a5X σ H s)(j:H e=some (XO e C none))(r:RelV v u)
  (k:∀ s' G A,H G=none->G≠e->Inv X a5X σ (aK (aK H e (XO e C (some G))) G (.frz A (.xd [(at',v)]))) s'->Q () s'):VD (VM X.prog X.w) X.A (setAttr (.ref e) at' u) Q E s:=by
 obtain ⟨bm,N,nm,qn,bs,sn,sub,ab,col,dd,k0,k1,k2,k3,k5,mN,hC,hn,_,T⟩:=xX I.kIn c.cls
 obtain ⟨⟨o,vs,R,U,g3,Y,g5,ta,g6⟩,_⟩:=I.hok e _ j
 refine Ny T hC (Yj I.kIn c.set) (Yj I.kIn c.none) R U Y g3 fun h' A L O a2 a3 p=>?_
 have ne:s.heap.objs.size≠e:=W8 (Vu R)
 have Z:H s.heap.objs.size=none:=I.hok.fresh (Vv _)
 refine k _ s.heap.objs.size A Z ne ?_
 have x:∀ b z,H b=some z->b≠s.heap.objs.size:=fun b z q M=>by rw [M,Z] at q;cases q
 have l:∀ b,b≠e->b≠s.heap.objs.size->aK (aK H e (XO e C (some s.heap.objs.size))) s.heap.objs.size (.frz A (.xd [(at',v)])) b=H b:=fun b h1 h2=>by rw [a8 h2,a8 h1]
 have nx:∀ b z,H b=some z->z≠XO e C none->b≠e:=fun b z q J M=>by rw [M,j] at q;cases q;exact J rfl
 refine I.step (H':=aK (aK H e (XO e C (some s.heap.objs.size))) s.heap.objs.size (.frz A (.xd [(at',v)]))) (h':=h') (g':=s.gens) (d':=s.drawn) (t':=L) (ch:=[]) (fun b h=>nomatch h)
  (fun b i _ _ _ q n=>p b i (fun z=>by rw [z,j] at n;cases n) q) (fun b i _ _ _ q n=>⟨i.slots,p b i (fun z=>by rw [z,j] at n;cases n) q⟩)
  (fun b i _ q n=>?_) (fun b i _ q=>?_) (fun b xs q=>?_) (fun b i z q=>?_) (fun b ps q=>⟨#[],?_⟩) (fun m hm=>?_) ?_ I.bare
 ·rw [l b (fun z=>by rw [z,j] at n;cases n) (VB (Vu q))]
  exact n
 ·by_cases h:b=e
  ·exact ⟨_,by rw [h];exact O⟩
  ·exact ⟨_,p b i h q⟩
 ·rw [l b (nx _ _ q (by intro z;cases z)) (x _ _ q)]
  exact q
 ·rw [l b (nx _ _ q (by intro z;cases z)) (x _ _ q)]
  exact q
 ·rw [l b (nx _ _ q (by intro z;cases z)) (x _ _ q)]
  simpa using q
 ·obtain ⟨oL,es,ep,q1,q2⟩:=hm
  exact ⟨oL,es,ep,p _ _ (fun z=>by have:=I.free;rw [z,j] at this;cases this) q1,q2⟩
 ·intro b z q
  by_cases hd:b=s.heap.objs.size
  ·subst hd
   rw [cG] at q
   cases q
   refine ⟨a2,_,a3,fun y=>?_⟩
   by_cases K:y=at'
   ·subst K
    simp [RelO,r]
   ·have:(y == at')=false:=beq_eq_false_iff_ne.mpr K
    simp [Zh,this,K,RelO]
  ·rw [a8 hd] at q
   by_cases h:b=e
   ·subst h
    rw [cG] at q
    cases q
    exact xW O U rfl Y g5 g6
   ·rw [a8 h] at q
    refine (I.hok b z q).stay (fun w u' a d=>p w u' (fun J=>?_) d) (fun w d=>?_) fun w xs d=>?_
    ·rcases a with a|a
     ·exact h (a.symm.trans J)
     ·rw [J,j] at a;cases a
    ·rw [l w (nx _ _ d (by intro z;cases z)) (x _ _ d)]
     exact d
    ·rw [l w (nx _ _ d (by intro z;cases z)) (x _ _ d)]
     exact d
end
theorem NF {CX:fX}{P:VQ}{w:V6}{K:Vk}{p:Str->Option Value}{base:Wj}{k:Nat}{x qual sf ar bn a T:Str}{st:Stmt}{f C B:Addr}{Z:Xc} {kk} {p1 p2 p3 p4 R p6 p7 p8 p9 O:W4}(F:Fun K x qual st f Z)(S:FnScope [sf,ar] [sf,ar] (bR st))
  (J:dM st=[.Expr (.Call (.Attribute (.Name bn p1) "__init__" p2) [.Name sf p3,.Constant (.str T) kk p4] [] R) p6,.Assign [.Attribute (.Name sf p7) a p8] (.Name ar p9) O]) (hl:(p2.endLine == R.line)=true)
  (c:InitK K C f B bn a)(hg:(bR st).names.lookup bn=some .globalImplicit)(M:((bn == ("__debug__":Str))||(sf == ("__debug__":Str))||(ar == ("__debug__":Str))||(sf == ("__classdict__":Str))||(ar == ("__classdict__":Str)))=false) :
  FnOk P w K p base CX (k+1) f Z [sf,ar] (nU C a):=by
 obtain ⟨oc,od,kV,doc,pm,an,b,ct,osl,rfl,lk,L⟩:=F.ex
 have M:((((bn == ("__debug__":Str))=false/\(sf == ("__debug__":Str))=false)/\(ar == ("__debug__":Str))=false)/\(sf == ("__classdict__":Str))=false)/\(ar == ("__classdict__":Str))=false:=by simpa [Bool.or_eq_false_iff,and_assoc] using M
 obtain ⟨⟨⟨⟨n1,n2⟩,n3⟩,n4⟩,n5⟩:=M
 refine v8 (sp:=nU C a) lk L S (fun y H Q E h=>by obtain ⟨e,v,rfl,_⟩:=h;rfl) fun A outer s H y Q E hr h=>?_
 obtain ⟨e,v,rfl,he,h⟩:=h
 refine ⟨fun D u H'=>u=L2.start [sf,ar] [V.ref e,v]/\H'=H/\∀ l od,H l=none->l≠e->D.nx u (aK (aK H e (XO e C (some l))) l (.frz od (.xd [(a,v)]))),?_,rfl,rfl,h⟩
 rintro i s1 σ d D I ⟨rfl,rfl,hD⟩
 rw [J]
 have Y:InitK (dW CX P w K p base [sf,ar] qual (bR st) f b A outer s d E).K C f B bn a:=c
 have G:=c.base
 unfold xY at G
 rw [Vq,Vq,beq_iff_eq] at G
 obtain ⟨⟨b1,o⟩,b3⟩:=G
 have o:a3j K (.ref B) (.type "type") "__init__" = some (.val (.builtin "ValueError.__init__")):=by
  split at o
  ·rename_i n q
   rw [q,beq_iff_eq.mp o]
  ·cases o
 have vS:PE (dW CX P w K p base [sf,ar] qual (bR st) f b A outer s d E) (.Name sf p3) (pL 0):=rP rfl ((S.par sf (by simp)).elim .inl fun z=>.inr (.inl z)) n2 n4
 have X:PE (dW CX P w K p base [sf,ar] qual (bR st) f b A outer s d E) (.Name sf p7) (pL 0):=rP rfl ((S.par sf (by simp)).elim .inl fun z=>.inr (.inl z)) n2 n4
 have vA:PE (dW CX P w K p base [sf,ar] qual (bR st) f b A outer s d E) (.Name ar p9) (pL 1):=rP rfl ((S.par ar (by simp)).elim .inl fun z=>.inr (.inl z)) n3 n5
 have m:=vZ vS (vZ (AN (x:=T) (j:=kk) (pos:=p4)) A4)
 refine Zq (a2x ?_ I.quiet (nI rfl))
 refine PySem.W.methodCall_KW (pl:=(do return (<- importBound (.Name bn p1) _).getD true)) (lK I hg (Y2 I.mod.kin I.mod.glob c.bnm) ?_ n1) (NC hl)
 refine PySem.W.method_cls I.kIn b3 (PySem.W.cls_value I.kIn b1 o rfl ?_)
 refine YK (aP (m R i _ _ d (fun y j=>[V.ref e,V.str T]=y/\d=j) (I.tok _) ⟨V.ref e,rfl,rfl,rfl⟩) fun us s2 ⟨y,j,I2,r,e1,e2⟩=>?_)
 subst e1 e2
 cases r with
 | cons r1 r=>
  rename_i u1 us _
  obtain rfl:u1=Vz e:=r1
  cases r with
  | cons r2 r=>
   cases r
   refine NA Y I2 he (by rw [VS];simp) fun s3 I3=>?_
   refine Zq (plainObj_wpAny_Assign_Attribute (aP (vA i _ _ _ (fun U j=>v=U/\d=j) I3 ⟨v,rfl,rfl,rfl⟩) fun u4 s4 ⟨v4,H4,I4,r4,e3,e4⟩=>?_))
   subst e3 e4
   refine aP (X i _ _ _ (fun U j=>V.ref e=U/\d=j) I4 ⟨V.ref e,rfl,rfl,rfl⟩) fun u5 s5 ⟨v5,H5,I5,r5,e5,e6⟩=>?_
   subst e5 e6
   obtain rfl:u5=Vz e:=r5
   exact ND Y I5 he r4 fun s6 l N z1 z2 I6=>YV ⟨_,_,I6,hD l N z1 z2⟩
end L3
namespace L3
open PySem L2 PySem.Spec PyProof.Rows
theorem Inv.untrack {X:Cx}{a5X:List (Addr×WY)}{σ:L2.St}{H H':Hp}{s:Vp}{e:Addr}{E:Wj->Prop}(I:Inv X a5X σ H s)(v:H e=some (.ext E))(h1:H' e=none)(i:∀ b,b≠e->H' b=H b):Inv X a5X σ H' s:=by
 have a:∀ b,H b=none->H' b=none:=fun b q=>by
  by_cases h:b=e
  ·rw [h];exact h1
  ·rw [i b h];exact q
 have d:∀ b z,H b=some z->(∀ G,z≠.ext G)->H' b=some z:=fun b z q n=>by
  rw [i b fun B=>by rw [B,v] at q;cases q;exact n _ rfl]
  exact q
 refine ⟨I.ok,I.os,I.bare,⟨I.base.keep,I.base.slot,fun b o q n x=>a b (I.base.free b o q n x),I.base.there,fun b j q=>d _ _ (I.base.tups b j q) (fun _ z=>nomatch z),fun b o u q=>d _ _ (I.base.frzs b o u q) (fun _ z=>nomatch z),fun b A q=>?_⟩,I.loc,I.cell,a _ I.free,fun y c q=>a _ (I.freeC y c q),fun p w=>?_,fun b u q=>?_,I.len⟩
 ·obtain ⟨more,z⟩:=I.base.tbls b A q
  exact ⟨more,d _ _ z (fun _ z=>nomatch z)⟩
 ·obtain ⟨l,m,r⟩:=I.pin p w
  exact ⟨l,a _ m,r⟩
 ·have h:b≠e:=fun z=>by rw [z,h1] at q;cases q
  rw [i b h] at q
  exact (I.hok b u q).stay (fun _ _ _ z=>z) (fun c z=>d _ _ z (fun _ z=>nomatch z)) fun c j z=>d _ _ z (fun _ z=>nomatch z)
noncomputable def nV (x a:Str)(m:ME):MR:=fun b c=>(m b c).map fun p=>((x,[(a,p.1)]),b,p.2)
theorem NG {X:Cx}{x bn i sf ar:Str}{C f B:Addr}{fd:Xc}{k:Nat}{a:Expr}{m:ME}{np cpos pos:W4}(c:InitK X.K C f B bn i)(nm:Wz X.K Wh x=some (some (.ref C)))(hk:Ww X.K (.ref C)=true)(F:FnOk X.prog X.w X.K X.mg X.base eE k f fd [sf,ar] (nU C i))(hb:Binds X.K fd [sf,ar] [])(hfn:∃ oI,X.K.lookup f=some oI/\oI.cls=.type "function")
  (hr:Room (k+1) X.A)(hex:X.ex=[])(hc:X.calm=true)(hg:Gl X x)(ha:QE X.nox a m)(hs:c8 a=true)(hdb:(x == ("__debug__":Str))=false):QR X (.Raise (some (.Call (.Name x np) [a] [] cpos)) none pos) (nV x i m):=by
 refine ⟨fun M s σ H π ρ μ y ρ' μ' I R E h w=>?_⟩
 obtain ⟨⟨d,K⟩,h1,h⟩:=Vn.mp h
 cases h
 have hst:V5 [a] X.env=(false,eval a X.env)::V5 [] X.env:=fB hs
 obtain ⟨bm,N,nm',qn,bs,sn,sub,ab,col,dd,k0,k1,k2,k3,k5,mN,hC,hn,hi,T⟩:=xX I.mod.kin c.cls
 obtain ⟨oI,lI,fI⟩:=hfn
 rw [arm_exec_Raise]
 refine Vl (Z9 (Nv (C:=C) (nm:=nm') (q:=qn) (N:=N) (bs:=bs) (bm:=bm) (hdct:=true) (sn:=sn) (sub:=sub) (ab:=ab) (col:=col) (dd:=dd) (k0:=k0) (k1:=k1) (k2:=k2) (k3:=k3) (k5:=k5) (newId:="ValueError.__new__") (T.hasType Zu.hasBase) (I.ok.hd hc) (Vl (aP (Q:=fun v G=>∃ e oe vs,v=.ref e/\G.heap.get? C=some (Xk nm' qn C N bs bm true sn sub ab col dd k0 k1 k2 k3 k5 "ValueError.__new__")/\G.heap.get? e=some oe/\oe.cls=.ref C/\oe.data=.fields vs/\vs[1]? = some .none/\X.xe (.ref e) G) (Xo (lK I hg (Y2 I.mod.kin I.mod.glob nm) ?_ hdb)) (fun v s₃ h₃=>Vl (Z9 (Vr h₃)))))))
 have k1:=ha.h M s σ H (fun v r=>∃ l,Ext π μ.length H l K.length r/\Rp X.K l r K/\IsD X.K l K.length r v d) (I.wish _) ⟨π,ρ,μ,d,K,R,E,h1,fun l v r e1 R1 i1=>⟨l,e1,R1,i1⟩⟩
 refine a0r (h₀:=X.base) I.ok.mod.kin hk (args_cons (Wa k1 (fun u n ⟨v,r,A,rv,l,e1,R1,i1⟩=>args_nil ⟨A.unwish.kIn,?_⟩) fun _ _ z=>Wl z) hst) hst rfl
 have A:=A.unwish
 have Q:n.heap.get? (n.heap.objs.size+1)=none:=Zi (Yy _)
 have U:r (n.heap.objs.size+1)=none:=A.hok.fresh (Yy _)
 have I2:Inv X M σ (aK r (n.heap.objs.size+1) (XO (n.heap.objs.size+1) C none)) { n with heap:=nS n.heap C [u] }:=by
  refine Inv.laid (t':=n.toks) (s:={ n with heap:=n.heap.push { cls:=.type "tuple",data:=.seq [u].toArray } }) (A.kept (t':=n.toks) fun b o q=>Vo _ q) (fun b o q=>Vo _ q) (by show (n.heap.push _).objs.size<=_;rw [Yv];exact Vv _) ?_
  exact xW (CW n.heap C [u]) rfl rfl rfl rfl rfl
 refine Nu Zu (T.keeps A.bk) (A.bk _ _ hC) (hn.keeps A.bk) hi (A.kIn _ _ lI) fI (by rw [VS];simp) ?_
 generalize hea:n.heap.objs.size+1=ea at Q U I2 ⊢
 have hsp:nU C i [V.ref ea,v] (aK r ea (XO ea C none)) (fun v' H2=>v'=.non/\∃ j L,aK r ea (XO ea C none) j=none/\j≠ea/\aK (aK (aK r ea (XO ea C none)) ea (XO ea C (some j))) j (.frz L (.xd [(i,v)]))=H2) (fun _ _ _=>False):=
  ⟨ea,v,rfl,cG,fun j L z1 Z=>⟨rfl,j,L,z1,Z,rfl⟩⟩
 have r2:Vals [V.ref ea,v] [Vz ea,u]:=.cons rfl (.cons rv .nil)
 refine a1k (ZL (F.run _ X.stack _ _ ⟨[Vz ea,u],[]⟩ [Vz ea,u] _ _ (fun _ _ _=>False) (hr.make C [u] []) (I2.env0.make C [u] []) (by have:=hb _ [Vz ea,u] I2.kIn rfl;rwa [Zm] at this) r2 hsp) fun rr s' Y=>?_)
 cases rr with
 | error z=>exact Wl Y
 | ok fl=>
  cases fl with
  | next=>exact Wl Y
  | brk=>exact Wl Y
  | cont=>exact Wl Y
  | ret u'=>
   obtain ⟨v',H3,I3,rv',ev,j,L,z1,Z,e3⟩:=I2.after Y
   subst ev e3
   refine ⟨rv',?_⟩
   have hd1:r j=none:=by rw [a8 Z] at z1;exact z1
   have hE3:aK (aK (aK r ea (XO ea C none)) ea (XO ea C (some j))) j (.frz L (.xd [(i,v)])) ea=some (XO ea C (some j)):=by rw [a8 (WB Z),cG]
   obtain ⟨⟨o,vs,g1,g2,g3,g4,g5,ta,g6⟩,_⟩:=I3.hok ea _ hE3
   have I4:Inv X M σ (aK r j (.frz L (.xd [(i,v)]))) s':=Inv.untrack I3 hE3 (by rw [a8 (WB Z)];exact U) fun b hb'=>by
    by_cases O:b=j
    ·rw [O,cG,cG]
    ·rw [a8 O,a8 O,a8 hb',a8 hb']
   obtain ⟨e4,R4⟩:=R1.fresh (o:=.frz L (.xd [(i,v)])) hd1
   refine ⟨ea,o,vs,rfl,I4.bk _ _ hC,g1,g2,g4,g5,?_⟩
   refine w l σ _ s' ea (.ref C) (some j) none (e1.trans e4) R4 ((E.mono e1).mono e4) I4 ⟨⟨⟨o,vs,g1,g2,g3,g4,g5⟩,fun p J=>nomatch J⟩,(fun p J=>nomatch J),⟨Nm A hex Q,fun p J=>nomatch J⟩,⟨by rw [a8 (WB Z)];exact U,fun p J=>nomatch J⟩,fun q Y=>⟨fun z=>?_,fun p J=>nomatch J⟩⟩
    ⟨nm,.inr ⟨j,L,[(i,v)],rfl,cG,rfl,.cons (i1.mono e4) .nil⟩⟩
   have:=(A.pin q Y).1
   rw [z,Q] at this
   cases this
end L3
namespace L3
open PySem L2 PySem.Spec PyProof.Rows
section
variable {prog:VQ}{w:V6}{A:VU}{E:Value->Vp->Prop}{s:Vp}
variable {nm q:Str}{C N x dx:Addr}{bs bm:List Value}{sn:List Str}{sub:List Value}{ab:Bool}{col:Option Bool}{dd:Option Addr}{k0 k1 k2 k3 k5:Option Value}{newId:String}{name:Str}{v:Value}{o:WY}{vs:Array Value}{mA:Str->Option Value}
theorem NH {M:a1G}{a:Value}{Q:Unit->Vp->Prop}(i:bm.contains (.type "BaseException")=true) (e:s.heap.get? C=some (Xk nm q C N bs bm true sn sub ab col dd k0 k1 k2 k3 k5 newId))(m:s.heap.get? x=some o)(hc:o.cls=.ref C)(l:Q () s) :
  VD M A (a0i "BaseException.__getattribute__" ⟨[.ref x,a],[]⟩) Q E s:=by
 have j:builtinKind "BaseException.__getattribute__" = some .slot:=by decide +kernel
 have c:splitId "BaseException.__getattribute__" = some ("BaseException","__getattribute__"):=by decide +kernel
 have b:(Vz C::bm).contains (.type "BaseException")=true:=by rw [Zz,i,Zw]
 have n:=PySem.F.args_bexc_ga (.ref x) a
 obtain ⟨h,g,d,t,p⟩:=s
 simp only [a0i,j,c]
 refine Vl ?_
 unfold a4w
 repeat (first|(with_reducible refine Wy m ?_;rw [hc])|(with_reducible refine X4 e ?_;rw [b])|wp_step)
 exact l
theorem NI {tk:a4V}{Q:Fin->Vp->Prop}(e:s.heap.get? C=some (Xk nm q C N bs bm true sn sub ab col dd k0 k1 k2 k3 k5 newId))(l:YC (VM prog w) s.heap (X0 (.ref C) name) none)
  (c:s.heap.get? x=some o)(hc:o.cls=.ref C)(hd:o.data=.fields vs)(a:o.dict=some dx)(b:s.heap.Ns1 dx mA)(j:mA name=some v)(i:Q (.done (.ret v)) s) :
  VD (VM prog w) A (Builtin.«object.__getattribute__» ⟨[.ref x,.str name tk],[]⟩) Q E s:=by
 obtain ⟨h,g,d,t,m⟩:=s
 unfold Builtin.«object.__getattribute__»
 repeat (first|(with_reducible refine Wy c ?_;rw [hc])|with_reducible refine Yp (s:=⟨h,g,d,_,m⟩) l ?_|wp_step)
 rw [hd]
 unfold instanceDict
 repeat (first|(with_reducible refine Wy c ?_;rw [hc])|with_reducible refine Wy e ?_|wp_step)
 rw [a]
 repeat (first|(with_reducible refine wpAny_nsGet b.ns ?_;rw [j])|wp_step)
 exact i
theorem NJ {a:Bool}{Q:Value->Vp->Prop}(n:bm.contains (.type "BaseException")=true) (m:s.heap.get? C=some (Xk nm q C N bs bm true sn sub ab col dd k0 k1 k2 k3 k5 newId))
  (z:YC (VM prog w) s.heap (X0 (.ref C) "__getattribute__") (some (.builtin "BaseException.__getattribute__"))) (B:YC (VM prog w) s.heap (X0 (.ref C) "__getattr__") none) (G:YC (VM prog w) s.heap (X0 (.ref C) name) none)
  (i:s.heap.get? x=some o)(hc:o.cls=.ref C)(hd:o.data=.fields vs)(c:o.dict=some dx)(e:s.heap.Ns1 dx mA)(r:mA name=some v)(p:handedOut v=pure v)(I:Q v { s with toks:=s.toks+1 }) :
  VD (VM prog w) A (getAttr (.ref x) name a) Q E s:=by
 have l:=PySem.F.attrBase_ValueError
 have H:=l.ga.bind (.ref x)
 have u:(a&&onTheHeap (Xl "BaseException.__getattribute__"))=false:=by cases a<;>rfl
 have j:(Xl "BaseException.__getattribute__" == Xl "object.__getattribute__")=false:=by decide +kernel
 have y:(onTheHeap (Vz C)&&Xl "BaseException.__getattribute__" == Xl "object.__getattribute__")=false:=by rw [j];rfl
 obtain ⟨h,g,d,t,b⟩:=s
 unfold getAttr
 repeat (any_goals (first|assumption|(with_reducible refine Wy i ?_;rw [hc])|with_reducible refine Yp (s:=⟨h,g,d,_,b⟩) z ?_|with_reducible refine Yp (s:=⟨h,g,d,_,b⟩) B ?_|wp_step))
 refine a0H l.ga.plain PySem.F.entry_bexc_ga (NH (s:=⟨h,g,d,t+1,b⟩) n m i hc (NI (s:=⟨h,g,d,t+1,b⟩) m G i hc hd c e r ?_))
 repeat (any_goals (first|assumption|(rw [p])|wp_step))
end
noncomputable def jU (b:Str)(ok:Str->Bool)(m:ME):ME:=fun e c=>(m e c).bind fun p=>match p.1 with
 | .loc a=>(match p.2[a]? with
  | some (.exc x ns ds)=>if ok x=true then ((ns.zip ds).lookup b).map fun d=>(d,p.2) else none
  | _=>none)
 | _=>none
noncomputable def tD (K:Vk)(a x:Str):Bool:=match hJ K x with
 | some C=>(nR K C).isSome&&WH K (.ref C) "__getattribute__" == some (some (.builtin "BaseException.__getattribute__"))&&WH K (.ref C) "__getattr__" == some none&&WH K (.ref C) a == some none
 | none=>false
theorem CY {K:Vk}{π:Nat->Addr}{n:Nat}{H:Hp}{k:Str}{d:D}:∀ (us:List (Str×V))(ns:List Str)(ds:List D),us.map (·.1)=ns->IsDs K π n H (us.map (·.2)) ds->(ns.zip ds).lookup k=some d->∃ v,us.lookup k=some v/\IsD K π n H v d
 | [],_,_,e,_,h=>by subst e;cases h
 | (y,v)::us,_,_,e,i,h=>by
  subst e
  cases i with
  | cons c j=>
   rename_i l b
   simp only [VE,X5,Zh] at h ⊢
   cases a:k == y with
   | true=>
    rw [a] at h
    cases h
    exact ⟨v,rfl,c⟩
   | false=>
    rw [a] at h
    exact CY us _ _ rfl j h
theorem CZ {X:Cx}{o:Expr}{c:Str}{ok:Str->Bool}{m:ME}{pos:W4}(ho:QE X o m)(hs:i0 o=true)(hok:∀ x,ok x=true->tD X.K c x=true):QE X (.Attribute o c pos) (jU c ok m):=by
 refine ⟨fun r s σ H Q I t=>?_⟩
 obtain ⟨U,ρ,T,d,K,R,E,h,kc⟩:=t
 unfold jU at h
 obtain ⟨⟨d1,e⟩,h1,h⟩:=Vj.mp h
 dsimp only at h
 split at h
 ·rename_i a
  split at h
  ·rename_i x O ds hx
   split at h
   ·rename_i G
    obtain ⟨d2,N,h⟩:=Vn.mp h
    obtain ⟨rfl,rfl⟩:d2=d/\e=K:=by cases h;exact ⟨rfl,rfl⟩
    refine IS (kM hs) (aP (ho.h r s σ H (fun v i=>∃ b,Ext U T.length H b e.length i/\Rp X.K b i e/\IsD X.K b e.length i v (.loc a)) I ⟨U,ρ,T,_,e,R,E,h1,fun b v i y p J=>⟨b,y,p,J⟩⟩) fun u s1 ⟨v,i,j,rv,b,y,p,J⟩=>?_)
    cases J
    obtain rfl:u=Vz (b a):=rv
    obtain ⟨ob,φ,g1,M,⟨vs,g3⟩,z⟩:=p.exc a x O ds hx
    rcases z with ⟨rfl,rfl,_⟩|⟨dx,od,us,z,g5,g6,g7⟩
    ·cases N
    obtain ⟨w,lw,iw⟩:=CY us O ds g6 g7 N
    have n:=hok x G
    unfold tD at n
    split at n
    ·rename_i C hC
     rw [Vq,Vq,Vq,beq_iff_eq,beq_iff_eq,beq_iff_eq] at n
     obtain ⟨⟨⟨q,Y⟩,Z⟩,a4⟩:=n
     obtain ⟨bm,q⟩:=W5.mp q
     have A:ob.cls=.ref C:=by
      rw [sW hC] at M
      exact (VX (VX M)).symm
     obtain ⟨⟨N1,qU,q1,bs1,sn1,su1,ab1,L,dd1,b0,b1,b2,b3,b5,o1⟩,hB⟩:=xV j.kIn q
     obtain ⟨y1,_⟩:=j.hok _ _ g1
     obtain ⟨y2,mA,y3,y4⟩:=j.hok _ _ g5
     have l:=y4 c
     rw [lw] at l
     cases B:mA c with
     | none=>rw [B] at l;exact l.elim
     | some u=>
      rw [B] at l
      exact NJ hB o1 (Yj j.kIn Y) (Yj j.kIn Z) (Yj j.kIn a4) y1 A g3 z y3 B (PySem.W.handedOut_of (IQ l)) ⟨w,i,j.tok _,l,kc b w i y p iw⟩
    ·cases n
   ·cases h
  ·cases h
 ·cases h
end L3
namespace L3
open PySem L2 PySem.Spec PyProof.Rows
noncomputable def NK (K:Vk)(C:Addr):Bool:=(nR K C).isSome&&WH K (.ref C) "__getattribute__" == some (some (.builtin "BaseException.__getattribute__"))&&WH K (.ref C) "__getattr__" == some none &&
 (PySem.W.clsIn K C).isSome&&WH K (.ref C) "__class__" == some (some (.builtin "object.__class__"))&&Zx K (.builtin "object.__class__") "__get__" == some (some (.builtin "getset_descriptor.__get__")) &&
 a3h K (.builtin "object.__class__") == some true&&a3N K C (.type "object") == some true
section
variable {prog:VQ}{w:V6}{A:VU}{E:Value->Vp->Prop}{s:Vp}{K:Vk}{x C:Addr}{ox:WY}{od:Option WY}
end
end L3
namespace L3
open PySem L2 PySem.Spec PyProof.Rows
noncomputable def tE (K:Vk)(a:Value)(x:Str):Option Bool:=(hJ K x).bind fun B=>if NK K B=true then a1n K (.ref B) a else none
end L3
namespace L3
open PySem PySem.Spec
namespace Tb
section
variable {prog:VQ}{w:V6}{A:VU}{E:Value->Vp->Prop}{s:Vp}
noncomputable abbrev IsT (prog:VQ)(w:V6)(h:Wj)(k:List Int)(b:Addr):Prop:=IsTupleKey (XW prog w) h k b
end
section
variable {prog:VQ}{w:V6}{A:VU}{R:a2E->Vp->Prop}{I:Addr}{fp wr:List Addr}{G:Array a4g->Array a4g->Prop}{n:Nat}{P:Nat->Value->Prop}{St:Nat->Vp->Prop}
end
section
variable {prog:VQ}{w:V6}{A:VU}{E:Value->Vp->Prop}{s:Vp}
noncomputable abbrev fC (a:Bool):WY:={ cls:=.type "set",dict:=none,data:=.set #[] 0 (.fresh 0 0 a) }
end
end Tb
end L3
namespace L3
open PySem L2
open PyProof.Rows (IntsAre)
noncomputable def qC:List D->Option (List (List Int))
 | []=>some []
 | x::r=>(eH x).bind fun k=>(qC r).map (k::·)
theorem tF:∀ {ds:List D}{k:List Int},kL ds=some k->ds=k.map D.int
 | [],k,h=>by cases h;rfl
 | d::ds,k,h=>by
  cases d with
  | int i=>
   obtain ⟨c,a,b⟩:=Vn.mp h
   subst b
   rw [tF a];rfl
  | _=>cases h
theorem C0 {x:D}{k:List Int}(h:eH x=some k):x=.tup (k.map D.int):=by
 cases x with
 | tup ds=>rw [tF h]
 | _=>cases h
theorem C1:∀ {xs:List D}{ks:List (List Int)},qC xs=some ks->xs=ks.map fun k=>D.tup (k.map D.int)
 | [],ks,h=>by cases h;rfl
 | x::xs,ks,h=>by
  obtain ⟨k,a,h⟩:=Vj.mp h
  obtain ⟨d,b,c⟩:=Vn.mp h
  subst c
  rw [C0 a,C1 b];rfl
noncomputable def d6 (b:Hm):D->Option (List D)
 | .rol xs=>some xs
 | .loc a=>match b[a]? with
  | some (.lst xs)=>some xs
  | _=>none
 | _=>none
section
variable {K:Vk}{π:Nat->Addr}{n:Nat}{H:Hp}{μ:Hm}
theorem mB {v:V}{x:D}{xs:List D}(R:Rp K π H μ)(h:IsD K π μ.length H v x)(e:d6 μ x=some xs):∃ p vs,v=.ref p/\SqL K H p vs/\IsDs K π μ.length H vs xs:=by
 cases h with
 | rol q t=>cases e;exact ⟨_,_,rfl,q.sq,t⟩
 | @loc a i=>
  simp only [d6] at e
  split at e
  ·rename_i j d
   cases e
   obtain ⟨vs,b,c⟩:=R.lst a xs d
   exact ⟨_,vs,rfl,.of b,c⟩
  ·cases e
 | _=>cases e
theorem ints_of':∀ {vs:List V}{k:List Int},IsDs K π n H vs (k.map D.int)->vs=k.map V.int
 | _,[],h=>by cases h;rfl
 | _,i::k,h=>by
  cases h with
  | cons h t=>cases h;rw [ints_of' t];rfl
theorem xZ:∀ (k:List Int),IsDs K π n H (k.map V.int) (k.map D.int)
 | []=>.nil
 | i::k=>.cons (.int i) (xZ k)
end
theorem C2 {X:Cx}:∀ {k:List Int}{xs:List Value},Vals (k.map V.int) xs->ItemsAre (XW X.prog X.w) k xs
 | [],_,h=>by cases h;exact .nil
 | i::k,_,h=>by
  cases h with
  | cons h t=>
   obtain ⟨a,rfl⟩:=h
   exact .cons (intKind_is _ _ _ _) (C2 t)
section
variable {X:Cx}{a5X:List (Addr×WY)}{σ:St}{H:Hp}{s:Vp}
theorem mD (I:Inv X a5X σ H s){b:Addr}{k:List Int}(h:SqT X.K H b (k.map V.int)):Tb.IsT X.prog X.w s.heap k b:=by
 obtain ⟨j,i,⟨a,e,c,n,d⟩,_⟩:=I.tuple h
 exact ⟨a,j.toArray,n,e,c,d,by simpa using C2 i⟩
theorem call_lenT:CallR X (.builtin "len") (fun xs H Q=>∃ a L,xs=[V.ref a]/\H a=some (rY a L)/\Q (.int L.length) H):=by
 intro a5X s σ H xs A Q I r h
 obtain ⟨a,L,rfl,e,q⟩:=h
 obtain ⟨u,rfl,y⟩:=eD r
 cases y
 obtain ⟨⟨o,p,x,d,z,t,R,c,hd,i,ok,v,hnd,m,j,w,l⟩,_,_⟩:=I.hok a _ e
 have b:d.size=L.length:=by
  have:=v.length_eq
  simpa using this
 have n:t.mask<=511:=by rcases m with h|h|h|h<;>omega
 refine call_len_set p c hd (Tb.fits_of ok i) (by rw [b];omega) ?_
 rw [b]
 exact ⟨.int L.length,H,I.tok _,⟨_,rfl⟩,q⟩
end
end L3
namespace L3
open PySem L2
noncomputable def nW (ks:List (List Int)):Nat->Nat->Bool:=fun i j=>HT.lexLt (ks.getD i []) (ks.getD j [])
noncomputable def qD:MF:=fun ds b=>match ds with
 | [x]=>(d6 b x).bind fun c=>(qC c).bind fun a=>if 1<=a.length/\a.length<64/\∀ t∈a,t≠[] then some (.loc b.length,b++[.lst ((cB (nW a) a.length).map fun i=>c.getD i .non)]) else none
 | _=>none
theorem C3 {K:Vk}{π:Nat->Addr}{n:Nat}{H:Hp}:∀ {vs:List V}{ks:List (List Int)},IsDs K π n H vs (ks.map fun k=>D.tup (k.map D.int))->TupsV K H vs ks
 | _,[],h=>by cases h;exact .nil
 | _,k::ks,h=>by
  cases h with
  | cons h t=>
   cases h with
   | @tup p vs ds a hd=>
    have:=ints_of' hd
    subst this
    exact .cons ⟨p,rfl,a⟩ (C3 t)
theorem C4 {K:Vk}{π:Nat->Addr}{n:Nat}{H:Hp}:∀ {vs:List V}{xs:List D}(i:Nat),IsDs K π n H vs xs->IsD K π n H (vs.getD i .non) (xs.getD i .non)
 | _,_,i,.nil=>by simp;exact .non
 | _,_,0,.cons h _=>h
 | _,_,i+1,.cons _ t=>by simpa using C4 i t
theorem C5 {K:Vk}{π:Nat->Addr}{n:Nat}{H:Hp}{vs:List V}{xs:List D}(h:IsDs K π n H vs xs):∀ (l:List Nat),IsDs K π n H (l.map fun i=>vs.getD i .non) (l.map fun i=>xs.getD i .non)
 | []=>.nil
 | i::l=>.cons (C4 i h) (C5 h l)
theorem NL {K:Vk}:dR K qD (xR K):=by
 intro z H y x d v w Q R i a k
 unfold qD at a
 split at a
 ·obtain ⟨u,n,a⟩:=Vj.mp a
  obtain ⟨c,o,a⟩:=Vj.mp a
  split at a
  ·rename_i r
   cases a
   cases i with
   | cons i t=>
    cases t
    obtain ⟨p,e,rfl,q,hd⟩:=mB R i n
    have b:=hd
    rw [C1 o] at b
    have s:e.length=c.length:=by
     have:=b.length
     rw [Vm] at this
     exact this
    refine ⟨p,e,c,rfl,q,C3 b,by omega,by omega,r.2.2,fun l h=>?_⟩
    obtain ⟨m,R2,_⟩:=R.alloc (c:=.lst ((cB (nW c) c.length).map fun i=>u.getD i .non)) (o:=.lst ((cB (fun i j=>HT.lexLt (c.getD i []) (c.getD j [])) e.length).map fun i=>e.getD i .non)) h (by
     show IsDs _ _ _ _ _ _
     rw [s]
     exact C5 hd _)
    exact k _ _ _ m R2 fL
  ·cases a
 ·cases a
end L3
namespace L3
open PySem L2
open PyProof.Rows (IntsAre Fr News seqObj)
section
variable {prog:VQ}{w:V6}{A:VU}{E:Value->Vp->Prop}{s:Vp}{h₀:Wj}{L:Addr}{m:Str->Option Value}{news:List (Addr×WY)}
end
theorem tG:∀ a:List Int,HT.lexLt a a=false
 | []=>rfl
 | x::a=>by rw [HT.lexLt_cons,if_pos rfl];exact tG a
theorem tH:∀ {a b c:List Int},HT.lexLt a b=true->HT.lexLt b c=true->HT.lexLt a c=true
 | _,[],[],_,h=>absurd h (by intro z;cases z)
 | _,_::_,[],_,h=>absurd h (by intro z;cases z)
 | [],_,_::_,_,_=>rfl
 | _::_,[],_::_,h,_=>absurd h (by intro z;cases z)
 | x::a,y::b,z::c,h1,h2=>by
  rw [HT.lexLt_cons] at h1 h2 ⊢
  by_cases e:x=y
  ·subst e
   rw [if_pos rfl] at h1
   by_cases d:x=z
   ·subst d
    rw [if_pos rfl] at h2 ⊢
    exact tH h1 h2
   ·rw [if_neg d] at h2 ⊢
    exact h2
  ·rw [if_neg e] at h1
   by_cases d:y=z
   ·subst d
    rw [if_neg e];exact h1
   ·rw [if_neg d] at h2
    rw [decide_eq_true_eq] at h1 h2
    rw [if_neg (by omega),decide_eq_true_eq];omega
section
variable {X:Cx}{a5X:List (Addr×WY)}{σ:St}{H:Hp}{s:Vp}
end
end L3
namespace L3
open PySem
open PySem.W (KasT kas_asc kas_desc kas_tail3 kas_descPart kas_count kas_place kas_bin kas_sort kas_rev)
open PyProof.Rows (mirror bubble getElem?_bubble getElem?_mirror_all mirror_size bubble_size)
theorem nX {b c:Type}{ans:Nat->Nat->Bool}{f:b->a5e c}:∀ t:a5e b,aZ ans (t.bind f)=aZ ans (f (aZ ans t))
 | .ret a=>rfl
 | .ask i j k=>by
  show aZ ans ((k (ans i j)).bind f)=_
  rw [nX]
  rfl
section
variable {ans:Nat->Nat->Bool}{κ:Nat->Nat}(hk:∀ i j,ans i j=decide (κ i<κ j))
noncomputable def gK (κ:Nat->Nat)(p:Array Nat)(k:Nat):Nat:=κ (p.getD k 0)
theorem qE {p q:Array Nat}{k m:Nat}(h:p[k]? = q[m]?):p.getD k 0=q.getD m 0:=by
 have e:∀ (a:Array Nat)(i:Nat),a.getD i 0=(a[i]?).getD 0:=fun a i=>by
  by_cases b:i<a.size
  ·simp [XN,b]
  ·simp [XN,b]
 rw [e,e,h]
theorem mE {p:Array Nat}{i j:Nat}(a:j<=p.size)(k:Nat):gK κ (XH p i j) k=if i<=k/\k<j then gK κ p (i+j - 1 - k) else gK κ p k:=by
 have h:=getElem?_mirror_all (i:=i) a k
 by_cases c:i<=k/\k<j
 ·rw [if_pos c] at h ⊢
  exact congrArg κ (qE h)
 ·rw [if_neg c] at h ⊢
  exact congrArg κ (qE h)
theorem C6 {p:Array Nat}{s d:Nat}(b:s<p.size)(hd:d<=s)(k:Nat):gK κ (bubble p s d) k=if k=s - d then gK κ p s else if s - d<k/\k<=s then gK κ p (k - 1) else gK κ p k:=by
 have h:=getElem?_bubble b d hd k
 by_cases c:k=s - d
 ·rw [if_pos c] at h ⊢
  exact congrArg κ (qE h)
 ·rw [if_neg c] at h ⊢
  by_cases a:s - d<k/\k<=s
  ·rw [if_pos a] at h ⊢
   exact congrArg κ (qE h)
  ·rw [if_neg a] at h ⊢
   exact congrArg κ (qE h)
theorem qF (p:Array Nat)(i j:Nat):(XH p i j).size=p.size:=mirror_size _ _ _ _
noncomputable def i7 (κ:Nat->Nat)(p:Array Nat)(m:Nat):Prop:=∀ i j,i<=j->j<m->gK κ p i<=gK κ p j
include hk in
theorem x8 (p:Array Nat):∀ (f m:Nat),m<=aZ ans (XI p f m)/\aZ ans (XI p f m)<=m+f/\(∀ j,m<=j->j<aZ ans (XI p f m)->gK κ p (j - 1)<=gK κ p j) /\
  (aZ ans (XI p f m)<m+f->gK κ p (aZ ans (XI p f m))<gK κ p (aZ ans (XI p f m) - 1))
 | 0,m=>⟨Vv _,Vv _,fun j b a=>absurd (show j<m from a) (by omega),fun h=>absurd (show m<m+0 from h) (by omega)⟩
 | f+1,m=>by
  have e:aZ ans (XI p (f+1) m)=if ans (p.getD m 0) (p.getD (m - 1) 0)=true then m else aZ ans (XI p f (m+1)):=by
   show aZ ans (if ans (p.getD m 0) (p.getD (m - 1) 0)=true then XJ m else XI p f (m+1))=_
   split<;>rfl
  rw [e,hk]
  by_cases h:κ (p.getD m 0)<κ (p.getD (m - 1) 0)
  ·rw [if_pos (by simpa using h)]
   exact ⟨Vv _,by omega,fun j b a=>absurd a (by omega),fun _=>h⟩
  ·rw [if_neg (by simpa using h)]
   obtain ⟨n,o,d,l⟩:=x8 p f (m+1)
   refine ⟨by omega,by omega,fun j b a=>?_,fun a=>l (by omega)⟩
   by_cases c:j=m
   ·subst c;exact Yx.mp h
   ·exact d j (by omega) a
theorem C7 {p:Array Nat}{m:Nat}(h:∀ j,1<=j->j<m->gK κ p (j - 1)<=gK κ p j):i7 κ p m:=by
 intro i j a b
 induction j with
 | zero=>
  have:i=0:=by omega
  subst this;exact Vv _
 | succ j c=>
  by_cases e:i=j+1
  ·subst e;exact Vv _
  ·exact Wu (c (by omega) (by omega)) (h (j+1) (by omega) b)
structure Falls (κ:Nat->Nat)(p:Array Nat)(n q:Nat):Prop where
 fall:∀ i j,i<=j->j<n->gK κ p j<=gK κ p i
 alike:∀ k,n - 1 - q<=k->k<n->gK κ p k=gK κ p (n - 1)
 qn:q<n
theorem Falls.rev {p:Array Nat}{n q:Nat}(F:Falls κ p n q)(a:n<=p.size):∀ k,gK κ (XH p (n - (q+1)) n) k=gK κ p k:=fun k=>by
 rw [mE a]
 split
 ·rename_i c
  have:=F.qn
  rw [F.alike (n - (q+1)+n - 1 - k) (by omega) (by omega),F.alike k (by omega) c.2]
 ·rfl
theorem Falls.same {p c:Array Nat}{n q:Nat}(F:Falls κ p n q)(h:∀ k,gK κ c k=gK κ p k):Falls κ c n q:=
 ⟨fun i j a b=>by rw [h,h];exact F.fall i j a b,fun k a b=>by rw [h,h];exact F.alike k a b,F.qn⟩
include hk in
theorem tI:∀ (f:Nat)(p:Array Nat)(n q:Nat),1<=n->n+f<=p.size->Falls κ p n q->
  ∃ a b l,aZ ans (Xq f p n q)=(a,b,l)/\a.size=p.size/\n<=b/\b<=n+f/\Falls κ a b l
 | 0,p,n,q,_,_,F=>⟨p,n,q,rfl,rfl,Vv _,Vv _,F⟩
 | f+1,p,n,q,h1,hs,F=>by
  have J:=F.qn
  by_cases h:κ (p.getD n 0)<κ (p.getD (n - 1) 0)
  ·have M:gK κ p n<gK κ p (n - 1):=h
   have c:∀ a:Array Nat,(∀ k,gK κ a k=gK κ p k)->Falls κ a (n+1) 0:=fun a y=>⟨fun i j v I=>by
     rw [y,y]
     by_cases e:j=n
     ·subst j
      by_cases E:i=n
      ·subst i;exact Vv _
      ·have:=F.fall i (n - 1) (by omega) (by omega)
       omega
     ·exact F.fall i j v (by omega),fun k w x=>by
     have:k=n:=by omega
     subst this
     simp,by omega⟩
   by_cases z:q>0
   ·have e:aZ ans (Xq (f+1) p n q)=aZ ans (Xq f (XH p (n - (q+1)) n) (n+1) 0):=by
     show aZ ans (if ans (p.getD n 0) (p.getD (n - 1) 0)=true then (if q>0 then Xq f (XH p (n - (q+1)) n) (n+1) 0 else Xq f p (n+1) 0) else _)=_
     rw [hk,if_pos (by simpa using h),if_pos z]
    obtain ⟨a,b,l,o,r,A,B,s⟩:=tI f (XH p (n - (q+1)) n) (n+1) 0 (by omega) (by rw [qF];omega) (c _ (F.rev (by omega)))
    exact ⟨a,b,l,e.trans o,r.trans (qF _ _ _),by omega,by omega,s⟩
   ·have e:aZ ans (Xq (f+1) p n q)=aZ ans (Xq f p (n+1) 0):=by
     show aZ ans (if ans (p.getD n 0) (p.getD (n - 1) 0)=true then (if q>0 then Xq f (XH p (n - (q+1)) n) (n+1) 0 else Xq f p (n+1) 0) else _)=_
     rw [hk,if_pos (by simpa using h),if_neg z]
    obtain ⟨a,b,l,o,r,A,B,s⟩:=tI f p (n+1) 0 (by omega) (by omega) (c p fun _=>rfl)
    exact ⟨a,b,l,e.trans o,r,by omega,by omega,s⟩
  ·by_cases u:κ (p.getD (n - 1) 0)<κ (p.getD n 0)
   ·have e:aZ ans (Xq (f+1) p n q)=(p,n,q):=by
     show aZ ans (if ans (p.getD n 0) (p.getD (n - 1) 0)=true then _ else a0n (p.getD (n - 1) 0) (p.getD n 0) fun d=>if d=true then XJ (p,n,q) else Xq f p (n+1) (q+1))=_
     rw [hk,if_neg (by simpa using h)]
     show aZ ans (if ans (p.getD (n - 1) 0) (p.getD n 0)=true then XJ (p,n,q) else Xq f p (n+1) (q+1))=_
     rw [hk,if_pos (by simpa using u)]
     rfl
    exact ⟨p,n,q,e,rfl,Vv _,by omega,F⟩
   ·have e:aZ ans (Xq (f+1) p n q)=aZ ans (Xq f p (n+1) (q+1)):=by
     show aZ ans (if ans (p.getD n 0) (p.getD (n - 1) 0)=true then _ else a0n (p.getD (n - 1) 0) (p.getD n 0) fun d=>if d=true then XJ (p,n,q) else Xq f p (n+1) (q+1))=_
     rw [hk,if_neg (by simpa using h)]
     show aZ ans (if ans (p.getD (n - 1) 0) (p.getD n 0)=true then XJ (p,n,q) else Xq f p (n+1) (q+1))=_
     rw [hk,if_neg (by simpa using u)]
    have m:gK κ p n=gK κ p (n - 1):=by
     have K:¬ gK κ p n<gK κ p (n - 1):=h
     have L:¬ gK κ p (n - 1)<gK κ p n:=u
     omega
    have G:Falls κ p (n+1) (q+1):=⟨fun i j v I=>by
      by_cases e:j=n
      ·subst j
       by_cases E:i=n
       ·subst i;exact Vv _
       ·rw [m];exact F.fall i (n - 1) (by omega) (by omega)
      ·exact F.fall i j v (by omega),fun k w x=>by
      have H:n+1 - 1=n:=by omega
      rw [H]
      by_cases e:k=n
      ·rw [e]
      ·rw [m];exact F.alike k (by omega) (by omega),by omega⟩
    obtain ⟨a,b,l,o,r,A,B,s⟩:=tI f p (n+1) (q+1) (by omega) (by omega) G
    exact ⟨a,b,l,e.trans o,r,by omega,by omega,s⟩
include hk in
theorem C8 {p:Array Nat}{n N q:Nat}(h1:1<=n)(u:n<=N)(l:p.size=N)(F:Falls κ p n q) :
  ∃ m c,aZ ans (ZR n N p)=(m,c)/\c.size=N/\1<=m/\m<=N/\i7 κ c m:=by
 have o:∀ j,1<=j->j<n->gK κ (XH p 0 n) (j - 1)<=gK κ (XH p 0 n) j:=fun j a b=>by
  rw [mE (by omega),mE (by omega),if_pos ⟨by omega,by omega⟩,if_pos ⟨by omega,by omega⟩]
  exact F.fall _ _ (by omega) (by omega)
 obtain ⟨r,s,d,_⟩:=x8 hk (XH p 0 n) (N - n) n
 refine ⟨aZ ans (XI (XH p 0 n) (N - n) n),XH p 0 n,?_,by rw [qF,l],?_,?_,C7 fun j h1 e=>?_⟩
 ·unfold ZR
  rw [nX]
  rfl
 ·omega
 ·omega
 ·by_cases h:j<n
  ·exact o j h1 h
  ·exact d j (by omega) e
include hk in
theorem C9 {p:Array Nat}{n N:Nat}(h1:1<=n)(y:n<N)(o:p.size=N)(c:∀ i j,i<=j->j<n->gK κ p j<=gK κ p i)(u:gK κ p n<gK κ p (n - 1)) :
  ∃ m d,aZ ans (Yh n N p)=(m,d)/\d.size=N/\1<=m/\m<=N/\i7 κ d m:=by
 have F:Falls κ p (n+1) 0:=⟨fun i j s x=>by
   by_cases e:j=n
   ·subst j
    by_cases w:i=n
    ·subst i;exact Vv _
    ·have:=c i (n - 1) (by omega) (by omega)
     omega
   ·exact c i j s (by omega),fun k a b=>by
   have:k=n:=by omega
   subst this
   simp,by omega⟩
 obtain ⟨d,h,q,v,r,z,A,l⟩:=tI hk (N - (n+1)) p (n+1) 0 (by omega) (by omega) F
 have e:aZ ans (Yh n N p)=aZ ans (if q>0 then ZR h N (XH d (h - (q+1)) h) else ZR h N d):=by
  unfold Yh
  rw [nX,v]
 rw [e]
 split
 ·exact C8 hk (by omega) (by omega) (by rw [qF,r,o]) (l.same (l.rev (by omega)))
 ·exact C8 hk (by omega) (by omega) (r.trans o) l
include hk in
theorem NM {p:Array Nat}{N:Nat}(h1:1<=N)(o:p.size=N):∃ m d,aZ ans (a3e N p)=(m,d)/\d.size=N/\1<=m/\m<=N/\i7 κ d m:=by
 obtain ⟨l,y,s,u⟩:=x8 hk p (N - 1) 1
 have e:aZ ans (a3e N p)=aZ ans (if (aZ ans (XI p (N - 1) 1) == N)=true then XJ (aZ ans (XI p (N - 1) 1),p) else if aZ ans (XI p (N - 1) 1)>1 then a0n (p.getD 0 0) (p.getD (aZ ans (XI p (N - 1) 1) - 1) 0) (fun c=>if c=true then XJ (aZ ans (XI p (N - 1) 1),p) else Yh (aZ ans (XI p (N - 1) 1)) N (XH p 0 (aZ ans (XI p (N - 1) 1)))) else Yh (aZ ans (XI p (N - 1) 1)) N p):=by
  unfold a3e
  rw [nX]
 rw [e]
 generalize aZ ans (XI p (N - 1) 1)=n at *
 have q:=C7 (κ:=κ) (p:=p) (m:=n) s
 split
 ·exact ⟨n,p,rfl,o,l,by omega,q⟩
 ·rename_i b
  have b:n≠N:=by simpa using b
  have a:=u (by omega)
  split
  ·rename_i v
   show ∃ m d,aZ ans (if ans (p.getD 0 0) (p.getD (n - 1) 0)=true then XJ (n,p) else Yh n N (XH p 0 n))=(m,d)/\_
   rw [hk]
   by_cases h:κ (p.getD 0 0)<κ (p.getD (n - 1) 0)
   ·rw [if_pos (by simpa using h)]
    exact ⟨n,p,rfl,o,l,by omega,q⟩
   ·rw [if_neg (by simpa using h)]
    have z:¬ gK κ p 0<gK κ p (n - 1):=h
    have all:∀ k,k<n->gK κ p k=gK κ p 0:=fun k r=>by
     have A:=q 0 k (Wn _) r
     have B:=q k (n - 1) (by omega) (by omega)
     omega
    refine C9 hk l (by omega) (by rw [qF,o]) (fun i j w x=>?_) ?_
    ·rw [mE (by omega),mE (by omega),if_pos ⟨by omega,by omega⟩,if_pos ⟨by omega,by omega⟩,all (0+n - 1 - j) (by omega),all (0+n - 1 - i) (by omega)]
     exact Vv _
    ·rw [mE (by omega),mE (by omega),if_neg (by omega),if_pos ⟨by omega,by omega⟩,all (0+n - 1 - (n - 1)) (by omega),<- all (n - 1) (by omega)]
     exact a
  ·rename_i v
   refine C9 hk l (by omega) o (fun i j w x=>?_) a
   have:i=j:=by omega
   subst this
   exact Vv _
include hk in
theorem x9 {p:Array Nat}{k:Nat}(S:i7 κ p k):∀ (f l r:Nat),r - l<=f->l<=r->r<=k->(∀ j,j<l->gK κ p j<=gK κ p k)->(∀ j,r<=j->j<k->gK κ p k<gK κ p j)->
  aZ ans (W2 p k f l r)<=k/\(∀ j,j<aZ ans (W2 p k f l r)->gK κ p j<=gK κ p k)/\∀ j,aZ ans (W2 p k f l r)<=j->j<k->gK κ p k<gK κ p j
 | 0,l,r,h1,h2,h3,lo,hi=>by
  have:l=r:=by omega
  subst this
  exact ⟨h3,lo,hi⟩
 | f+1,l,r,h1,h2,h3,lo,hi=>by
  by_cases h:l >= r
  ·have e:aZ ans (W2 p k (f+1) l r)=l:=by
    show aZ ans (if l >= r then XJ l else _)=_
    rw [if_pos h];rfl
   have:l=r:=by omega
   subst this
   rw [e]
   exact ⟨h3,lo,hi⟩
  ·by_cases c:κ (p.getD k 0)<κ (p.getD ((l+r) / 2) 0)
   ·have e:aZ ans (W2 p k (f+1) l r)=aZ ans (W2 p k f l ((l+r) / 2)):=by
     show aZ ans (if l >= r then XJ l else a0n (p.getD k 0) (p.getD ((l+r) / 2) 0) fun c=>if c=true then W2 p k f l ((l+r) / 2) else W2 p k f ((l+r) / 2+1) r)=_
     rw [if_neg h]
     show aZ ans (if ans (p.getD k 0) (p.getD ((l+r) / 2) 0)=true then W2 p k f l ((l+r) / 2) else W2 p k f ((l+r) / 2+1) r)=_
     rw [hk,if_pos (by simpa using c)]
    rw [e]
    refine x9 S f l ((l+r) / 2) (by omega) (by omega) (by omega) lo fun j b a=>?_
    have:=S ((l+r) / 2) j b a
    have d:gK κ p k<gK κ p ((l+r) / 2):=c
    omega
   ·have e:aZ ans (W2 p k (f+1) l r)=aZ ans (W2 p k f ((l+r) / 2+1) r):=by
     show aZ ans (if l >= r then XJ l else a0n (p.getD k 0) (p.getD ((l+r) / 2) 0) fun c=>if c=true then W2 p k f l ((l+r) / 2) else W2 p k f ((l+r) / 2+1) r)=_
     rw [if_neg h]
     show aZ ans (if ans (p.getD k 0) (p.getD ((l+r) / 2) 0)=true then W2 p k f l ((l+r) / 2) else W2 p k f ((l+r) / 2+1) r)=_
     rw [hk,if_neg (by simpa using c)]
    rw [e]
    refine x9 S f ((l+r) / 2+1) r (by omega) (by omega) h3 (fun j b=>?_) hi
    have d:¬ gK κ p k<gK κ p ((l+r) / 2):=c
    have:=S j ((l+r) / 2) (by omega) (by omega)
    omega
theorem NN {p:Array Nat}{k l:Nat}(a:k<p.size)(h:l<=k)(S:i7 κ p k)(lo:∀ j,j<l->gK κ p j<=gK κ p k)(b:∀ j,l<=j->j<k->gK κ p k<gK κ p j):i7 κ (bubble p k (k - l)) (k+1):=by
 intro i j c d
 rw [C6 a (by omega),C6 a (by omega)]
 have e:k - (k - l)=l:=by omega
 rw [e]
 repeat' split
 all_goals first
  | exact Vv _
  | (exfalso;omega)
  | (exact Y1 (b _ (by omega) (by omega)))
  | (exact lo _ (by omega))
  | (exact S _ _ (by omega) (by omega))
include hk in
theorem Dc {N:Nat}:∀ (f:Nat)(p:Array Nat)(k:Nat),p.size=N->k+f=N->i7 κ p k->i7 κ (aZ ans (a1B f p k)) N
 | 0,p,k,hs,h,S=>by
  have:k=N:=by omega
  subst this
  exact S
 | f+1,p,k,hs,h,S=>by
  have e:aZ ans (a1B (f+1) p k)=aZ ans (a1B f (bubble p k (k - aZ ans (W2 p k k 0 k))) (k+1)):=by
   show aZ ans ((W2 p k k 0 k).bind fun l=>a1B f (bubble p k (k - l)) (k+1))=_
   rw [nX]
  rw [e]
  obtain ⟨a,b,c⟩:=x9 hk S k 0 k (by omega) (by omega) (Vv _) (fun j m=>absurd m (by omega)) (fun j n d=>absurd d (by omega))
  exact Dc f _ (k+1) (by rw [bubble_size,hs]) (by omega) (NN (by omega) a S b c)
include hk in
theorem NO {N:Nat}(h1:1<=N):i7 κ (aZ ans (a1A N)) N:=by
 obtain ⟨m,a,e,d,c,h,S⟩:=NM hk (p:=(Wc N).toArray) h1 (by simp)
 have b:aZ ans (a1A N)=aZ ans (if m<N then a1B (N - max m 1) a (max m 1) else XJ a):=by
  unfold a1A
  rw [nX,e]
 rw [b]
 split
 ·have:max m 1=m:=by omega
  rw [this]
  exact Dc hk (N - m) a m d (by omega) S
 ·have:m=N:=by omega
  subst this
  exact S
end
section
variable {α:Type}{lt:α->α->Bool}(irr:∀ a,lt a a=false)(tr:∀ a b c,lt a b=true->lt b c=true->lt a c=true)(nt:∀ a b c,lt a b=true->lt a c=true\/lt c b=true)
theorem yA {p q:α->Bool}:∀ {l:List α},(∀ a∈l,p a=true->q a=true)->l.countP p<=l.countP q
 | [],_=>Vv _
 | a::l,h=>by
  have j:=yA (l:=l) fun b d=>h b (VI _ d)
  rw [Z2,Z2]
  have:=h a (VO ..)
  cases e:p a<;>cases i:q a<;>simp_all<;>omega
theorem Dd {p q:α->Bool}:∀ {l:List α}{b:α},(∀ a∈l,p a=true->q a=true)->b∈l->p b=false->q b=true->l.countP p<l.countP q
 | a::l,b,h,d,h1,h2=>by
  rw [Z2,Z2]
  have e:=yA (l:=l) fun c hc=>h c (VI _ hc)
  rcases VP.mp d with rfl|d
  ·simp only [h1,h2,Vy,if_false,if_true];omega
  ·have m:=Dd (l:=l) (fun c hc=>h c (VI _ hc)) d h1 h2
   have:=h a (VO ..)
   cases i:p a<;>cases j:q a<;>simp_all<;>omega
include irr tr nt in
theorem NP {l:List α}{a b:α}(d:a∈l):lt a b=decide (l.countP (fun c=>lt c a)<l.countP (fun c=>lt c b)):=by
 cases h:lt a b with
 | true=>
  have:=Dd (p:=fun c=>lt c a) (q:=fun c=>lt c b) (l:=l) (fun c _ hc=>tr _ _ _ hc h) d (irr a) h
  simpa using this
 | false=>
  have:=yA (p:=fun c=>lt c b) (q:=fun c=>lt c a) (l:=l) fun c _ hc=>by
   rcases nt c b a hc with z|z
   ·exact z
   ·rw [h] at z;cases z
  simpa using this
include irr tr nt in
theorem NQ (d:α)(xs:List α){n:Nat}(o:1<=n):(cB (fun i j=>lt (xs.getD i d) (xs.getD j d)) n).Pairwise fun i j=>lt (xs.getD j d) (xs.getD i d)=false:=by
 have l:∀ i j,lt (xs.getD i d) (xs.getD j d)=decide ((d::xs).countP (fun c=>lt c (xs.getD i d))<(d::xs).countP (fun c=>lt c (xs.getD j d))):=fun i j=>by
  refine NP irr tr nt ?_
  by_cases h:i<xs.length
  ·have:xs.getD i d=xs[i]:=by simp [Wo,h]
   rw [this]
   exact VI _ (Y7 h)
  ·have:xs.getD i d=d:=by simp [Wo,Y3 (Yx.mp h)]
   rw [this]
   exact VO ..
 have S:=NO (κ:=fun i=>(d::xs).countP fun c=>lt c (xs.getD i d)) l o (N:=n)
 have r:=jT (fun i j=>lt (xs.getD i d) (xs.getD j d)) (n:=n) o
 have u:(cB (fun i j=>lt (xs.getD i d) (xs.getD j d)) n).length=n:=by
  have:=r.length_eq
  simpa using this
 rw [WQ]
 intro i j h q p
 rw [l]
 have s:=S i j (by omega) (by omega)
 have e:∀ (a:Array Nat)(k:Nat)(l:k<a.toList.length),a.getD k 0=a.toList[k]:=fun a k l=>by
  have m:k<a.size:=by simpa using l
  simp [XN,m]
 unfold gK at s
 rw [e _ i h,e _ j q] at s
 simp only [decide_eq_false_iff_not,Yx]
 exact s
end
end L3
namespace L3
open PySem L2
section
variable {X:Cx}{a b c:Expr}{ma mb mc:ME}{pos:W4}
noncomputable def jV (f g:D->D->Hm->Option (D×Hm))(a b c:ME):ME:=fun d e=>(a d e).bind fun p=>(b d p.2).bind fun q=>(f p.1 q.1 q.2).bind fun r=>match r.1 with
 | .bl true=>(c d r.2).bind fun t=>g q.1 t.1 t.2
 | .bl false=>some (.bl false,r.2)
 | _=>none
theorem De {f g:D->D->Hm->Option (D×Hm)}{r J:R2}{K:Vk}(hf:cS K f r)(hg:cS K g J):∀ σ H Q,tM K (jV f g ma mb mc) σ H Q->vX r J (tM K ma) (tM K mb) (tM K mc) σ H Q:=by
 rintro σ H Q ⟨π,w,μ,d,q,R,E,e,k⟩
 obtain ⟨⟨x,h⟩,Y,e⟩:=Vj.mp e
 obtain ⟨⟨y,i⟩,Z,e⟩:=Vj.mp e
 obtain ⟨⟨z,j⟩,h3,e⟩:=Vj.mp e
 refine ⟨π,w,μ,x,h,R,E,Y,fun s v1 H1 n T i1=>⟨s,w,h,y,i,T,E.mono n,Z,fun u L M o R2 I=>?_⟩⟩
 refine hf u M i x y z j v1 L _ R2 (i1.mono o) I h3 fun m v3 N p A i3=>?_
 cases z with
 | bl B=>
  cases i3
  refine ⟨B,rfl,?_⟩
  cases B with
  | true=>
   refine kE ?_
   obtain ⟨⟨t,l⟩,h4,e⟩:=Vj.mp e
   exact ⟨m,w,j,t,l,A,((E.mono n).mono o).mono p,h4,fun v v4 O G U i4=>hg v O l y t d q L v4 Q U ((I.mono p).mono G) i4 e (k.after (((n.trans o).trans p).trans G))⟩
  | false=>
   refine kD ?_
   cases e
   exact k m _ N ((n.trans o).trans p) A (.bl false)
 | _=>cases e
noncomputable def jW:YS->Option (Int->Int->Bool)
 | .Lt=>some fun i j=>decide (i<j)
 | .LtE=>some fun i j=>decide (i<=j)
 | .Gt=>some fun i j=>decide (j<i)
 | .GtE=>some fun i j=>decide (j<=i)
 | _=>none
theorem nY {op:YS}{p:Int->Int->Bool}(h:jW op=some p):OpR X (Wt op) (fW fun i j=>.bl (p i j))/\(op=.Lt\/op=.LtE\/op=.Gt\/op=.GtE):=by
 cases op<;>first|(cases h;first|exact ⟨vT,by simp⟩|exact ⟨vU,by simp⟩|exact ⟨vV,by simp⟩|exact ⟨vW,by simp⟩)|cases h
theorem Df {op d:YS}(h':d=.Lt\/d=.LtE\/d=.Gt\/d=.GtE):a4T [op,d] [b,c]=false:=by
 show Yr d c=false
 rcases h' with rfl|rfl|rfl|rfl<;>exact c6 _
theorem NR {op d:YS}{p q:Int->Int->Bool}(h:jW op=some p)(h':jW d=some q)(e:QE X a ma)(i:QE X b mb)(hc:QE X c mc):QE X (.Compare a [op,d] [b,c] pos) (jV (fM p) (fM q) ma mb mc):=
 ⟨cW (IH (nY h).1 (nY h').1 e.h i.h hc.h (Df (nY (X:=X) h').2)) (De gZ gZ)⟩
theorem NS {op d:YS}{p q:Int->Int->Bool}(h:jW op=some p)(h':jW d=some q)(i:QE X a ma)(j:QE X b mb)(hc:QE X c mc):QT X (.Compare a [op,d] [b,c] pos) (aO (jV (fM p) (fM q) ma mb mc)):=
 ⟨r0 (II (nY h).1 (nY h').1 i.h j.h hc.h (Df (nY (X:=X) h').2)) fun e H Q h=>De gZ gZ e H _ (BI e H Q h)⟩
noncomputable def tJ (d:Bool):D->D->Hm->Option (D×Hm)
 | .bl b,.bl c,μ=>some (.bl (if d then !(b == c) else b == c),μ)
 | .int _,.bl _,μ=>some (.bl d,μ)
 | _,_,_=>none
noncomputable def d7 (d:Bool):D->D->Hm->Option (D×Hm):=fun x y e=>match y with
 | .bl _=>tJ d x y e
 | _=>iZ d x y e
noncomputable def yB (d:Bool):R2:=fun x y H Q=>∃ c,y=.bl c/\((∃ b,x=.bl b/\Q (.bl (if d then !(b == c) else b == c)) H)\/((∃ i,x=.int i)/\Q (.bl d) H))
theorem tK {K:Vk}{h:Bool}:cS K (tJ h) (yB h):=by
 intro l H p x y d m n o Q R i j e k
 unfold tJ at e
 split at e
 ·cases e;cases i;cases j
  exact ⟨_,rfl,.inl ⟨_,rfl,k l _ H .refl R (.bl _)⟩⟩
 ·cases e;cases i;cases j
  exact ⟨_,rfl,.inr ⟨⟨_,rfl⟩,k l _ H .refl R (.bl _)⟩⟩
 ·cases e
theorem Dg:OpR X (Wt .Is) (yB false):=by
 intro e s l H x y v u Q I d j h
 obtain ⟨c,rfl,h⟩:=h
 cases j
 rcases h with ⟨b,rfl,q⟩|⟨⟨i,rfl⟩,q⟩
 ·cases d
  exact Vr (lL I q (by cases b<;>cases c<;>rfl))
 ·obtain ⟨t,rfl⟩:=d
  exact Vr (lL I q rfl)
theorem Dh:OpR X (Wt .IsNot) (yB true):=by
 intro e s l H x y v u Q I d j h
 obtain ⟨c,rfl,h⟩:=h
 cases j
 rcases h with ⟨b,rfl,q⟩|⟨⟨i,rfl⟩,q⟩
 ·cases d
  exact Vr (lL I q (by cases b<;>cases c<;>rfl))
 ·obtain ⟨t,rfl⟩:=d
  exact Vr (lL I q rfl)
theorem tL {d:Bool}(x y:D)(e:Hm)(r:D×Hm)(h:d7 d x y e=some r):tJ d x y e=some r\/iZ d x y e=some r:=by
 unfold d7 at h
 split at h
 ·exact .inl h
 ·exact .inr h
theorem NT (d:QE X a ma)(e:QE X b mb):QE X (.Compare a [.Is] [b] pos) (aB (d7 false) ma mb):=lY ⟨eF Dg tK d.h e.h (c6 _)⟩ (My d e) (gD tL)
theorem NU (d:QE X a ma)(e:QE X b mb):QE X (.Compare a [.IsNot] [b] pos) (aB (d7 true) ma mb):=lY ⟨eF Dh tK d.h e.h (c6 _)⟩ (Mz d e) (gD tL)
theorem NV (d:QE X a ma)(e:QE X b mb):QT X (.Compare a [.Is] [b] pos) (aO (aB (d7 false) ma mb)):=nJ ⟨eG Dg tK d.h e.h (c6 _)⟩ (MB d e) (nK (gD tL))
theorem NW (d:QE X a ma)(e:QE X b mb):QT X (.Compare a [.IsNot] [b] pos) (aO (aB (d7 true) ma mb)):=nJ ⟨eG Dh tK d.h e.h (c6 _)⟩ (MC d e) (nK (gD tL))
end
noncomputable def mF:MF:=fun ds a=>match ds with
 | [x]=>(bF a x).bind fun c=>(kL c).map fun b=>(.int b.sum,a)
 | _=>none
noncomputable def Di (K:Vk):List V->Hp->VK->Prop:=fun xs H Q=>∃ (p:Addr)(is:List Int),xs=[.ref p]/\(SqL K H p (is.map V.int)\/SqT K H p (is.map V.int))/\Q (.int is.sum) H
theorem NX {K:Vk}:dR K mF (Di K):=by
 intro j H r n d h l Q R i a k
 unfold mF at a
 split at a
 ·obtain ⟨o,b,a⟩:=Vj.mp a
  obtain ⟨e,c,a⟩:=Vn.mp a
  cases a
  cases i with
  | cons i t=>
   cases t
   obtain ⟨p,m,rfl,q,hd⟩:=lU R i b
   rw [tF c] at hd
   have:=ints_of' hd
   subst this
   exact ⟨p,e,rfl,q,k j _ H .refl R (.int _)⟩
 ·cases a
theorem Dj (is:List Int):∀ n,n<=is.length->preSum (fun i=>is.getD i 0) n=(is.take n).sum
 | 0,_=>rfl
 | n+1,h=>by
  have a:=Dj is n (by omega)
  have e:is.take (n+1)=is.take n++[is[n]]:=by rw [Zy,VH (by omega)];rfl
  show preSum (fun i=>is.getD i 0) n+is.getD n 0=_
  rw [a,e,List.sum_append]
  simp [Wo,VH (show n<is.length by omega)]
section
variable {X:Cx}
theorem Dk {a5X:List (Addr×WY)}{σ:St}{H:Hp}{s s2 c:Vp}{n:List Addr}(I:Inv X a5X σ H s)(m:Moved n (fun a b=>b=a) s2 c)(p:∀ b o,s.heap.get? b=some o->s2.heap.get? b=some o)(hw:∀ b∈n,s.heap.objs.size<=b)(d:s2.gens=s.gens/\s2.drawn=s.drawn/\s2.os=s.os):Inv X a5X σ H c:=by
 have l:∀ b o,s.heap.get? b=some o->c.heap.get? b=some o:=fun b o e=>m.heap b o (fun z=>absurd (VL (Vu e) (hw b z)) (Xz _)) (p b o e)
 have h:c.gens=s.gens:=m.gens.trans d.1
 have i:c.drawn=s.drawn:=m.drawn.trans d.2.1
 have j:c.os=s.os:=m.os.trans d.2.2
 obtain ⟨v,u,r,q,w⟩:=c
 dsimp only at h i j l
 subst h i j
 exact I.kept (t':=q) l
theorem Dl {is:List Int}{a:List Value}(r:Vals (is.map V.int) a){i:Nat}{v:Value}(h:a.toArray[i]? = some v):∃ t,v=.int (is.getD i 0) t:=by
 have b:a[i]? = some v:=by simpa using h
 have d:i<is.length:=by
  have:=(Vx.mp b).1
  have:=r.length
  rw [Vm] at this
  omega
 obtain ⟨u,c,e⟩:=r.get (i:=i) (x:=.int is[i]) (by rw [V0,VH d];rfl)
 rw [b] at c
 cases c
 obtain ⟨t,rfl⟩:=e
 exact ⟨t,by simp [Wo,d]⟩
theorem NY (hc:X.calm=true):CallR X (.builtin "sum") (Di X.K):=by
 intro G s O H N M Q I r h
 obtain ⟨p,d,rfl,y,q⟩:=h
 obtain ⟨u,rfl,K⟩:=eD r
 cases K
 have E:X.A.in1.handled=none:=I.ok.hd hc
 have fin:∀ a:List Value,Vals (d.map V.int) a->preSum (fun i=>d.getD i 0) a.toArray.size=d.sum:=fun a w=>by
  have x:a.toArray.size=d.length:=by rw [VG,<- w.length,Vm]
  rw [x,Dj d _ (Vv _),Y5]
 rcases y with y|y
 ·obtain ⟨a,w,j,J⟩:=I.list y
  refine a4L (Yz j.isList ?_)
  have l:p≠s.heap.objs.size:=by
   obtain ⟨o,n,_⟩:=j.isList
   exact VB (Vu n)
  refine ⟨s.heap.objs.size,_,_,_,_,_,_,fun i=>d.getD i 0,rfl,(a2V E _ p l a.toArray).toS,⟨⟨_,VC _ rfl,rfl,rfl⟩,j.isList.push _⟩,?_,fun i v A=>Dl w A,fun L B m=>?_⟩
  ·intro b c
   show b<(s.heap.push _).objs.size
   rw [Yv]
   obtain ⟨o,n,_⟩:=j.isList
   have z:=Vu n
   simp only [VP,Xd,or_false] at c
   rcases c with rfl|rfl
   ·exact YD _
   ·exact ZS z
  ·refine ⟨.int d.sum,H,Dk I m (fun b o e=>Vo _ e) (fun b c=>?_) ⟨rfl,rfl,rfl⟩,⟨B,?_⟩,q⟩
   ·have e:b=s.heap.objs.size:=by simpa using c
    exact a0d e.symm
   ·rw [fin a w]
 ·obtain ⟨a,w,j,J⟩:=I.tuple y
  refine a4L (YX (show s.heap.IsTuple p a.toArray from j) ?_)
  have l:p≠s.heap.objs.size:=by
   obtain ⟨o,n,_⟩:=j
   exact VB (Vu n)
  refine ⟨s.heap.objs.size,_,_,_,_,_,_,fun i=>d.getD i 0,rfl,(a2C E _ p l a.toArray).toS,⟨⟨_,VC _ rfl,rfl,rfl⟩,Y4 j _⟩,?_,fun i v A=>Dl w A,fun L B m=>?_⟩
  ·intro b c
   show b<(s.heap.push _).objs.size
   rw [Yv]
   obtain ⟨o,n,_⟩:=j
   have z:=Vu n
   simp only [VP,Xd,or_false] at c
   rcases c with rfl|rfl
   ·exact YD _
   ·exact ZS z
  ·refine ⟨.int d.sum,H,Dk I m (fun b o e=>Vo _ e) (fun b c=>?_) ⟨rfl,rfl,rfl⟩,⟨B,?_⟩,q⟩
   ·have e:b=s.heap.objs.size:=by simpa using c
    exact a0d e.symm
   ·rw [fin a w]
end
noncomputable def d9 {b:Type}(xs:List b)(lo a st:Option Int):List b:=(a4v (Yd lo a st xs.length).1 (Yd lo a st xs.length).2.1 (Yd lo a st xs.length).2.2).filterMap (xs[·]?)
noncomputable def nZ (a:ME)(lo d st:MO):ME:=fun b e=>(a b e).bind fun p=>(lo b p.2).bind fun q=>(d b q.2).bind fun r=>(st b r.2).bind fun t=>
 if t.1≠some 0 then (d6 t.2 p.1).bind fun c=>if (d9 c q.1 r.1 t.1).length<=VA then some (.loc t.2.length,t.2++[.lst (d9 c q.1 r.1 t.1)]) else none else none
theorem NZ {K:Vk}{π:Nat->Addr}{n:Nat}{H:Hp}{vs:List V}{ds:List D}(h:IsDs K π n H vs ds)(lo a st:Option Int):IsDs K π n H (d9 vs lo a st) (d9 ds lo a st):=by
 unfold d9
 rw [h.length]
 generalize a4v _ _ _=l
 induction l with
 | nil=>exact .nil
 | cons i l b=>
  rw [Xv,Xv]
  cases a:ds[i]? with
  | none=>
   have:vs[i]? = none:=by
    rw [WC] at a ⊢
    rw [h.length];exact a
   rw [this]
   exact b
  | some d=>
   obtain ⟨v,c,e⟩:=h.get a
   rw [c]
   exact .cons e b
theorem N0 {vs:List V}{a:List Value}(r:Vals vs a)(lo b st:Option Int):Vals (d9 vs lo b st) (d9 a lo b st):=by
 unfold d9
 rw [r.length]
 generalize a4v _ _ _=l
 induction l with
 | nil=>exact .nil
 | cons i l c=>
  rw [Xv,Xv]
  cases b:vs[i]? with
  | none=>
   have:a[i]? = none:=by
    rw [WC] at b ⊢
    rw [<- r.length];exact b
   rw [this]
   exact c
  | some v=>
   obtain ⟨u,d,e⟩:=r.get b
   rw [d]
   exact .cons e c
section
variable {X:Cx}{e:Expr}{te:TE}{lo hi:Option Expr}{st:Expr}{tl th tt:TO}{pos p2:W4}
noncomputable def N3 (K:Vk)(te:TE)(tl th tt:TO):TE:=fun σ H Q=>te σ H fun x c=>tl σ c fun l d=>th σ d fun u h=>tt σ h fun t b=>t≠some 0/\∃ a xs,x=.ref a/\SqL K b a xs/\(d9 xs l u t).length<=VA/\∀ p,b p=none->Q (.ref p) (aK b p (.lst (d9 xs l u t)))
open PyProof.Rows in
theorem N4 (O:PE X e te)(R:PO X lo tl)(U:PO X hi th)(T:PO X (some st) tt):PE X (.Subscript e (.Slice lo hi (some st) p2) pos) (N3 X.K te tl th tt):=by
 intro c s j H Q I h
 refine a2D (aP (O c s j H _ I h) fun v s1 ⟨x,A,J,r1,q1⟩=>?_)
 refine wpAny_Slice (aP (R c s1 j A _ J q1) fun w s2 ⟨l,B,K,pl,q2⟩=>aP (U c s2 j B _ K q2) fun z s3 ⟨u,E,L,pu,q3⟩=>aP (T c s3 j E _ L q3) fun y d ⟨t,G,M,pt,q4⟩=>?_)
 obtain ⟨N,a,xs,rfl,Y,Z,q⟩:=q4
 cases r1
 have o:Inv X c j G { d with heap:=d.heap.push { cls:=.type "slice",data:=.fields #[w,z,y] } }:=M.kept (t':=d.toks) fun b ob q=>Vo _ q
 obtain ⟨n,r,m,hz'⟩:=o.list Y
 have p:=r.length
 show VD (VM X.prog X.w) X.A (a1b e (.Slice lo hi (some st) p2) (.ref a) (.ref d.heap.objs.size)) (EP X c j Q) X.xe { d with heap:=d.heap.push { cls:=.type "slice",data:=.fields #[w,z,y] } }
 refine a5N (ops:=[.ref a,.ref d.heap.objs.size]) m.isList.typeIs a1z.lookup ?_ (by with_unfolding_all rfl)
 refine a2T m.isList (a1x ..) pl pu pt N ?_ (by rw [VG]<;>omega)
 have i:a3d n.toArray l u t=(d9 n l u t).toArray:=by
  unfold a3d d9
  simp
 rw [i]
 refine ⟨.ref _,_,o.laid (t':=d.toks) (o:=.lst (d9 xs l u t)) (fun b ob q=>Vo _ q) (Vv _) ?_,rfl,q _ (o.hok.fresh (Vv _))⟩
 exact ⟨Z,_,0,N0 r l u t,VC _ rfl⟩
theorem N5 {A:ME}{G B I:MO}(he:QE X e A)(hl:QO X lo G)(hu:QO X hi B)(ht:QO X (some st) I):QE X (.Subscript e (.Slice lo hi (some st) p2) pos) (nZ A G B I):=⟨cW (N4 he.h hl.h hu.h ht.h) (by
 rintro σ H Q ⟨π,n,μ,d,μ',R,E,a,k⟩
 obtain ⟨⟨x,c⟩,T,a⟩:=Vj.mp a
 obtain ⟨⟨l,h⟩,U,a⟩:=Vj.mp a
 obtain ⟨⟨u,i⟩,Y,a⟩:=Vj.mp a
 obtain ⟨⟨t,r⟩,Z,a⟩:=Vj.mp a
 refine ⟨π,n,μ,x,c,R,E,T,fun s v1 H1 j K i1=>⟨s,n,c,l,h,K,E.mono j,U,fun v H2 m R2=>⟨v,n,h,u,i,R2,(E.mono j).mono m,Y,fun w H3 o L=>⟨w,n,i,t,r,L,((E.mono j).mono m).mono o,Z,fun π4 H4 z y=>?_⟩⟩⟩⟩
 split at a
 ·rename_i O
  obtain ⟨xs,h5,a⟩:=Vj.mp a
  split at a
  ·rename_i hz
   cases a
   obtain ⟨p,J,rfl,q,hd⟩:=mB y (((i1.mono m).mono o).mono z) h5
   have b:=NZ hd l u t
   refine ⟨O,p,J,rfl,q,by rw [b.length];exact hz,fun p' hp=>?_⟩
   obtain ⟨N,M,_⟩:=y.alloc (c:=.lst (d9 xs l u t)) (o:=.lst (d9 J l u t)) hp b
   exact k _ _ _ ((((j.trans m).trans o).trans z).trans N) M fL
  ·cases a
 ·cases a)⟩
end
section
variable {X:Cx}{a5X:List (Addr×WY)}{σ:St}{H:Hp}{s:Vp}{h':Wj}
theorem Dm {t':Nat}{ch:List Addr}{a:Addr}{o:HO}(I:Inv X a5X σ H s)(k:∀ b u,b∉ch->s.heap.get? b=some u->h'.get? b=some u)(j:∀ b∈ch,fH X a5X H b)(l:s.heap.objs.size<=a)
  (new:ObjOk X.prog X.w (aK H a o) h' a o):Inv X a5X σ (aK H a o) { s with heap:=h',toks:=t' }:=by
 have d:=I.hok.fresh l
 have h:∀ b u,H b=some u->b∉ch:=fun b u e z=>by
  have:=(j b z).1
  rw [e] at this;cases this
 refine I.step (g':=s.gens) (d':=s.drawn) (ch:=ch) (fun b i=>let ⟨L,y,M,A,B,E⟩:=j b i;⟨A,y,B,E⟩) (fun b o _ _ hc e _=>k b o hc e) (fun b o _ _ hc e _=>⟨o.slots,k b o hc e⟩) (fun b K hc e n=>?_)
  (fun b o hc e=>⟨o,k b o hc e⟩) (fun b p q=>?_) (fun b K p q=>?_) (fun b N q=>?_) (fun m G=>?_) (fun b u e=>?_) I.bare
 ·rw [a8 (VB (VL (Vu e) l))];exact n
 ·rw [a8 (eM q d)];exact q
 ·rw [a8 (eM q d)];exact q
 ·exact ⟨#[],by rw [a8 (eM q d),q];simp⟩
 ·obtain ⟨o,x,w,J,r⟩:=G
  exact ⟨o,x,w,k _ o (fun z=>(j _ z).2.1 rfl) J,r⟩
 ·by_cases i:b=a
  ·subst i;rw [cG] at e;cases e;exact new
  ·rw [a8 i] at e
   refine (I.hok b u e).stay (fun c v hc q=>k c v ?_ q) (fun c q=>by rw [a8 (eM q d)];exact q) fun c p q=>by rw [a8 (eM q d)];exact q
   rcases hc with z|z
   ·rw [z];exact h b u e
   ·exact h c _ z
theorem Dn {t':Nat}{ch:List Addr}(I:Inv X a5X σ H s)(k:∀ b u,b∉ch->s.heap.get? b=some u->h'.get? b=some u)(d:∀ b∈ch,fH X a5X H b):Inv X a5X σ H { s with heap:=h',toks:=t' }:=by
 have a:∀ b u,H b=some u->b∉ch:=fun b u e z=>by
  have:=(d b z).1
  rw [e] at this;cases this
 refine I.step (g':=s.gens) (d':=s.drawn) (ch:=ch) (fun b y=>let ⟨G,l,J,p,w,x⟩:=d b y;⟨p,l,w,x⟩) (fun b o _ _ hc e _=>k b o hc e) (fun b o _ _ hc e _=>⟨o.slots,k b o hc e⟩) (fun b E hc e n=>n)
  (fun b o hc e=>⟨o,k b o hc e⟩) (fun b h q=>q) (fun b E h q=>q) (fun b K q=>⟨#[],by rw [q];simp⟩) (fun m A=>?_) (fun b u e=>?_) I.bare
 ·obtain ⟨o,j,i,B,r⟩:=A
  exact ⟨o,j,i,k _ o (fun z=>(d _ z).2.1 rfl) B,r⟩
 ·refine (I.hok b u e).stay (fun c v hc q=>k c v ?_ q) (fun c q=>q) fun c h q=>q
  rcases hc with z|z
  ·rw [z];exact a b u e
  ·exact a c _ z
end
noncomputable def yC (K:Vk)(a:Addr):It:=
 ⟨fun i H=>∃ b x,SqL K H a b/\b[i]? = some x,fun i H x c=>∃ p v,x=.ref p/\H p=none/\c=aK H p (.tup [.int i,v])/\∀ b,SqL K H a b->b[i]? = some v,fun i H=>∃ b,SqL K H a b/\b.length<=i⟩
theorem N6 {P:VQ}{w:V6}{K:Vk}{es:List Expr}{kx:Nat}{pt:W4}(a e n:Addr)(y:e≠n) :
  Turn P w K (.Tuple es kx pt) (yC K a) [e,n] e (fun i h=>∃ m,IsEnum h e n i m/\h.IsListIter n a i) where
 mem:=by simp
 obj:=fun i h ⟨m,st,l⟩ b q=>by
  have j:b=e\/b=n:=by simpa using q
  rcases j with rfl|rfl
  ·exact ⟨_,st,fun v z=>by
    have z':ZO _=a1f v:=z
    cases z'⟩
  ·obtain ⟨o,L,c,d⟩:=l
   exact ⟨o,L,fun v z=>by rw [d] at z;cases z⟩
 keep:=fun i h h' ⟨m,st,l⟩ k=>⟨m,k e (by simp) _ st,l.at fun o L=>k n (by simp) o L⟩
 item:=by
  intro X O hw N hc i J s σ H E I B ⟨m,st,l⟩ T
  subst O hw N
  obtain ⟨xs,x,G,hx⟩:=T
  obtain ⟨its,rv,p,hz⟩:=I.list G
  obtain ⟨u,hu,ru⟩:=rv.get hx
  refine wpAny_pyNext_enum_item st l p.isList (x:=u) (by simpa using hu) y fun h1 ho hit ht hsz hk=>⟨_,rfl,wpAny_letOwnedTupleGo_enum ho fun h2 Q r=>?_⟩
  have A:e<s.heap.objs.size:=Vu st
  have U:s.heap.objs.size≠e:=W8 A
  have Z:h2.get? s.heap.objs.size=some { cls:=.type "tuple",data:=.seq #[.int i s.toks,u] }:=(r.2 _ U).trans ht
  have R:H s.heap.objs.size=none:=I.hok.fresh (Vv _)
  refine ⟨.ref s.heap.objs.size,aK H s.heap.objs.size (.tup [.int i,x]),?_,rfl,⟨s.heap.objs.size,x,rfl,R,rfl,fun ys hy=>by rw [I.list_inj hy G];exact hx⟩,⟨u,Q,hit.extBut r.extBut (WB y)⟩,fun b q=>?_⟩
  ·refine Dm (s:=s) (h':=h2) (t':=s.toks+1) (ch:=[e,n]) I (fun b ob q M=>?_) B (Vv _) ?_
   ·have j:b≠e/\b≠n:=by simpa using q
    exact (r.2 b j.1).trans (hk b ob j.1 j.2 M)
   ·exact ⟨by show (2:Nat)<=VA;decide,[.int i s.toks,u],.cons ⟨_,rfl⟩ (.cons ru .nil),_,Z,rfl,0,rfl,rfl⟩
  ·have j:b=e\/b=n:=by simpa using q
   have hn:=(B b q).1
   obtain ⟨o,Y,_⟩:=l
   rw [a8]
   ·exact hn
   ·rcases j with rfl|rfl
    ·exact VB A
    ·exact VB (Vu Y)
 done:=by
  intro X O hw N hc i J s σ H E I B ⟨m,st,l⟩ T
  subst O hw N
  obtain ⟨xs,G,hx⟩:=T
  obtain ⟨its,rv,p,hz⟩:=I.list G
  have hl:=rv.length
  refine wpAny_pyNext_enum_end (I.ok.hd hc) st l p.isList (by simp;omega) fun h' M=>⟨rfl,Dn (t':=s.toks) (ch:=[e,n]) I (fun b o q z=>M b o ?_ z) B⟩
  have j:b≠e/\b≠n:=by simpa using q
  exact j.2
 self:=fun _ _ _ _ _ ⟨m,st,_⟩ h=>a4F st h
structure QJT (X:Cx)(e:Expr)(m:MI):Prop where
 h:∀ es k p,PI X (.Tuple es k p) e (jO X.K m)
theorem QJ.t {X:Cx}{e:Expr}{m:MI}(h:QJ X e m):QJT X e m:=⟨fun es k p=>h.h _⟩
noncomputable def n6 (x:D):gC:=fun a i=>(bF a x).map fun xs=>(xs[i]?).map fun d=>.tup [.int i,d]
noncomputable def mG (a:MA):MI:=fun d c=>(a d c).bind fun p=>match p.1 with
 | [x]=>(d6 p.2 x).map fun b=>(n6 x,b.length+1,p.2)
 | _=>none
theorem N7 {K:Vk}{π:Nat->Addr}{u:Hm}{H:Hp}{v:V}{x:D}{xs:List D}(R:Rp K π H u)(h:IsD K π u.length H v x)(A:d6 u x=some xs):∃ a,v=.ref a/\(∃ vs,SqL K H a vs)/\Wk K (yC K a) (n6 x) π u.length H:=by
 have hw:bF u x=some xs:=by
  cases x with
  | rol m=>exact A
  | loc b=>exact A
  | _=>cases A
 obtain ⟨p,vs,rfl,U,_⟩:=mB R h A
 refine ⟨p,rfl,⟨vs,U⟩,?_⟩
  -- the list as it stands l
 have l:∀ j c n,Ext π u.length H j c.length n->Rp K j n c->∀ m,bF c x=some m->∃ o,SqL K n p o/\IsDs K j c.length n o m:=fun j c n e r m L=>by
  have Y:=h.mono e
  have Q:d6 c x=some m:=by
   cases x with
   | rol zs=>exact L
   | loc b=>exact L
   | _=>cases A
  obtain ⟨p',o,M,s,w⟩:=mB r Y Q
  cases M
  exact ⟨o,s,w⟩
 refine ⟨fun j c n i e r z=>?_,fun j c n i d e r z=>?_⟩
 ·obtain ⟨m,E,B⟩:=Vn.mp z
  obtain ⟨o,s,w⟩:=l j c n e r m E
  have G:m[i]? = none:=by
   cases q:m[i]? with
   | none=>rfl
   | some d=>rw [q] at B;cases B
  exact ⟨o,s,by rw [w.length];exact WC.mp G⟩
 ·obtain ⟨m,E,B⟩:=Vn.mp z
  obtain ⟨d',G,N⟩:=Vn.mp B
  subst N
  obtain ⟨o,s,w⟩:=l j c n e r m E
  obtain ⟨v,J,O⟩:=w.get G
  refine ⟨⟨o,v,s,J⟩,?_⟩
  rintro y Z ⟨t,v',rfl,T,rfl,X⟩
  have:=X o s
  rw [J] at this
  cases this
  obtain ⟨I,R2⟩:=r.fresh (o:=.tup [.int i,v]) T
  exact ⟨I,R2,.tup (.of cG) (.cons (.int _) (.cons (O.mono I) .nil))⟩
noncomputable def N8 (K:Vk)(c:TA):TI:=fun σ H R=>c σ H fun vs b=>∃ a,vs=[.ref a]/\(∃ xs,SqL K b a xs)/\R (yC K a) b
open PyProof.Rows in
theorem N9 {X:Cx}{a:Expr}{m:TA}{p pos pt:W4}{es:List Expr}{K:Nat}(y:Gl X "enumerate") (A:X.mg "enumerate" = none) (w:PA X [a] m)(E:V5 [a] X.env=[(false,eval a X.env)]):PI X (.Tuple es K pt) (.Call (.Name "enumerate" p) [a] [] pos) (N8 X.K m):=by
 intro e s n H R I h
 refine Call_ (jI I y A Boot.«enumerate» (callWith_type1 (aP (w pos e s n H _ I h) fun U c ⟨Y,j,d,N,M⟩=>?_) E rfl))
 obtain ⟨r,rfl,⟨Z,B⟩,q⟩:=M
 obtain ⟨u,rfl,O⟩:=eD N
 cases O
 obtain ⟨J,T,L,Q⟩:=d.list B
 refine call_enumerate_list L.isList fun v l hit G z=>?_
 refine a4F l ?_
 have o:Inv X e n j { c with heap:=v }:=d.kept (t':=c.toks) z
 refine ⟨c.heap.objs.size+1,[c.heap.objs.size+1,c.heap.objs.size],_,_,j,rfl,o,N6 r _ _ (Nat.succ_ne_self _),⟨_,l,hit⟩,fun b x=>?_,q⟩
 have i:b=c.heap.objs.size+1\/b=c.heap.objs.size:=by simpa using x
 rcases i with rfl|rfl
 ·exact d.fpOk (Yy _) (d.hok.fresh (Yy _))
 ·exact d.fpOk (Vv _) (d.hok.fresh (Vv _))
theorem Oa {X:Cx}{a:Expr}{o:MA}{n:Nat}{p pos:W4}(c:Gl X "enumerate") (d:X.mg "enumerate" = none) (l:QA X [a] o n):QJT X (.Call (.Name "enumerate" p) [a] [] pos) (mG o):=⟨fun es M pt a5X s σ H R I hw=>by
 have m:=l.s
 rw [Wf,Vq] at m
 obtain ⟨K,L,G,A,N,J,r,E,b,k⟩:=hw
 obtain ⟨⟨x,h⟩,w,b⟩:=Vj.mp b
 refine N9 c d l.h (fB m.1) a5X s σ H R I ⟨K,L,G,x,h,r,E,w,fun i O q v j e=>?_⟩
 dsimp only at b
 split at b
 ·rename_i x
  obtain ⟨Q,y,b⟩:=Vn.mp b
  cases b
  cases e with
  | cons e B=>
   cases B
   obtain ⟨u,rfl,z,W⟩:=N7 j e y
   exact ⟨u,rfl,z,k i q _ v j W⟩
 ·cases b⟩
section
variable {X:Cx}{pos:W4}
theorem Ob {tg iter:Expr}{w:MI}{g:MG}{v:MS}{body:List Stmt}(I:PI X tg iter (jO X.K w))(G:QG X tg g)(B:QB X body v)(K:a1Y (VM X.prog X.w) X.A X.env X.xe)(hc:X.calm=true)(L:fC iter=true) :
  QS X (.For tg iter body [] pos) (cQ w g v):=⟨iU (Iw K hc I G.h B.h (by intro z;cases iter<;>first|rfl|cases L)) (by
 rintro E T H ⟨O,Q,N,u,r,p,R,s,m,k⟩
 obtain ⟨⟨o,n,l⟩,A,m⟩:=Vj.mp m
 refine ⟨O,Q,N,o,n,l,R,s,A,fun q x J i y W=>?_⟩
 have M:lP X.K E q l.length x u r p:=by
  cases u with
  | nx=>exact fun a b e j h c=>k a b e (i.trans j) h c
  | bk=>exact fun a b e j h c=>k a b e (i.trans j) h c
  | ct=>exact fun a b e j h c=>k a b e (i.trans j) h c
  | rt d=>exact KC.after k i
 exact K2 W M .refl y (s.mono i) m)⟩
noncomputable def yD (put:D->D->D->Hm->Option Hm)(o i v:ME):MS:=fun a c=>(v a c).bind fun p=>(o a p.2).bind fun q=>(i a q.2).bind fun r=>(put q.1 r.1 p.1 r.2).map fun b=>(.nx,a,b)
noncomputable def qG:D->D->D->Hm->Option Hm
 | .loc a,y,d,μ=>match μ[a]? with
  | some (.dT kvs)=>(eH y).bind fun k=>if kvs.length<VA then some (μ.set a (.dT (dA kvs k d))) else none
  | _=>none
 | _,_,_,_=>none
noncomputable def qH:D->D->D->Hm->Option Hm:=qG
noncomputable def iM:=yD qH
theorem Oc {K:Vk}{π:Nat->Addr}{n:Nat}{H:Hp}:∀ {vs:List V}{ds:List D}(j:Nat){v:V}{d:D},IsDs K π n H vs ds->IsD K π n H v d->IsDs K π n H (vs.set j v) (ds.set j d)
 | _,_,j,_,_,.nil,h=>by simp;exact .nil
 | _,_,0,_,_,.cons _ t,h=>.cons h t
 | _,_,j+1,_,_,.cons h0 t,h=>.cons h0 (Oc j t h)
theorem Dp {st:Stmt}{i:Nat}:QS X st (aR i bS):=⟨fun a5X s σ H D I q=>by
 obtain ⟨h,j,e,d,c,b,R,E,a,k⟩:=q
 cases a⟩
end
end L3
namespace L3
open PySem L2
noncomputable def Dq {a:Type}(xs:List a)(k:Nat)(d:a):List a:=xs.take k++d::xs.drop k
theorem Vals.ins {xs:List V}{us:List Value}(h:Vals xs us)(k:Nat){v:V}{u:Value}(r:RelV v u):Vals (Dq xs k v) (Dq us k u):=(h.take k).append (.cons r (h.drop k))
section
variable {X:Cx}
end
noncomputable def kS (a:Hm)(x:D):List D->Option (List Bool)
 | []=>some []
 | y::r=>(cD 8 a y x).bind fun b=>(kS a x r).map fun c=>b::c
noncomputable def n8:D->List D->Hm->Option (D×Hm)
 | .loc a,[x],μ=>match μ[a]? with
  | some (.lst xs)=>(kS μ x xs).bind fun bs=>if bs.findIdx id<bs.length/\bs.length<=VA then some (.int (bs.findIdx id:Nat),μ) else none
  | _=>none
 | _,_,_=>none
noncomputable def Dr (K:Vk):V->List V->Hp->VK->Prop:=fun x vs H Q=>∃ π b a xs y c bs,Rp K π H b/\x=.ref (π a)/\vs=[y]/\b[a]? = some (.lst xs)/\IsD K π b.length H y c/\kS b c xs=some bs/\bs.findIdx id<bs.length/\Q (.int (bs.findIdx id:Nat)) H
theorem Od {K:Vk}:iJ K n8 (Dr K):=by
 intro b H o x ds d p v q Q R l j a k
 unfold n8 at a
 split at a
 ·split at a
  ·rename_i n h
   obtain ⟨bs,c,a⟩:=Vj.mp a
   split at a
   ·rename_i e
    cases a
    cases j with
    | cons i m=>
     cases m
     cases l
     exact ⟨b,o,_,n,_,_,bs,R,rfl,rfl,h,i,c,e.1,k b _ H .refl R (.int _)⟩
   ·cases a
  ·cases a
 ·cases a
section
variable {X:Cx}
theorem Oe {a5X:List (Addr×WY)}{σ:St}{H:Hp}{s:Vp}{π:Nat->Addr}{i:Hm}(I:Inv X a5X σ H s)(R:Rp X.K π H i){A:VU}(U:A.units+8<WX){x:V}{v:Value}{n:D}(rx:RelV x v)(ix:IsD X.K π i.length H x n) :
  ∀ {e:List D}{vs:List V}{us:List Value}{bs:List Bool},IsDs X.K π i.length H vs e->Vals vs us->kS i n e=some bs->
   ∃ g:Value->Bool,(∀ u∈us,Z4 A s u v (g u))/\us.map g=bs:=by
 classical
 intro e vs us bs l m d
 have p:∀ {e:List D}{vs:List V}{us:List Value}{bs:List Bool},IsDs X.K π i.length H vs e->Vals vs us->kS i n e=some bs->(∀ u∈us,∃ c,Z4 A s u v c/\∃ w o,RelV w u/\IsD X.K π i.length H w o/\cD 8 i o n=some c):=by
  intro e
  induction e with
  | nil=>
   intro vs us b l m d u a
   cases l
   cases m
   cases a
  | cons y e K=>
   intro vs us b l m d u a
   cases l with
   | cons h t=>
    cases m with
    | cons r rt=>
     obtain ⟨c,E,d⟩:=Vj.mp d
     obtain ⟨O,G,d⟩:=Vn.mp d
     rcases VP.mp a with rfl|a
     ·exact ⟨c,r9 I R 8 U r rx h ix E,_,_,r,h,E⟩
     ·exact K t rt G u a
 have q:=p l m d
 refine ⟨fun u=>if h:u∈us then Ym (q u h) else false,fun u a=>?_,?_⟩
 ·simp only [dif_pos a]
  exact (YR (q u a)).1
 ·have L:∀ u (h:u∈us) w o c,RelV w u->IsD X.K π i.length H w o->cD 8 i o n=some c->Ym (q u h)=c:=by
   intro u h w o c M iw N
   obtain ⟨_,w2,Q,r2,Z,T⟩:=YR (q u h)
   have:w2=w:=r2.inj M
   subst this
   have:=xC I R Z iw
   subst this
   rw [T] at N
   exact VX N
  have B:∀ {e:List D}{vs:List V}{j:List Value}{bs:List Bool},(∀ u∈j,u∈us)->IsDs X.K π i.length H vs e->Vals vs j->kS i n e=some bs->j.map (fun u=>if h:u∈us then Ym (q u h) else false)=bs:=by
   intro e
   induction e with
   | nil=>
    intro vs j b J l m d
    cases l
    cases m
    cases d
    rfl
   | cons y e K=>
    intro vs j b J l m d
    cases l with
    | cons h t=>
     cases m with
     | @cons _ u _ us2 r rt=>
      obtain ⟨c,E,d⟩:=Vj.mp d
      obtain ⟨O,G,d⟩:=Vn.mp d
      have eT:u∈us:=J u (VO ..)
      rw [VE,K (fun z Y=>J z (VI _ Y)) t rt G,dif_pos eT,L u eT _ _ c r h E]
      exact d
  exact B (fun _ h=>h) l m d
theorem Of (hu:X.A.units+20<WX):jJ X "list.index" (Dr X.K):=by
 intro J s σ H x vs v us Q I rx Z h
 obtain ⟨π,μ,a,xs,y,dy,bs,R,rfl,rfl,O,U,N,A,q⟩:=h
 cases rx
 obtain ⟨u,rfl,Y⟩:=Z.one
 obtain ⟨ws,L,hd⟩:=R.lst a xs O
 obtain ⟨z,b,n,r,hl,e⟩:=I.lstM L
 obtain ⟨g,K,G⟩:=Oe I R (A:=X.A.in1) (by rw [kI];omega) Y U hd r N
 have l:bs.length=b.length:=by rw [<- G,Vm]
 have B:bs.findIdx id<b.toArray.size:=by rw [VG,<- l];exact A
 have c:∀ m (w:m<b.length),bs[m]? = some (g b[m]):=fun m w=>by
  rw [<- G,V0,VH w];rfl
 have d:((bs.findIdx id:Nat):Int)<2 ^ 63 - 1:=by
  have o:bs.findIdx id<b.length:=by simpa using B
  have i:=lM
  have j:(bs.findIdx id:Nat)<VA:=by omega
  have p:((VA:Nat):Int)<=2 ^ 63 - 1:=by decide
  omega
 refine Zr F.slot_list_index ⟨_,e,rfl⟩ F.entry_list_index (F.args_list_index_2 _ _) (SeqAt.list_indexAt (π a) b.toArray n none #[] u g (bs.findIdx id) B d ?_ ?_) ⟨e,fun y T=>K y (by simpa using T),⟨.int (bs.findIdx id:Nat),H,I.tok _,⟨_,rfl⟩,q⟩⟩
 ·have o:bs.findIdx id<b.length:=by simpa using B
  have i:=List.findIdx_getElem (p:=id) (xs:=bs) (w:=A)
  have j:=c _ o
  rw [VH A] at j
  have p:=VX j
  rw [p] at i
  simpa using i
 ·intro m w E
  have o:m<b.length:=by simpa using w
  have i:=List.not_of_lt_findIdx (p:=id) (xs:=bs) E
  have j:=c _ o
  have M:m<bs.length:=by omega
  rw [VH M] at j
  have p:=VX j
  rw [p] at i
  simpa using i
end
section
variable {X:Cx}{e o:Expr}{mo:ME}{apos cpos:W4}{es:List Expr}{ms:MA}{n:Nat}
end
noncomputable def fP (is:List Int):List Int:=is.mergeSort fun a b=>decide (a<=b)
theorem Og {is ns:List Int}(i:ns.Perm is)(j:ns.Pairwise (·<=·)):ns=fP is:=by
 have d:(fP is).Perm is:=List.mergeSort_perm _ _
 have e:(fP is).Pairwise (·<=·):=by
  have:=List.pairwise_mergeSort (le:=fun a b:Int=>decide (a<=b)) (fun a b c d e=>by simp only [decide_eq_true_eq] at *;omega) (fun a b=>by simp only [Yb,decide_eq_true_eq];omega) is
  exact this.imp fun h=>by simpa using h
 exact a1q (le:=fun a b:Int=>a<=b) (fun a b _ _ d e=>by omega) j e (i.trans d.symm)
noncomputable def mH:MF:=fun ds a=>match ds with
 | [x]=>(d6 a x).bind fun c=>(kL c).bind fun b=>if b.length<64 then some (.loc a.length,a++[.lst ((fP b).map D.int)]) else none
 | _=>none
noncomputable def yE (K:Vk):List V->Hp->VK->Prop:=fun xs H Q=>∃ (p:Addr)(is:List Int),xs=[.ref p]/\SqL K H p (is.map V.int)/\is.length<64/\∀ l,H l=none->Q (.ref l) (aK H l (.lst ((fP is).map V.int)))
theorem Oh {K:Vk}:dR K mH (yE K):=by
 intro w H v s d n o Q R i a k
 unfold mH at a
 split at a
 ·obtain ⟨u,e,a⟩:=Vj.mp a
  obtain ⟨b,h,a⟩:=Vj.mp a
  split at a
  ·rename_i j
   cases a
   cases i with
   | cons i t=>
    cases t
    obtain ⟨p,r,rfl,q,hd⟩:=mB R i e
    rw [tF h] at hd
    have:=ints_of' hd
    subst this
    refine ⟨p,b,rfl,q,j,fun l m=>?_⟩
    obtain ⟨c,R2,_⟩:=R.alloc (c:=.lst ((fP b).map D.int)) (o:=.lst ((fP b).map V.int)) m (xZ _)
    exact k _ _ _ c R2 fL
  ·cases a
 ·cases a
theorem call_sortI {X:Cx}:CallR X (.builtin "sorted") (yE X.K):=by
 intro v s O H N M Q I r h
 obtain ⟨p,i,rfl,B,x,k⟩:=h
 obtain ⟨u,rfl,G⟩:=eD r
 cases G
 obtain ⟨j,n,E,K⟩:=I.list B
 have a:=n.length
 rw [Vm] at a
 refine a5q E.isList (wB n) (by omega) fun c l o m q=>?_
 obtain ⟨e,y⟩:=a0I s.heap j c
 have A:H (s.heap.objs.size+1)=none:=I.hok.fresh (Yy _)
 have w:l=fP i:=Og m q
 subst w
 refine ⟨.ref (s.heap.objs.size+1),_,I.laid (t':=s.toks) (a:=s.heap.objs.size+1) (o:=.lst ((fP i).map V.int)) (fun b L z=>a0D z) (Yy _) ?_,rfl,k _ A⟩
 have d:(fP i).length<=VA:=by
  have:=m.length_eq
  have J:=VS
  omega
 refine ⟨by rw [Vm];exact d,c.toList,e,wG o,?_⟩
 rw [y]
noncomputable def i8:MF:=fun ds a=>match mH ds a with
 | some r=>some r
 | none=>qD ds a
theorem Oi {K:Vk}:dR K i8 (fun xs H Q=>yE K xs H Q\/xR K xs H Q):=by
 intro h H e xs d a c Q R i b k
 unfold i8 at b
 split at b
 ·rename_i r j
  cases b
  exact .inl (Oh h H e xs d a c Q R i j k)
 ·exact .inr (NL h H e xs d a c Q R i b k)
end L3
namespace L3
open PySem L2
section
variable {prog:VQ}{w:V6}{A:VU}{E:Value->Vp->Prop}{s:Vp}{r:Addr}{Q:Bool->Vp->Prop}
end
section
variable {prog:VQ}{w:V6}{A:VU}{E:Value->Vp->Prop}{s:Vp}{p a:Addr}{its:Array Value}
end
end L3
namespace L3
open PySem L2
end L3
namespace L3
open PySem L2
noncomputable abbrev bV:=List (List Int×Addr×V)
noncomputable def bO (ps:bV)(ws:List Value):List (List Int×Addr×Value):=a0L (fun p w=>(p.1,p.2.1,w)) ps ws
theorem yF {P:VQ}{w:V6}:∀ (ps:bV)(ws:List Value),a0L wK ps ws=(bO ps ws).map (entryOfKey (Xw (XW P w)))
 | [],_=>by simp [bO]
 | p::ps,[]=>by simp [bO]
 | p::ps,u::ws=>by
  have a:=yF (P:=P) (w:=w) ps ws
  unfold bO at a ⊢
  rw [V9,V9,VE,a]
  rfl
theorem kT:∀ {ps:bV}{ws:List Value},Vals (ps.map (·.2.2)) ws->(bO ps ws).map (·.1)=ps.map (·.1)
 | [],_,_=>by simp [bO]
 | p::ps,_,.cons r t=>by
  have a:=kT (ps:=ps) t
  unfold bO at a ⊢
  rw [V9,VE,VE,a]
theorem Ds:∀ {ps:bV}{ws:List Value}{x:List Int×Addr×Value},x∈bO ps ws->∃ p∈ps,p.1=x.1/\p.2.1=x.2.1
 | [],_,x,h=>by simp [bO] at h
 | p::ps,[],x,h=>by simp [bO] at h
 | p::ps,u::ws,x,h=>by
  unfold bO at h
  rw [V9] at h
  rcases VP.mp h with e|h
  ·subst e;exact ⟨p,VO ..,rfl,rfl⟩
  ·obtain ⟨q,a,e⟩:=Ds (ps:=ps) (ws:=ws) h
   exact ⟨q,VI _ a,e⟩
noncomputable def eU (ps:bV)(k:List Int):Option V:=(ps.find? fun p=>decide (p.1=k)).map (·.2.2)
noncomputable def dO (ps:bV)(k:List Int)(b:Addr)(v:V):bV:=if (eU ps k).isSome then ps.map (fun p=>if p.1=k then (p.1,p.2.1,v) else p) else ps++[(k,b,v)]
theorem n9:∀ {ps:bV}{ws:List Value},Vals (ps.map (·.2.2)) ws->∀ k,RelO (eU ps k) ((a0j (bO ps ws) k).map (·.2))
 | [],_,.nil,k=>by simp [eU,bO,a0j];exact Yt
 | p::ps,_,.cons r t,k=>by
  have a:=n9 (ps:=ps) t k
  unfold eU a0j bO at a ⊢
  rw [V9,Wv,Wv]
  by_cases e:p.1=k
  ·simp only [e,decide_true]
   exact r
  ·simp only [e,decide_false]
   exact a
theorem tN (ps:bV)(k:List Int)(b:Addr)(v:V):(dO ps k b v).length<=ps.length+1:=by
 unfold dO;split<;>simp
theorem Dt {k:List Int}{v:V}{u:Value}(d:RelV v u):∀ {ps:bV}{ws:List Value},Vals (ps.map (·.2.2)) ws->
  ∃ a,Vals ((ps.map fun p=>if p.1=k then (p.1,p.2.1,v) else p).map (·.2.2)) a/\(bO ps ws).map (putAt k u)=bO (ps.map fun p=>if p.1=k then (p.1,p.2.1,v) else p) a
 | [],_,.nil=>⟨[],.nil,by simp [bO]⟩
 | p::ps,_,.cons (b:=w) r t=>by
  obtain ⟨a,c,b⟩:=Dt d (ps:=ps) t
  by_cases e:p.1=k
  ·refine ⟨u::a,?_,?_⟩
   ·rw [VE,VE,if_pos e]
    exact .cons d c
   ·unfold bO at b ⊢
    rw [V9,VE,b,VE,if_pos e,V9]
    unfold putAt
    rw [if_pos e]
  ·refine ⟨w::a,?_,?_⟩
   ·rw [VE,VE,if_neg e]
    exact .cons r c
   ·unfold bO at b ⊢
    rw [V9,VE,b,VE,if_neg e,V9]
    unfold putAt
    rw [if_neg e]
theorem Du {k:List Int}{b:Addr}{v:V}{u:Value}:∀ {ps:bV}{ws:List Value},Vals (ps.map (·.2.2)) ws->bO ps ws++[(k,b,u)]=bO (ps++[(k,b,v)]) (ws++[u])
 | [],_,.nil=>by simp [bO]
 | p::ps,_,.cons r t=>by
  have a:=Du (k:=k) (b:=b) (v:=v) (u:=u) (ps:=ps) t
  unfold bO at a ⊢
  rw [V9,VZ,a,VZ,VZ,V9]
theorem Dv {ps:bV}{ws:List Value}(r:Vals (ps.map (·.2.2)) ws)(k:List Int)(b:Addr){v:V}{u:Value}(c:RelV v u) :
  ∃ a,Vals ((dO ps k b v).map (·.2.2)) a/\storedH (bO ps ws) k b u=bO (dO ps k b v) a:=by
 have e:=(n9 r k).isSome_eq
 rw [ZE] at e
 unfold dO storedH
 rw [e]
 by_cases h:(a0j (bO ps ws) k).isSome=true
 ·rw [if_pos h,if_pos h]
  exact Dt c r
 ·rw [if_neg h,if_neg h]
  refine ⟨ws++[u],?_,Du r⟩
  rw [Wq]
  exact a4A r c
section
variable {X:Cx}{a5X:List (Addr×WY)}{σ:St}{H:Hp}{s:Vp}{a:Addr}{ps:bV}
noncomputable def dH (K:Vk)(H:Hp)(ps:bV):Prop:=∀ p∈ps,SqT K H p.2.1 (p.1.map V.int)
theorem i9 (I:Inv X a5X σ H s)(e:Rd H a (aY a ps))(u:dH X.K H ps):(a == WL)=false/\ps.length<=VA /\
  ∃ b,Vals (ps.map (·.2.2)) b/\s.heap.DictOfH (Xw (XW X.prog X.w)) a (bO ps b):=by
 obtain ⟨⟨b,r,y,v,o,i,h,j,l,m,n,q⟩,_⟩:=(show ObjOk X.prog X.w H s.heap a (aY a ps) from e.ok I.hok)
 refine ⟨y,v,b,r,o,i,h,j,l,m,by rw [n];exact yF ps b,fun x z=>?_,by rw [kT r];exact q⟩
 obtain ⟨p,w,c,d⟩:=Ds z
 rw [<- c,<- d]
 exact mD I (u p w)
theorem tP {P:VQ}{w:V6}{H':Hp}{h':Wj}{ws:List Value}(n:(a == WL)=false)(m:ps.length<=VA)(r:Vals (ps.map (·.2.2)) ws)(d:h'.DictOfH (Xw (XW P w)) a (bO ps ws)):ObjOk P w H' h' a (aY a ps):=by
 obtain ⟨o,e,c,b,h,i,j,_,l⟩:=d
 refine ⟨⟨ws,r,n,m,o,e,c,b,h,i,by rw [j,yF (P:=P) (w:=w)],by rw [<- kT r];exact l⟩,⟨o,b⟩,?_⟩
 rintro q u ⟨ws,r,n,m,o,e,c,b,h,i,j,l⟩ p
 exact ⟨ws,r,n,m,o,e,c,p o b,h,i,j,l⟩
theorem Oj (I:Inv X a5X σ H s)(e:Rd H a (aY a ps))(b:dH X.K H ps):s.TypeIs (.ref a) "dict":=by
 obtain ⟨_,_,c,_,d⟩:=i9 I e b
 exact d.typeIs
theorem oA {A:VU}(b:A.units+1<WX):(Xw (XW X.prog X.w)).room A.in1:=by
 show A.in1.units<WX
 rw [kI];omega
variable {A:VU}{E:Value->Vp->Prop}{b:Addr}{k:List Int}{v:V}
theorem Ol {Q:Value->Vp->Prop}(q:A.units+1<WX)(I:Inv X a5X σ H s)(e:Rd H a (aY a ps))(n:dH X.K H ps)(m:SqT X.K H b (k.map V.int))(u:eU ps k=some v)
  (h:∀ c l,Inv X a5X σ H l->RelV v c->Q c l):VD (VM X.prog X.w) A (a2p (.ref a) (.ref b)) Q E s:=by
 obtain ⟨y,x,w,r,d⟩:=i9 I e n
 obtain ⟨c,hw,j⟩:=RelO.some_of (v:=v) (o:=(a0j (bO ps w) k).map (·.2)) (by rw [<- u];exact n9 r k)
 obtain ⟨p,o,i⟩:=Vn.mp hw
 refine wpAny_getItem_heap (oA q) (mD I m) d o ?_
 rw [i]
 exact h c _ (I.tok _) j
theorem Om {Q:Value->Vp->Prop}(m:A.units+1<WX)(I:Inv X a5X σ H s)(e:Rd H a (aY a ps))(j:dH X.K H ps)(i:SqT X.K H b (k.map V.int))
  (h:∀ c,Inv X a5X σ H c->Q (.bool (eU ps k).isSome) c):VD (VM X.prog X.w) A (Wt .In (.ref b) (.ref a)) Q E s:=by
 obtain ⟨l,n,o,r,d⟩:=i9 I e j
 refine wpAny_in_heap (oA m) (mD I i) l d ?_
 have q:=(n9 r k).isSome_eq
 rw [ZE] at q
 rw [<- q]
 exact h _ (I.tok _)
theorem Oo {Q:Value->Vp->Prop}(m:A.units+1<WX)(I:Inv X a5X σ H s)(e:Rd H a (aY a ps))(j:dH X.K H ps)(i:SqT X.K H b (k.map V.int))
  (h:∀ c,Inv X a5X σ H c->Q (.bool (!(eU ps k).isSome)) c):VD (VM X.prog X.w) A (Wt .NotIn (.ref b) (.ref a)) Q E s:=by
 obtain ⟨l,n,o,r,d⟩:=i9 I e j
 refine a5p (oA m) (mD I i) l d ?_
 have q:=(n9 r k).isSome_eq
 rw [ZE] at q
 rw [<- q]
 exact h _ (I.tok _)
theorem Oq {Q:Unit->Vp->Prop}{u:Value}(y:A.units+1<WX)(I:Inv X a5X σ H s)(e:H a=some (aY a ps))(p:dH X.K H ps)(n:SqT X.K H b (k.map V.int))(hz:ps.length<VA)(G:RelV v u)
  (h:∀ j,Inv X a5X σ (aK H a (aY a (dO ps k b v))) j->Q () j):VD (VM X.prog X.w) A (setItem (.ref a) (.ref b) u) Q E s:=by
 obtain ⟨x,L,J,r,d⟩:=i9 I (.of e) p
 have z:(bO ps J).length<=VA:=by
  have:=congrArg Wm (kT r)
  rw [Vm,Vm] at this
  omega
 refine wpAny_setItem_heap (hsz:=z) (oA y) (mD I n) d fun m c i=>h _ ?_
 obtain ⟨K,B,l⟩:=Dv r k b G
 rw [l] at c
 have o:∃ q,m.get? a=some q:=let ⟨q,_,_,w,_⟩:=c;⟨q,w⟩
 exact wA I (by rw [e];exact Yt) i o (tP x (by have:=tN ps k b v;omega) B c)
end
noncomputable def IsTs (K:Vk)(π:Nat->Addr)(n:Nat)(H:Hp):bV->List (List Int×D)->Prop:=Zc fun p q=>p.1=q.1/\SqT K H p.2.1 (p.1.map V.int)/\IsD K π n H p.2.2 q.2
section
variable {K:Vk}{π:Nat->Addr}{n:Nat}{H:Hp}{μ:Hm}
theorem Ot {b:Addr}{k:List Int}(h:IsD K π n H (.ref b) (.tup (k.map D.int))):SqT K H b (k.map V.int):=by
 cases h with
 | tup q t=>rw [ints_of' t] at q;exact q
theorem IsTs.of:∀ {ps:bV}{kvs:List (List Int×D)},ps.map (·.1)=kvs.map (·.1)->IsDs K π n H (ps.map fun p=>V.ref p.2.1) (kvs.map fun k=>D.tup (k.1.map D.int))->IsDs K π n H (ps.map (·.2.2)) (kvs.map (·.2))->IsTs K π n H ps kvs
 | [],[],_,_,_=>.nil
 | [],_::_,h,_,_=>by cases h
 | _::_,[],h,_,_=>by cases h
 | p::ps,q::kvs,h,h2,h3=>by
  cases h2 with
  | cons a b=>
   cases h3 with
   | cons c d=>
    rw [VE,VE,a0J] at h
    refine .cons ⟨h.1,?_,c⟩ (IsTs.of h.2 b d)
    rw [h.1]
    exact Ot a
theorem IsTs.keys:∀ {ps:bV}{kvs:List (List Int×D)},IsTs K π n H ps kvs->dH K H ps
 | _,_,.nil=>fun p a=>nomatch a
 | _,_,.cons h t=>fun p a=>by
  rcases VP.mp a with e|a
  ·subst e;exact h.2.1
  ·exact IsTs.keys t p a
theorem IsTs.to:∀ {ps:bV}{kvs:List (List Int×D)},IsTs K π n H ps kvs->ps.map (·.1)=kvs.map (·.1)/\IsDs K π n H (ps.map fun p=>V.ref p.2.1) (kvs.map fun k=>D.tup (k.1.map D.int))/\IsDs K π n H (ps.map (·.2.2)) (kvs.map (·.2))
 | _,_,.nil=>⟨rfl,.nil,.nil⟩
 | _,_,.cons (a:=p) (b:=q) h t=>by
  obtain ⟨a,b,c⟩:=IsTs.to t
  refine ⟨by rw [VE,VE,h.1,a],.cons ?_ b,.cons h.2.2 c⟩
  show IsD K π n H (.ref p.2.1) (.tup (q.1.map D.int))
  rw [<- h.1]
  exact .tup h.2.1 (xZ p.1)
theorem IsTs.val (k:List Int):∀ {ps:bV}{kvs:List (List Int×D)},IsTs K π n H ps kvs->(eU ps k=none/\bN kvs k=none)\/∃ v d,eU ps k=some v/\bN kvs k=some d/\IsD K π n H v d
 | _,_,.nil=>.inl ⟨rfl,rfl⟩
 | _,_,.cons (a:=p) (b:=q) h t=>by
  have a:=IsTs.val k t
  unfold eU bN at a ⊢
  rw [Wv,Wv,<- h.1]
  by_cases e:p.1=k
  ·simp only [e,decide_true]
   exact .inr ⟨_,_,rfl,rfl,h.2.2⟩
  ·simp only [e,decide_false]
   exact a
theorem IsTs.put {ps:bV}{kvs:List (List Int×D)}(h:IsTs K π n H ps kvs)(k:List Int){b:Addr}{v:V}{d:D}(l:SqT K H b (k.map V.int))(j:IsD K π n H v d):IsTs K π n H (dO ps k b v) (dA kvs k d):=by
 have e:(eU ps k).isSome=(bN kvs k).isSome:=by
  rcases h.val k with ⟨c,i⟩|⟨v,d,c,i,_⟩<;>rw [c,i]<;>rfl
 have a:∀ {ps:bV}{kvs:List (List Int×D)},IsTs K π n H ps kvs->IsTs K π n H (ps.map fun p=>if p.1=k then (p.1,p.2.1,v) else p) (kvs.map fun p=>if p.1=k then (p.1,d) else p):=by
  intro ps kvs h
  unfold IsTs at h
  induction h with
  | nil=>exact .nil
  | @cons p q ps o h t m=>
   rw [VE,VE]
   refine .cons ?_ m
   by_cases z:p.1=k
   ·rw [if_pos z,if_pos (h.1.symm.trans z)]
    exact ⟨h.1,h.2.1,j⟩
   ·rw [if_neg z,if_neg fun y=>z (h.1.trans y)]
    exact h
 unfold dO dA
 rw [e]
 split
 ·exact a h
 ·exact a4A h ⟨rfl,l,j⟩
theorem gE {a:Nat}{kvs:List (List Int×D)}(R:Rp K π H μ)(h:μ[a]? = some (.dT kvs)):∃ ps,H (π a)=some (aY (π a) ps)/\IsTs K π μ.length H ps kvs:=by
 obtain ⟨ps,b,c,d,e⟩:=R.dT a kvs h
 exact ⟨ps,b,.of c d e⟩
theorem qI {v:V}{x:D}{k:List Int}(h:IsD K π n H v x)(e:eH x=some k):∃ b,v=.ref b/\SqT K H b (k.map V.int):=by
 have:=C0 e
 subst this
 cases h with
 | tup q t=>rw [ints_of' t] at q;exact ⟨_,rfl,q⟩
end
noncomputable def qJ:ME:=fun _ a=>some (.loc a.length,a++[.dT []])
section
variable {X:Cx}{pos:W4}
theorem tQ {P:VQ}{w:V6}{H:Hp}(h:Wj)(a:WL<h.objs.size):ObjOk P w H (h.push { cls:=.type "dict",data:=.dict #[] }) h.objs.size (aY h.objs.size []):=
 tP (ws:=[]) (beq_eq_false_iff_ne.mpr (WB (VB a))) (Wn _) .nil (a5E h)
noncomputable def Ou:TE:=fun _ H Q=>∀ p,H p=none->Q (.ref p) (aK H p (aY p []))
theorem Ov:PE X (.Dict [] [] pos) Ou:=fun a5X s σ H Q I h=>
 wpAny_Dict_empty ⟨.ref s.heap.objs.size,_,I.laid (a:=s.heap.objs.size) (o:=aY s.heap.objs.size []) (t':=s.toks) (fun _ _ q=>Vo _ q) (Vv _) (tQ s.heap I.big),rfl,h _ (I.hok.fresh (Vv _))⟩
theorem Ox:QE X (.Dict [] [] pos) qJ:=⟨cW Ov (by
 rintro n H Q ⟨l,m,j,d,h,R,E,c,k⟩ p e
 cases c
 obtain ⟨b,a,i⟩:=R.alloc (c:=.dT []) (o:=aY p []) e ⟨[],rfl,rfl,.nil,.nil⟩
 exact k _ _ _ b a fL)⟩
end
noncomputable def tR:D->D->Hm->Option (D×Hm)
 | .loc a,y,μ=>match μ[a]? with
  | some (.dT kvs)=>(eH y).bind fun k=>(bN kvs k).map fun d=>(d,μ)
  | _=>none
 | _,_,_=>none
section
variable {X:Cx}{a b e:Expr}{ma mb me:ME}{pos tpos:W4}{td ty tv:TE}
noncomputable def Dw (K:Vk):R2:=fun x y H Q=>∃ a b ps k v,x=.ref a/\y=.ref b/\Rd H a (aY a ps)/\dH K H ps/\SqT K H b (k.map V.int)/\eU ps k=some v/\Q v H
theorem Oy (B:X.A.units+1<WX)(z:PE X a td)(w:PE X b ty)(A:Be b):PE X (.Subscript a b pos) (fun σ H Q=>td σ H fun x d=>ty σ d fun y i=>Dw X.K x y i Q):=by
 intro c s σ H Q I h
 refine Jf PySem.F.slot_dict_getitem.lookup A (aP (z c s σ H _ I h) fun u N ⟨x,d,n,L,J⟩=>aP (w c N σ d _ n J) fun G R ⟨y,i,l,M,a,b,O,k,v,p,q,e,m,r,E,K⟩=>?_)
 subst p q
 obtain rfl:u=Vz a:=L
 obtain rfl:G=Vz b:=M
 exact ⟨Oj l e m,Ol B l e m r E fun U T o j=>⟨v,i,o,j,K⟩⟩
theorem Oz {K:Vk}:cS K tR (Dw K):=by
 intro A H J x y d w G I Q R n o c k
 unfold tR at c
 split at c
 ·split at c
  ·rename_i p hc
   obtain ⟨i,l,c⟩:=Vj.mp c
   obtain ⟨B,h,c⟩:=Vn.mp c
   cases c
   cases n
   obtain ⟨q,j,T⟩:=gE R hc
   obtain ⟨b,rfl,m⟩:=qI o l
   rcases T.val i with ⟨_,z⟩|⟨v,E,r,s,u⟩
   ·rw [z] at h;cases h
   ·rw [s] at h
    cases h
    exact ⟨_,b,q,i,v,rfl,rfl,.of j,T.keys,m,r,k A _ H .refl R u⟩
  ·cases c
 ·cases c
theorem OA {k:Nat}(i:Room k X.A)(c:QE X a ma)(d:QE X b mb)(h:nH b=true):QE X (.Subscript a b pos) (aB tR ma mb):=⟨cW (Oy (eT i) c.h d.h (Cg h)) (pS Oz)⟩
end
theorem OB (kvs:List (List Int×D))(k:List Int)(d:D):(dA kvs k d).length<=kvs.length+1:=by
 unfold dA;split<;>simp
section
variable {X:Cx}{o i e:Expr}{mo mi me:ME}{pos tpos:W4}{td ty tv:TE}
noncomputable def OC (K:Vk)(td ty tv:TE):TS:=fun D σ H=>tv σ H fun v d=>td σ d fun x h=>ty σ h fun y c=>∃ a b ps k,x=.ref a/\y=.ref b/\c a=some (aY a ps)/\dH K c ps/\SqT K c b (k.map V.int)/\ps.length<VA/\D.nx σ (aK c a (aY a (dO ps k b v)))
theorem OD (K:X.A.units+1<WX)(G:PE X o td)(B:PE X i ty)(L:PE X e tv)(J:ZQ e (some (.Subscript o i tpos)) pos.line X.env=pure false) :
  PS X (.Assign [.Subscript o i tpos] e pos) (OC X.K td ty tv):=by
 intro c s d H D I h
 refine wpAny_Assign_Subscript (aP (L c s d H _ I h) fun r Z ⟨v,j,m,T,O⟩=>aP (G c Z d j _ m O) fun u s2 ⟨x,l,n,U,Q⟩=>aP (B c s2 d l _ n Q) fun N s3 ⟨y,H3,p,Y,a,b,ps,k,w,z,e,E,A,M,R⟩=>?_) J
 subst w z
 obtain rfl:u=Vz a:=U
 obtain rfl:N=Vz b:=Y
 exact Oq K p e E A M T fun s4 q=>⟨d,_,q,R⟩
theorem OE {j:Nat}(hr:Room j X.A)(ho:QE X o mo)(hi:QE X i mi)(he:QE X e me)(h:eP e=true):QS X (.Assign [.Subscript o i tpos] e pos) (yD qG mo mi me):=
 ⟨iU (OD (JM hr) ho.h hi.h he.h (nI h)) (by
 rintro E σ H ⟨π,K,μ,fl,ρ',μ',R,n,d,k⟩
 obtain ⟨⟨x,l⟩,h1,d⟩:=Vj.mp d
 obtain ⟨⟨y,m⟩,h2,d⟩:=Vj.mp d
 obtain ⟨⟨z,B⟩,h3,d⟩:=Vj.mp d
 obtain ⟨μ4,c,d⟩:=Vn.mp d
 cases d
 refine ⟨π,K,μ,x,l,R,n,h1,fun G v1 H1 p Q i1=>⟨G,K,l,y,m,Q,n.mono p,h2,fun I v2 H2 q R2 i2=>⟨I,K,m,z,B,R2,(n.mono p).mono q,h3,fun J v3 H3 r L i3=>?_⟩⟩⟩
 cases y with
 | loc a=>
  simp only [qG] at c
  split at c
  ·rename_i w hc
   obtain ⟨j,h5,c⟩:=Vj.mp c
   split at c
   ·rename_i hz
    cases c
    have v:=i2.mono r
    cases v with
    | loc s=>
     obtain ⟨A,N,T⟩:=gE L hc
     obtain ⟨b,rfl,O⟩:=qI i3 h5
     have hv:=(i1.mono q).mono r
     have Y:=T.put j O hv
     obtain ⟨Z,g2,g3⟩:=Y.to
     have u:A.length<VA:=by
      have:=congrArg Wm (T.to).1
      rw [Vm,Vm] at this
      omega
     refine ⟨_,b,A,j,rfl,rfl,N,T.keys,O,u,?_⟩
     obtain ⟨M,U⟩:=L.put (c:=.dT (dA w j x)) (o:=aY _ (dO A j b v1)) s N (.inr (.inr ⟨_,rfl⟩)) ⟨_,rfl,Z,g2,g3⟩
     exact k J σ _ (((p.trans q).trans r).trans M) U ((((n.mono p).mono q).mono r).mono M)
   ·cases c
  ·cases c
 | _=>simp [qG] at c)⟩
end
noncomputable def qK (b:Bool):D->D->Hm->Option (D×Hm)
 | x,.loc a,μ=>match μ[a]? with
  | some (.dT kvs)=>(eH x).map fun k=>(.bl (if b then !(bN kvs k).isSome else (bN kvs k).isSome),μ)
  | _=>none
 | _,_,_=>none
noncomputable def yG (K:Vk)(c:Bool):R2:=fun x y H Q=>∃ a b ps k,x=.ref b/\y=.ref a/\Rd H a (aY a ps)/\dH K H ps/\SqT K H b (k.map V.int)/\Q (.bl (if c then !(eU ps k).isSome else (eU ps k).isSome)) H
theorem Dx {X:Cx}(l:X.A.units+1<WX):OpR X (Wt .In) (yG X.K false):=by
 intro d s r H x y v u Q I m n h
 obtain ⟨a,b,o,k,rfl,rfl,e,j,i,q⟩:=h
 obtain rfl:v=Vz b:=m
 obtain rfl:u=Vz a:=n
 exact Om l I e j i fun p c=>⟨.bl _,H,c,rfl,q⟩
theorem Dy {X:Cx}(l:X.A.units+1<WX):OpR X (Wt .NotIn) (yG X.K true):=by
 intro d s r H x y v u Q I m n h
 obtain ⟨a,b,o,k,rfl,rfl,e,j,i,q⟩:=h
 obtain rfl:v=Vz b:=m
 obtain rfl:u=Vz a:=n
 exact Oo l I e j i fun p c=>⟨.bl _,H,c,rfl,q⟩
theorem tS {K:Vk}{c:Bool}:cS K (qK c) (yG K c):=by
 intro s H z x y d r u w Q R p q a k
 unfold qK at a
 split at a
 ·split at a
  ·rename_i j hc
   obtain ⟨i,h,a⟩:=Vn.mp a
   cases a
   cases q
   obtain ⟨m,n,T⟩:=gE R hc
   obtain ⟨b,rfl,o⟩:=qI p h
   have e:(eU m i).isSome=(bN j i).isSome:=by
    rcases T.val i with ⟨h,l⟩|⟨v,d,h,l,_⟩<;>rw [h,l]<;>rfl
   refine ⟨_,b,m,i,rfl,rfl,.of n,T.keys,o,?_⟩
   rw [e]
   exact k s _ H .refl R (.bl _)
  ·cases a
 ·cases a
section
variable {X:Cx}{a b:Expr}{ma mb:ME}{pos:W4}
end
end L3
namespace L3
open PySem L2
noncomputable def RawD (h:Wj)(d:Addr)(es:Array WD)(ep:Nat):Prop:=∃ z,h.get? d=some z/\z.ExactDict/\z.data=.dict es ep
theorem RawD.ty {s:Vp}{d:Addr} {es ep} (g:RawD s.heap d es ep):s.TypeIs (.ref d) "dict":=let ⟨z,a,b,_⟩:=g;⟨z,a,b.1⟩
theorem RawD.stay {h h':Wj}{d:Addr} {es ep} (g:RawD h d es ep)(k:∀ o,h.get? d=some o->h'.get? d=some o):RawD h' d es ep:=let ⟨z,a,b⟩:=g;⟨z,k z a,b⟩
theorem RawD.lt {h:Wj}{d:Addr} {es ep} (g:RawD h d es ep):d<h.objs.size:=let ⟨_,a,_⟩:=g;Vu a
section
variable {P:VQ}{w:V6}{A:VU}{E:Value->Vp->Prop}{s:Vp}{d it:Addr}{i ep:Nat}{es:Array WD}
theorem OF {Q:Value->Vp->Prop}(lo:(d == WL)=false)(g:RawD s.heap d es ep)
  (q:Q (.ref s.heap.objs.size) { s with heap:=s.heap.push { cls:=.type "dict_keyiterator",data:=.fields #[.ref d,.int 0 0,.int es.size 0,.int ep 0] } }):VD (VM P w) A (a2z (.ref d)) Q E s:=by
 obtain ⟨z,a,c,b⟩:=id g
 refine a4E g.ty F.slot_dict_iter (W0 F.slot_dict_iter g.ty F.entry_dict_iter ?_ (F.args_dict_iter_1 _))
 unfold Builtin.«dict.__iter__» a5J
 refine Vl (Vl (W9 g.ty ?_))
 show VD _ _ (pure (Vz d)) _ _ _
 refine Vr ?_
 show VD _ _ (Xs d >>= _) _ _ _
 unfold Xs
 rw [if_neg (fun x=>V7 (lo.symm.trans x))]
 refine Vl (Vr (Vl (WE a b (Vl (YW a b (Vl (W7 (Vr ?_))))))))
 exact ⟨_,rfl,"dict_keyiterator",_,⟨_,VC _ rfl,rfl⟩,F.slot_dict_keyiterator_next.lookup,by simpa [XR] using q⟩
theorem Dz {Q:Option Value->Vp->Prop}(p:A.handled=none)(j:s.heap.IsKeyIter it d i es.size ep)(g:RawD s.heap d es ep)
  (v:∀ e a,es[i]? = some e->a.IsKeyIter it d (i+1) es.size ep->YA it s.heap a->Q (some e.key) { s with heap:=a })
  (B:es[i]? = none->∀ a,a1r it s.heap a->Q none { s with heap:=a }):VD (VM P w) A (ZA (.ref it)) Q E s:=by
 obtain ⟨y,c,r,b⟩:=id j
 obtain ⟨z,m,G,n⟩:=id g
 have l:∀ {Q:String->Vp->Prop}{A:VU}{E:Value->Vp->Prop},Q "dict_keyiterator" s->VD (VM P w) A (a5k (.ref it)) Q E s:=fun q=>wpAny_typeNameOfWhole_keyiter j.typeIs q
 unfold ZA
 refine Vl (wpAny_attempt (a3c (name:=Xy "__next__") j.typeIs F.slot_dict_keyiterator_next (W0 F.slot_dict_keyiterator_next j.typeIs F.entry_dict_keyiterator_next ?_ (F.args_dict_keyiterator_next_1 _))))
 refine Vl (Vr (Vl (Vl (Vl (l (Vr (Vl (a5M c b ?_))))))))
 simp only [show YJ "dict_keyiterator" = false by decide,Vy,if_false]
 show VD _ _ (if (Vz d == Wb)=true then _ else _) _ _ _
 rw [if_neg (show ¬ (Vz d == Wb)=true from fun x=>V7 x)]
 refine Vl (Vr (Vl (WE m n ?_)))
 rw [if_neg (fun x=>by simp at x)]
 refine Vl (Vr (Vl (YW m n ?_)))
 rw [if_neg (fun x=>by simp at x)]
 refine Vr ?_
 simp only [if_neg (show ¬ ((i:Int)<0) by omega),ZT]
 cases o:es[i]? with
 | some e=>
  refine Vl (Vl (l (Vr (Vl (a3K j.typeIs ?_)))))
  show VD _ _ (a2y (.ref it) 1 (XR ((i:Int)+1)) >>= _) _ _ _
  refine Vl (YH c b (by simp) ?_)
  have h:(s.heap.update it (Zg (·.setIfInBounds 1 (XR ((i:Int)+1))))).IsKeyIter it d (i+1) es.size ep:=
   ⟨_,WA _ c (Yk (X7 b _)),(a0Y ..).trans r,by simp [X7 b,XR]⟩
  generalize hu:s.heap.update it (Zg (·.setIfInBounds 1 (XR ((i:Int)+1))))=u at h
  refine Vl (Wi (Vl (a3K (s:={ s with heap:=u }) h.typeIs ?_)))
  show VD _ _ (pure e.key) _ _ _
  exact Vr (Vr ⟨_,rfl,Vr (v e u o h (hu ▸ Ye ..))⟩)
 | none=>
  refine Vl (Vl (l (Vr ?_)))
  show VD _ _ (a2y (.ref it) 0 .none >>= _) _ _ _
  refine Vl (YH c b (by simp) ?_)
  show VD _ _ (a5R (.type "StopIteration") [] >>= _) _ _ _
  simp only [a5R,newTuple]
  refine Vl (Vl (W7 ?_ (by size_fits)))
  refine Vl (m:=a0G _ _) (wpAny_of_eq (a:=Wb) (by first|rfl|(simp only [a0G];rfl)) (W7 ?_ (by size_fits)))
  simp only [raiseNew]
  refine Vl (wpAny_handled ?_)
  rw [show A.in1.handled=none from p]
  refine Vl (Vr (wpAny_throw ?thrown))
  case thrown=>exact Vl (Zp (T:="StopIteration") (b:=true) ⟨_,VC _ rfl,rfl⟩ a5T (Vr (B o _ (((Ye ..).extBut.push _).push _))))
theorem OG (n:A.handled=none)(m:d≠it)(es:Array WD)(ep:Nat):Walks P w A it [it,d] [it] es.size (fun i v=>∃ e,es[i]? = some e/\v=e.key) (fun i h=>h.IsKeyIter it d i es.size ep/\RawD h d es ep) where
 sub:=fun b a=>by rw [WR.mp a];exact VO ..
 frame:=fun _ _ _ st k=>⟨st.1.at fun o e=>k it (by simp) o e,st.2.stay fun o e=>k d (by simp) o e⟩
 item:=fun i s Q E u st q=>Dz n st.1 st.2 (fun e l c r p=>q _ l s.toks ⟨e,c,rfl⟩ ⟨r,st.2.stay fun o j=>p.extBut d o m j⟩ fun b o a j=>p.extBut b o (fun z=>a (by simp [z])) j) (fun c=>by simp at c;omega)
 done:=fun s Q E st q=>Dz n st.1 st.2 (fun e l c=>by simp at c) (fun _ l x=>q l s.toks fun b o a j=>x b o (fun z=>a (by simp [z])) j)
 self:=fun _ _ _ _ st q=>wpAny_pyIter_keyiter st.1 q
theorem DA (lo:(d == WL)=false):PySem.W.KdlSrc P w "dict" d d es.size (fun i v=>∃ e,es[i]? = some e/\v=e.key) (fun h=>RawD h d es ep) where
 type:=fun _ g=>g.ty
 there:=fun _ g=>⟨g.lt,g.lt⟩
 keep:=fun _ _ g k=>g.stay fun o e=>k d (.inl rfl) o e
 notList:=by decide
 notTuple:=by decide
 hint:=fun _ _ _ _ g q=>PySem.W.kdl_hint_dict g.ty q
 iter:=fun _ _ a g=>⟨_,_,(fun _ _ q=>OF lo g q),OG a (VB g.lt) es ep,⟨⟨_,VC _ rfl,rfl,rfl⟩,g.stay fun o e=>Vo _ e⟩⟩
theorem OH (lo:(d == WL)=false):MeetsIn P w (Builtin.«dict.__len__» ⟨[.ref d],[]⟩) (fun _ R s=>∃ es ep,RawD s.heap d es ep/\R (.ok (.ret (.int (es.size:Nat) s.toks))) { s with toks:=s.toks+1 }):=
 .of_wp fun A R s ⟨es,ep,⟨z,a,c,b⟩,q⟩=>by
  show VD _ _ (dictSize d >>= _) _ _ _
  unfold dictSize
  refine Vl (Vl (WE a b (Vr ?_)))
  show VD _ _ (a5G d >>= _) _ _ _
  refine Vl (wpAny_pendingCount_other lo (wpAny_ret_mkInt ?_))
  rw [a5a];exact q
theorem OI {Q:Value->Vp->Prop}(lo:(d == WL)=false)(g:RawD s.heap d es ep)(hz:es.size<=VA)(q:Q (.int (es.size:Nat) (s.toks+1)) { s with toks:=s.toks+1+1 }):VD (VM P w) A (call (.builtin "len") [.ref d]) Q E s:=
 a5x g.ty F.slot_dict_len (fun b a=>a3v F.slot_dict_len g.ty F.entry_dict_len (F.args_dict_len_1 _) (OH lo) ⟨es,ep,g,a⟩) (by omega) (by rw [VS] at hz;omega) q
end
theorem DB:∀ {ps:bV}{ws:List Value},Vals (ps.map (·.2.2)) ws->(bO ps ws).map (fun x=>Vz x.2.1)=ps.map fun p=>Vz p.2.1
 | [],_,_=>by simp [bO]
 | p::ps,_,.cons r t=>by
  have a:=DB (ps:=ps) t
  unfold bO at a ⊢
  rw [V9,VE,VE,a]
theorem DC:∀ ps:bV,Vals (ps.map fun p=>V.ref p.2.1) (ps.map fun p=>Vz p.2.1)
 | []=>.nil
 | p::ps=>.cons rfl (DC ps)
section
variable {X:Cx}{a5X:List (Addr×WY)}{σ:St}{H:Hp}{s:Vp}{a:Addr}{ps:bV}
theorem mI (I:Inv X a5X σ H s)(e:H a=some (aY a ps))(i:dH X.K H ps):(a == WL)=false/\ps.length<=VA/\∃ es ep,RawD s.heap a es ep/\es.toList.map (·.key)=ps.map fun p=>Vz p.2.1:=by
 obtain ⟨l,j,m,r,z,es,ep,b,c,d,h,_⟩:=i9 I (.of e) i
 refine ⟨l,j,es,ep,⟨z,b,c,d⟩,?_⟩
 rw [h,VN,<- DB r]
 rfl
noncomputable def DD (K:Vk):List V->Hp->VK->Prop:=fun xs H Q=>∃ a ps,xs=[V.ref a]/\H a=some (aY a ps)/\dH K H ps/\Q (.int ps.length) H
theorem OJ:CallR X (.builtin "len") (DD X.K):=by
 intro a5X s σ H p o Q I r h
 obtain ⟨a,ps,rfl,c,e,q⟩:=h
 obtain ⟨u,rfl,l⟩:=eD r
 cases l
 obtain ⟨j,n,b,m,g,d⟩:=mI I c e
 have i:b.size=ps.length:=by
  have:=congrArg Wm d
  simpa using this
 refine OI j g (by omega) ?_
 rw [i]
 exact ⟨.int ps.length,H,(I.tok _).tok _,⟨_,rfl⟩,q⟩
noncomputable def DE (K:Vk):List V->Hp->VK->Prop:=fun xs H Q=>∃ a ps,xs=[V.ref a]/\H a=some (aY a ps)/\dH K H ps/\∀ l,H l=none->Q (.ref l) (aK H l (.lst (ps.map fun p=>V.ref p.2.1)))
theorem OK (hc:X.calm=true):CallR X (.type "list") (DE X.K):=by
 intro a5X s σ H O N Q I r h
 obtain ⟨a,ps,rfl,y,z,q⟩:=h
 obtain ⟨u,rfl,G⟩:=eD r
 cases G
 obtain ⟨E,A,n,K,g,d⟩:=mI I y z
 have M:n.size=ps.length:=by
  have:=congrArg Wm d
  simpa using this
 refine PySem.W.kdl_call (DA E) (I.ok.hd hc) g (by omega) fun L J b l B x c=>?_
 refine ⟨.ref s.heap.objs.size,_,I.laid (t':=J) (a:=s.heap.objs.size) (o:=.lst (ps.map fun p=>V.ref p.2.1)) B (Vv _) ?_,rfl,q _ (I.hok.fresh (Vv _))⟩
 refine ⟨by rw [Vm];exact A,b.toList,l,?_,by simpa using x⟩
 have m:b.toList=ps.map fun p=>Vz p.2.1:=by
  rw [<- d]
  refine a3H fun i=>?_
  rw [V0,XC,XC]
  cases j:b[i]? with
  | some v=>
   obtain ⟨e,o,w⟩:=c.2 i v j
   rw [o,w];rfl
  | none=>
   have:b.size<=i:=by simpa using j
   rw [YU (by rw [<- c.1];exact this)];rfl
 rw [m]
 exact DC ps
end
section
variable {X:Cx}{a b o i e:Expr}{ma mb mo mi me:ME}{pos tpos:W4}{k:Nat}
theorem OL (l:Room k X.A)(d:QE X a ma)(j:QE X b mb)(h:nH b=true):QE X (.Subscript a b pos) (aB aJ ma mb):=
 lY (OA l d j h) (LO d j h) (gD fun x y n r c=>by
  unfold aJ at c
  split at c
  ·split at c
   ·rename_i m hc
    refine .inl ?_
    simp only [tR,hc]
    exact c
   ·exact .inr c
  ·exact .inr c)
noncomputable def oB (c:Bool):D->D->Hm->Option (D×Hm):=fun x y d=>match qK c x y d with
 | some r=>some r
 | none=>lZ c x y d
theorem tT {c:Bool}(x y:D)(d:Hm)(r:D×Hm)(h:oB c x y d=some r):qK c x y d=some r\/lZ c x y d=some r:=by
 unfold oB at h
 split at h
 ·rename_i z;rw [z];exact .inl h
 ·exact .inr h
theorem DF {d:Bool}(x y:D)(m:Hm)(r:D×Hm)(h:cT d x y m=some r):(∃ i j,x=.str i/\y=.str j)\/oB d x y m=some r:=by
 cases y with
 | loc a=>
  refine .inr ?_
  have e:cT d x (.loc a) m=(match m[a]? with
   | some (.dT l)=>(eH x).map fun k=>(D.bl (if d then !(bN l k).isSome else (bN l k).isSome),m)
   | _=>lZ d x (.loc a) m):=by cases x<;>rfl
  rw [e] at h
  unfold oB
  simp only [qK]
  cases hc:m[a]? with
  | none=>rw [hc] at h;exact h
  | some c=>
   rw [hc] at h
   cases c with
   | dT l=>dsimp only at h ⊢;rw [h]
   | _=>exact h
 | str j=>
  cases x with
  | str i=>exact .inl ⟨i,j,rfl,rfl⟩
  | _=>exact .inr h
 | _=>cases x<;>exact .inr h
theorem DG (x y:D)(c:Hm)(r:D×Hm)(h:cT false x y c=some r):w4 x y c=some r\/oB false x y c=some r:=by
 rcases DF x y c r h with ⟨i,j,rfl,rfl⟩|z
 ·exact .inl h
 ·exact .inr z
theorem DH (x y:D)(c:Hm)(r:D×Hm)(h:cT true x y c=some r):xF x y c=some r\/oB true x y c=some r:=by
 rcases DF x y c r h with ⟨i,j,rfl,rfl⟩|z
 ·exact .inl h
 ·exact .inr z
theorem OM (j:Room k X.A)(c:QE X a ma)(d:QE X b mb)(h:fC b=true):QE X (.Compare a [.In] [b] pos) (aB (cT false) ma mb):=
 lY ⟨eF AX B2 c.h d.h (hG h)⟩ (lY ⟨eF (Dx (eT j)) tS c.h d.h (hG h)⟩ ⟨eF (Cy (sP j)) sN c.h d.h (hG h)⟩ (gD tT)) (gD DG)
theorem ON (j:Room k X.A)(c:QE X a ma)(d:QE X b mb)(h:fC b=true):QE X (.Compare a [.NotIn] [b] pos) (aB (cT true) ma mb):=
 lY ⟨eF Bk CA c.h d.h (hG h)⟩ (lY ⟨eF (Dy (eT j)) tS c.h d.h (hG h)⟩ ⟨eF (Cz (sP j)) sN c.h d.h (hG h)⟩ (gD tT)) (gD DH)
theorem OO (j:Room k X.A)(c:QE X a ma)(d:QE X b mb)(h:fC b=true):QT X (.Compare a [.In] [b] pos) (aO (aB (cT false) ma mb)):=
 nJ ⟨eG AX B2 c.h d.h (hG h)⟩ (nJ ⟨eG (Dx (eT j)) tS c.h d.h (hG h)⟩ ⟨eG (Cy (sP j)) sN c.h d.h (hG h)⟩ (nK (gD tT))) (nK (gD DG))
theorem OP (j:Room k X.A)(c:QE X a ma)(d:QE X b mb)(h:fC b=true):QT X (.Compare a [.NotIn] [b] pos) (aO (aB (cT true) ma mb)):=
 nJ ⟨eG Bk CA c.h d.h (hG h)⟩ (nJ ⟨eG (Dy (eT j)) tS c.h d.h (hG h)⟩ ⟨eG (Cz (sP j)) sN c.h d.h (hG h)⟩ (nK (gD tT))) (nK (gD DH))
theorem OQ (l:Room k X.A)(j:QE X o mo)(d:QE X i mi)(c:QE X e me)(h:eP e=true):QS X (.Assign [.Subscript o i tpos] e pos) (iM mo mi me):=OE l j d c h
end
end L3
namespace L3
open PySem L2
noncomputable def yH (K:Vk)(a b:Addr):It:=
 ⟨fun i H=>∃ c d x y,SqL K H a c/\SqL K H b d/\c[i]? = some x/\d[i]? = some y,
   fun i H z e=>∃ p v u,z=.ref p/\H p=none/\e=aK H p (.tup [v,u])/\(∀ c,SqL K H a c->c[i]? = some v)/\∀ d,SqL K H b d->d[i]? = some u,
   fun i H=>∃ c d,SqL K H a c/\SqL K H b d/\(c.length<=i\/d.length<=i)⟩
theorem OR {P:VQ}{w:V6}{K:Vk}{es:List Expr}{kx:Nat}{pt:W4}{a b z r to m n:Addr}(B:ZipApart z r to m n a b) :
  Turn P w K (.Tuple es kx pt) (yH K a b) [z,r,to,m,n] z (fun i h=>IsZip h z r to .none/\IsPair h r (.ref m) (.ref n)/\(∃ u v,IsPair h to u v)/\h.IsListIter m a i/\h.IsListIter n b i) where
 mem:=by simp
 obj:=fun i h ⟨A,G,⟨u,v,L⟩,M,N⟩ c hc=>by
  have hc':c=z\/c=r\/c=to\/c=m\/c=n:=by simpa using hc
  rcases hc' with rfl|rfl|rfl|rfl|rfl
  ·exact ⟨_,A,fun q e=>by
    have T:ZO _=a1f q:=e
    cases T⟩
  ·exact ⟨_,G,fun q e=>by
    have T:a2S _ _=a1f q:=e
    cases T⟩
  ·exact ⟨_,L,fun q e=>by
    have T:a2S _ _=a1f q:=e
    cases T⟩
  ·obtain ⟨o,e1,c,d⟩:=M
   exact ⟨o,e1,fun v e=>by rw [d] at e;cases e⟩
  ·obtain ⟨o,e1,c,d⟩:=N
   exact ⟨o,e1,fun v e=>by rw [d] at e;cases e⟩
 keep:=fun i h h' ⟨A,G,⟨u,v,L⟩,M,N⟩ k=>⟨k z (by simp) _ A,k r (by simp) _ G,⟨u,v,k to (by simp) _ L⟩,M.at fun o e=>k m (by simp) o e,N.at fun o e=>k n (by simp) o e⟩
 item:=by
  intro X hP hw hK hc i a5X s σ H E I Y ⟨A,G,⟨u,v,L⟩,M,N⟩ hg
  subst hP hw hK
  obtain ⟨xs,ys,x,y,Z,J,R,hy⟩:=hg
  obtain ⟨its,rv,p,hz⟩:=I.list Z
  obtain ⟨U,O,p2,hz2⟩:=I.list J
  obtain ⟨u1,eT,ru1⟩:=rv.get R
  obtain ⟨u2,hu2,ru2⟩:=O.get hy
  refine wpAny_pyNext_zip_item B A G L M N p.isList p2.isList (x:=u1) (y:=u2) (by simpa using eT) (by simpa using hu2) fun h1 a1 a2 a3 a4 a5 a6 hk=>⟨_,rfl,wpAny_letOwnedTupleGo_zip a1 fun h2 b1 l=>?_⟩
  have ne:∀ {c o},s.heap.get? c=some o->s.heap.objs.size≠c:=fun e=>W8 (Vu e)
  have l4:∃ o,s.heap.get? m=some o:=let ⟨o,e,_⟩:=M;⟨o,e⟩
  have l5:∃ o,s.heap.get? n=some o:=let ⟨o,e,_⟩:=N;⟨o,e⟩
  have ht2:h2.get? s.heap.objs.size=some { cls:=.type "tuple",data:=.seq #[u1,u2] }:=(l.2 _ (ne A)).trans a5
  have hfr:H s.heap.objs.size=none:=I.hok.fresh (Vv _)
  have g2':IsPair h2 r (.ref m) (.ref n):=(l.2 _ B.TIz).trans (hk _ _ B.TIz B.TITO B.TIi1 B.TIi2 G)
  refine ⟨.ref s.heap.objs.size,aK H s.heap.objs.size (.tup [x,y]),?_,rfl,⟨s.heap.objs.size,x,y,rfl,hfr,rfl,fun ws hw=>by rw [I.list_inj hw Z];exact R,fun ws hw=>by rw [I.list_inj hw J];exact hy⟩,
   ⟨b1,g2',⟨_,_,(l.2 _ B.TOz).trans a2⟩,a3.extBut l.extBut B.i1z,a4.extBut l.extBut B.i2z⟩,fun c Q=>?_⟩
  ·refine Dm (s:=s) (h':=h2) (t':=s.toks) (ch:=[z,r,to,m,n]) I (fun c oc Q ec=>?_) Y (Vv _) ?_
   ·have j:c≠z/\c≠r/\c≠to/\c≠m/\c≠n:=by simpa using Q
    exact (l.2 c j.1).trans (hk c oc j.1 j.2.2.1 j.2.2.2.1 j.2.2.2.2 ec)
   ·exact ⟨by show (2:Nat)<=VA;decide,[u1,u2],.cons ru1 (.cons ru2 .nil),_,ht2,rfl,0,rfl,rfl⟩
  ·have j:c=z\/c=r\/c=to\/c=m\/c=n:=by simpa using Q
   have hn:=(Y c Q).1
   rw [a8]
   ·exact hn
   ·rcases j with rfl|rfl|rfl|rfl|rfl
    ·exact (ne A).symm
    ·exact (ne G).symm
    ·exact (ne L).symm
    ·exact (ne l4.choose_spec).symm
    ·exact (ne l5.choose_spec).symm
 done:=by
  intro X hP hw hK hc i a5X s σ H E I Y ⟨A,G,⟨u,v,L⟩,M,N⟩ hg
  subst hP hw hK
  obtain ⟨xs,ys,Z,J,R⟩:=hg
  obtain ⟨its,rv,p,hz⟩:=I.list Z
  obtain ⟨U,O,p2,hz2⟩:=I.list J
  have hl:=rv.length
  have hl2:=O.length
  refine wpAny_pyNext_zip_end (I.ok.hd hc) B A G L M N p.isList p2.isList ?_ fun h' eb=>⟨rfl,Dn (t':=s.toks) (ch:=[z,r,to,m,n]) I (fun c o Q e=>?_) Y⟩
  ·rcases R with R|R
   ·exact .inl (by simp;omega)
   ·exact .inr (by simp;omega)
  ·have j:c≠z/\c≠r/\c≠to/\c≠m/\c≠n:=by simpa using Q
   exact eb c o j.1 j.2.2.1 j.2.2.2.1 j.2.2.2.2 e
 self:=fun _ _ _ _ _ ⟨A,_⟩ h=>a4S A h
noncomputable def qL (x y:D):gC:=fun a i=>(bF a x).bind fun xs=>(bF a y).map fun b=>(xs[i]?).bind fun d=>(b[i]?).map fun e=>.tup [d,e]
noncomputable def qM (a:MA):MI:=fun e d=>(a e d).bind fun p=>match p.1 with
 | [x,y]=>(d6 p.2 x).bind fun b=>(d6 p.2 y).map fun c=>(qL x y,min b.length c.length+1,p.2)
 | _=>none
theorem DI {K:Vk}{π:Nat->Addr}{l:Hm}{H:Hp}{v:V}{x:D}{xs:List D}(R:Rp K π H l)(h:IsD K π l.length H v x)(m:d6 l x=some xs):∃ p,v=.ref p/\(∃ vs,SqL K H p vs) /\
  ∀ c a d,Ext π l.length H c a.length d->Rp K c d a->∀ j,bF a x=some j->∃ i,SqL K d p i/\IsDs K c a.length d i j:=by
 obtain ⟨p,vs,rfl,u,_⟩:=mB R h m
 refine ⟨p,rfl,⟨vs,u⟩,fun c a d e o j n=>?_⟩
 have s:d6 a x=some j:=by
  cases x with
  | rol z=>exact n
  | loc b=>exact n
  | _=>cases m
 obtain ⟨y,i,r,w,q⟩:=mB o (h.mono e) s
 cases r
 exact ⟨i,w,q⟩
theorem OS {K:Vk}{π:Nat->Addr}{n:Hm}{H:Hp}{v Y:V}{x y:D}{xs ys:List D}(R:Rp K π H n)(h:IsD K π n.length H v x)(h':IsD K π n.length H Y y)(hs:d6 n x=some xs)(G:d6 n y=some ys) :
  ∃ a b,v=.ref a/\Y=.ref b/\(∃ L,SqL K H a L)/\(∃ L,SqL K H b L)/\Wk K (yH K a b) (qL x y) π n.length H:=by
 obtain ⟨a,rfl,qa,Q⟩:=DI R h hs
 obtain ⟨b,rfl,qb,T⟩:=DI R h' G
 refine ⟨a,b,rfl,rfl,qa,qb,fun j c o i e l z=>?_,fun j c o i d e l z=>?_⟩
 ·obtain ⟨p,B,z⟩:=Vj.mp z
  obtain ⟨bs,E,z⟩:=Vn.mp z
  obtain ⟨u,q,w⟩:=Q j c o e l p B
  obtain ⟨s,r,A⟩:=T j c o e l bs E
  refine ⟨u,s,q,r,?_⟩
  rw [w.length,A.length]
  cases M:p[i]? with
  | none=>exact .inl (WC.mp M)
  | some d=>
   cases m:bs[i]? with
   | none=>exact .inr (WC.mp m)
   | some d'=>rw [M,m] at z;cases z
 ·obtain ⟨p,B,z⟩:=Vj.mp z
  obtain ⟨bs,E,z⟩:=Vn.mp z
  obtain ⟨d1',h3,z⟩:=Vj.mp z
  obtain ⟨d2',h4,h5⟩:=Vn.mp z
  subst h5
  obtain ⟨u,q,w⟩:=Q j c o e l p B
  obtain ⟨s,r,A⟩:=T j c o e l bs E
  obtain ⟨Z,N,k1⟩:=w.get h3
  obtain ⟨w2,O,k2⟩:=A.get h4
  refine ⟨⟨u,s,Z,w2,q,r,N,O⟩,?_⟩
  rintro y H2 ⟨t,v1,v2,rfl,hn,rfl,I,J⟩
  have U:=I u q
  have X:=J s r
  rw [N] at U
  rw [O] at X
  cases U
  cases X
  obtain ⟨m,R2⟩:=l.fresh (o:=.tup [Z,w2]) hn
  exact ⟨m,R2,.tup (.of cG) (.cons (k1.mono m) (.cons (k2.mono m) .nil))⟩
noncomputable def OT (K:Vk)(d:TA):TI:=fun σ H R=>d σ H fun vs c=>∃ a b,vs=[.ref a,.ref b]/\(∃ xs,SqL K c a xs)/\(∃ e,SqL K c b e)/\R (yH K a b) c
open PyProof.Rows in
theorem OU {X:Cx}{a b:Expr}{B:TA}{p pos pt:W4}{es:List Expr}{kx:Nat}(T:Gl X "zip") (Y:X.mg "zip" = none) (Q:PA X [a,b] B)(hs:V5 [a,b] X.env=(false,eval a X.env)::V5 [b] X.env)(u:(Yi pos (V5 [b] X.env)).any (·.1)=false) :
  PI X (.Tuple es kx pt) (.Call (.Name "zip" p) [a,b] [] pos) (OT X.K B):=by
 intro j s E H R I h
 refine Call_ (jI I T Y Boot.«zip» (Xm (aP (Q pos j s E H _ I h) fun us d ⟨vs,x,i,r1,q1⟩=>?_) hs u))
 obtain ⟨n,o,rfl,⟨ws,Z⟩,⟨ws2,r⟩,q⟩:=q1
 cases r1 with
 | cons ru v=>
  cases v with
  | cons w v=>
   cases v
   cases ru
   cases w
   obtain ⟨its,rv,A,hz⟩:=i.list Z
   obtain ⟨z,rv2,m,hz2⟩:=i.list r
   have la:n<d.heap.objs.size:=let ⟨_,e,_⟩:=A.isList;Vu e
   have lb:o<d.heap.objs.size:=let ⟨_,e,_⟩:=m.isList;Vu e
   refine call_zip_2 A.isList m.isList fun O y K L M N hsz U=>a4S y ?_
   have G:Inv X j E x { d with heap:=O }:=i.kept (t':=d.toks) U
   have J:ZipApart (d.heap.objs.size+4) (d.heap.objs.size+2) (d.heap.objs.size+3) d.heap.objs.size (d.heap.objs.size+1) n o:=by
    have la':@LT.lt Nat _ n d.heap.objs.size:=la
    have lb':@LT.lt Nat _ o d.heap.objs.size:=lb
    constructor<;>(show @Ne Nat _ _;omega)
   refine ⟨d.heap.objs.size+4,[d.heap.objs.size+4,d.heap.objs.size+2,d.heap.objs.size+3,d.heap.objs.size,d.heap.objs.size+1],_,_,x,rfl,G,OR J,⟨y,K,⟨_,_,L⟩,M,N⟩,fun c hc=>?_,q⟩
   have l:d.heap.objs.size<=c:=by
    simp only [VP,Xd,or_false] at hc
    rcases hc with rfl|rfl|rfl|rfl|rfl<;>first|exact Nat.le_add_right _ _|exact Vv _
   exact i.fpOk l (i.hok.fresh l)
theorem OV {X:Cx}{a b:Expr}{q:MA}{n:Nat}{p pos:W4}(d:Gl X "zip") (e:X.mg "zip" = none) (o:QA X [a,b] q n):QJT X (.Call (.Name "zip" p) [a,b] [] pos) (qM q):=⟨fun es Z pt a5X s σ H R I hw=>by
 have h:=o.s
 rw [Wf,Vq,Wf,Vq] at h
 obtain ⟨U,Y,Q,M,n',T,u,E,c,k⟩:=hw
 obtain ⟨⟨x,j⟩,A,c⟩:=Vj.mp c
 refine OU d e o.h (fB h.1) (by rw [fB h.2.1];rfl) a5X s σ H R I ⟨U,Y,Q,x,j,u,E,A,fun l vs r z m i=>?_⟩
 dsimp only at c
 split at c
 ·rename_i x y
  obtain ⟨xs,B,c⟩:=Vj.mp c
  obtain ⟨ys,G,c⟩:=Vn.mp c
  cases c
  cases i with
  | cons i N=>
   cases N with
   | cons J O=>
    cases O
    obtain ⟨v,w,rfl,rfl,K,L,W⟩:=OS m i J B G
    exact ⟨v,w,rfl,K,L,k l r _ z m W⟩
 ·cases c⟩
end L3
namespace L3
open PySem L2
section
variable {P:VQ}{w:V6}{A:VU}{E:Value->Vp->Prop}{s:Vp}{a:Addr}
theorem OW:X0 (.type "tuple") "keys" = pure none:=by rw [a5l,a3L];kernel_rfl
theorem OX {o:WY}{xs:Array Value}{k:Nat}{Q:Option Value->Vp->Prop}(g:s.heap.get? a=some o)(j:o.cls=.type "tuple") (l:o.data=.seq xs k)(m:o.dict=none)(y:A.handled=none)
  (q:∀ h n,(∀ b u,s.heap.get? b=some u->h.get? b=some u)->Q none { s with heap:=h,toks:=n }):VD (VM P w) A (a3Z (.ref a) "keys") Q E s:=by
 obtain ⟨c,r,p,G⟩:=o
 dsimp only at j l m
 subst j l m
 obtain ⟨z,x,v,n,B⟩:=s
 have ty:∀ d,(⟨z,x,v,d,B⟩:Vp).TypeIs (.ref a) "tuple":=fun _=>⟨_,g,rfl⟩
 have H:=a4u
 have I:=F.slot_tuple_getattribute.lookup
 have J:=F.slot_tuple_getattribute.bind (.ref a)
 have K:=am_tuple_getattr_none
 unfold a3Z getAttrBy? getAttrBy
 repeat (any_goals (first|assumption|exact ty _|((with_reducible show VD _ _ (call (Xl "tuple.__getattribute__") _ _) _ _ _);refine Zr F.slot_tuple_getattribute (ty _) am_entry_tuple_getattribute (F.args_tuple_getattribute_2 _ _) (meets_getattribute_miss_tuple a xs k G "keys" _ OW (by decide +kernel)) ⟨g,y,fun h d e ne=>?_⟩)|wp_step))
 obtain ⟨L,M,i⟩:=ne.there
 show VD _ _ (ZX _ _ _ _ none false false) _ _ _
 unfold ZX
 repeat (any_goals (first|assumption|wp_step))
 exact q _ _ ne.of.keeps
end
theorem tU:entryFor table "dict.update.loop" = some Builtin.«dict.update.loop»:=entryFor_of_tree (by kernel_rfl)
theorem kU:plainId "dict.update.loop" = true:=by decide +kernel
noncomputable def fQ (ps:bV):List (Addr×List Int×Addr×V)->bV
 | []=>ps
 | r::L=>fQ (dO ps r.2.1 r.2.2.1 r.2.2.2) L
section
variable {X:Cx}{a5X:List (Addr×WY)}{σ:St}{A:VU}{E:Value->Vp->Prop}{d:Addr}
theorem yI {H:Hp}{s:Vp}{b:Addr}{k:List Int}{v:V}{u:Value}{ps:bV}{Q:Unit->Vp->Prop}(B:A.units<WX)(I:Inv X a5X σ H s)(e:H d=some (aY d ps))(x:dH X.K H ps)(p:SqT X.K H b (k.map V.int))(hz:ps.length<VA)(K:RelV v u)
  (h:∀ j,Inv X a5X σ (aK H d (aY d (dO ps k b v))) j->(∀ c o,c≠d->s.heap.get? c=some o->j.heap.get? c=some o)->Q () j):VD (VM X.prog X.w) A (dictSet d (.ref b) u) Q E s:=by
 obtain ⟨z,N,L,r,l⟩:=i9 I (.of e) x
 have G:(bO ps L).length<=VA:=by
  have:=congrArg Wm (kT r)
  rw [Vm,Vm] at this
  omega
 refine wpAny_dictSet_heap (hsz:=G) (show (Xw (XW X.prog X.w)).room A from B) (mD I p) l fun n i a=>h _ ?_ fun c o hc e=>a.extBut c o hc e
 obtain ⟨M,J,m⟩:=Dv r k b K
 rw [m] at i
 have w:∃ q,n.get? d=some q:=let ⟨q,_,_,y,_⟩:=i;⟨q,y⟩
 exact wA I (by rw [e];exact Yt) a w (tP z (by have:=tN ps k b v;omega) J i)
end
theorem kW {K:Vk}{H:Hp}{d b:Addr}{o:HO}{ps:bV}{vs:List V}(e:H d=some (aY d ps))(h:SqT K H b vs):SqT K (aK H d o) b vs:=by
 have ne:∀ {u},H b=some u->(∀ c,u≠aY d c)->b≠d:=fun z f y=>by
  rw [y,e] at z
  cases z
  exact f ps rfl
 rcases h with (h|⟨a,h⟩)|h
 ·exact .inl (.inl (by rw [a8 (ne h fun _ z=>by cases z)];exact h))
 ·exact .inl (.inr ⟨a,by rw [a8 (ne h fun _ z=>by cases z)];exact h⟩)
 ·exact .inr h
theorem DJ {K:Vk}{H:Hp}{ps:bV}{k:List Int}{b:Addr}{v:V}(h:dH K H ps)(i:SqT K H b (k.map V.int)):dH K H (dO ps k b v):=by
 intro p a
 unfold dO at a
 split at a
 ·obtain ⟨d,c,e⟩:=VY.mp a
  by_cases z:d.1=k
  ·rw [if_pos z] at e
   subst e
   exact h d c
  ·rw [if_neg z] at e
   subst e
   exact h d c
 ·rcases WU.mp a with a|a
  ·exact h p a
  ·rw [WR.mp a]
   exact i
theorem tV {H:Hp}{d:Addr}{o a:HO}:aK (aK H d o) d a=aK H d a:=by
 funext b
 unfold aK
 split
 ·rfl
 ·rfl
theorem DK {P:VQ}{w:V6}{A:VU}{E:Value->Vp->Prop}{s:Vp}{p:Addr}{xs:Array Value}{Q:List Value->Vp->Prop}(h:Yu s.heap p xs)(q:Q xs.toList s):VD (VM P w) A (a1h (.ref p)) Q E s:=by
 obtain ⟨o,g,c,n,a⟩:=h
 have ty:s.TypeIs (.ref p) "tuple":=⟨o,g,c⟩
 unfold a1h
 refine Vl (ZK ty ?_)
 rw [if_pos (by decide)]
 unfold seqItems?
 refine Vl (Vl (a1j g ?_))
 rw [a]
 exact Vr (Vr q)
section
variable {X:Cx}{a5X:List (Addr×WY)}{σ:St}{A:VU}{d t it:Addr}{ys:List V}{R:a2E->Vp->Prop}
theorem OY (hh:A.handled=none)(hu:A.in1.units<WX):∀ (L:List (Addr×List Int×Addr×V))(i:Nat)(ps:bV)(H:Hp)(s:Vp),Inv X a5X σ H s->H d=some (aY d ps)->dH X.K H ps->SqT X.K H t ys->ys.drop i=L.map (fun r=>V.ref r.1)->
  (∀ r∈L,SqT X.K H r.1 [.ref r.2.2.1,r.2.2.2]/\SqT X.K H r.2.2.1 (r.2.1.map V.int))->fH X a5X H it->s.heap.IsTupleIter it t i->ps.length+L.length<=VA->
  (∀ J,Inv X a5X σ (aK H d (aY d (fQ ps L))) J->R (.ok (.ret .none)) J)->ZM (VM X.prog X.w) A (.builtin "dict.update.loop" ⟨[.ref d,.ref it,XR i,.none],[]⟩) R s:=by
 intro L
 induction L with
 | nil=>
  intro i ps H s I e Q B hd E O st U q
  obtain ⟨h,rv,p,Y⟩:=I.tuple B
  obtain ⟨l,n,f2,v,w,y⟩:=O
  have hl:=rv.length
  have hlen:ys.length<=i:=by
   have:=congrArg Wm hd
   simp at this
   omega
  refine XS tU ?_
  rw [Xa kU _]
  show VD _ A.in1 (ZA (.ref it) >>= _) _ _ s
  refine Vl (a3p hh st (show s.heap.IsTuple t h.toArray from p) (by simp;omega) fun K eb=>?_)
  have m:Inv X a5X σ H { s with heap:=K }:=I.turned (t':=s.toks) (fun b o M e=>eb b o M e) l n v w y
  show VD _ _ (a0U d [] >>= _) _ _ _
  refine Vl (Vr (Vr (q _ ?_)))
  have:aK H d (aY d (fQ ps []))=H:=by
   funext b
   unfold aK
   split
   ·rename_i z;rw [z];exact e.symm
   ·rfl
  rw [this]
  exact m
 | cons r L ih=>
  intro i ps H s I e Q B hd E O st U q
  obtain ⟨h,rv,p,Y⟩:=I.tuple B
  obtain ⟨l,n,f2,v,w,y⟩:=id O
  have G:ys[i]? = some (.ref r.1):=by
   have:=congrArg (·[0]?) hd
   simpa using this
  obtain ⟨u,eT,ru⟩:=rv.get G
  cases ru
  refine XS tU ?_
  rw [Xa kU _]
  show VD _ A.in1 (ZA (.ref it) >>= _) _ _ s
  refine Vl (a3b st (show s.heap.IsTuple t h.toArray from p) (x:=.ref r.1) (by simpa using eT) fun K st' sb=>?_)
  have m:Inv X a5X σ H { s with heap:=K }:=I.turned (t':=s.toks) (fun b o M e=>(sb.2 b M).trans e) l n v w y
  have a:=E r (VO ..)
  obtain ⟨its2,rv2,p2,_⟩:=m.tuple a.1
  cases rv2 with
  | cons rk Z=>
   cases Z with
   | cons rw' Z=>
    cases Z
    cases rk
    rename_i w0
    refine Vl (Wi (Vl (a5L (DK p2 ?_))))
    have T:ps.length<VA:=by
     rw [V1] at U
     omega
    refine Wi (yI hu m e Q a.2 T rw' fun J I2 kp=>?_)
    refine Vr ⟨Yq kU _,?_⟩
    have bM:it≠d:=fun z=>by
     rw [<- z,l] at e
     cases e
    have c:∀ x∈L,SqT X.K (aK H d (aY d (dO ps r.2.1 r.2.2.1 r.2.2.2))) x.1 [.ref x.2.2.1,x.2.2.2]/\SqT X.K (aK H d (aY d (dO ps r.2.1 r.2.2.1 r.2.2.2))) x.2.2.1 (x.2.1.map V.int):=fun x G=>
     ⟨kW e (E x (VI _ G)).1,kW e (E x (VI _ G)).2⟩
    have N:ys.drop (i+1)=L.map (fun r=>V.ref r.1):=by
     have:=congrArg a5W hd
     simpa [a4l] using this
    refine ih (i+1) (dO ps r.2.1 r.2.2.1 r.2.2.2) _ J I2 cG (DJ (fun p hp=>kW e (Q p hp)) (kW e a.2)) (kW e B) N c ⟨by rw [a8 bM];exact l,n,f2,v,w,y⟩ (st'.at fun o ho=>kp it o bM ho) ?_ fun s'' j=>q s'' ?_
    ·have:=tN ps r.2.1 r.2.2.1 r.2.2.2
     rw [V1] at U
     omega
    ·rw [tV] at j
     exact j
end
section
variable {X:Cx}
noncomputable def DL (K:Vk):List V->Hp->VK->Prop:=fun xs H Q=>∃ (t:Addr)(L:List (Addr×List Int×Addr×V)),xs=[V.ref t]/\SqT K H t (L.map fun r=>V.ref r.1) /\
 (∀ r∈L,SqT K H r.1 [.ref r.2.2.1,r.2.2.2]/\SqT K H r.2.2.1 (r.2.1.map V.int))/\∀ d,H d=none->Q (.ref d) (aK H d (aY d (fQ [] L)))
theorem OZ (hc:X.calm=true)(Y:X.A.units+64<WX):CallR X (.type "dict") (DL X.K):=by
 intro d s N H xs us Q I r h
 obtain ⟨t,L,rfl,w,M,k⟩:=h
 obtain ⟨u,rfl,ru⟩:=eD r
 cases ru
 have K:H s.heap.objs.size=none:=I.hok.fresh (Vv _)
 refine a2A (Q₁:=fun j c=>j=.ref s.heap.objs.size/\c = { s with heap:=s.heap.push { cls:=.type "dict",data:=.dict #[] } }) F.kt_called_dict (F.kt_typeCall_dict_1 _) F.entry_dict_init (a1V _ ⟨rfl,rfl⟩) ?_
 rintro j c ⟨rfl,rfl⟩
 have E:Inv X d N (aK H s.heap.objs.size (aY s.heap.objs.size [])) { s with heap:=s.heap.push { cls:=.type "dict",data:=.dict #[] } }:=I.laid (a:=s.heap.objs.size) (o:=aY s.heap.objs.size []) (t':=s.toks) (fun _ _ q=>Vo _ q) (Vv _) (tQ s.heap I.big)
 have ty:({ s with heap:=s.heap.push { cls:=.type "dict",data:=.dict #[] } }:Vp).TypeIs (.ref s.heap.objs.size) "dict":=⟨_,VC _ rfl,rfl⟩
 refine ⟨ty,F.args_dict_init_2 _ _,?_⟩
 unfold Builtin.«dict.__init__»
 refine Vl ?_
 unfold Zn
 refine Vl (W9 ty ?_)
 show VD _ _ (pure (s.heap.objs.size,[Vz t])) _ _ _
 refine Vr ?_
 show VD _ _ (Xj "dict.__init__" s.heap.objs.size (.ref t) [] .none) _ _ _
 unfold Xj
 have mono:∀ {b:Addr}{vs:List V},SqT X.K H b vs->SqT X.K (aK H s.heap.objs.size (aY s.heap.objs.size [])) b vs:=fun {b vs} z=>by
  have ne:H b≠none->b≠s.heap.objs.size:=fun f y=>by rw [y] at f;exact f K
  rcases z with (z|⟨A,z⟩)|z
  ·exact .inl (.inl (by rw [a8 (ne (by rw [z];exact fun y=>nomatch y))];exact z))
  ·exact .inl (.inr ⟨A,by rw [a8 (ne (by rw [z];exact fun y=>nomatch y))];exact z⟩)
  ·exact .inr z
 obtain ⟨Z,rv,A,G,J,n,R,T⟩:=E.tupN (mono w)
 refine Vl (ZK ⟨A,G,J⟩ ?_)
 rw [if_pos (by decide)]
 refine Vl (OX G J R T (I.ok.hd hc) fun v m kp=>?_)
 have l:Inv X d N (aK H s.heap.objs.size (aY s.heap.objs.size [])) { s with heap:=v,toks:=m }:=E.kept (t':=m) kp
 show VD _ _ (rule _ >>= _) _ _ _
 refine Vl (a1i ?_)
 obtain ⟨a,rv',p',x⟩:=l.tuple (mono w)
 refine Vl (YX (t:=t) (items:=a.toArray) (show ({ s with heap:=v,toks:=m }:Vp).heap.IsTuple t a.toArray from p') ?_)
 have O:=l.kept (t':=m) (h':=v.push { cls:=.type "tuple_iterator",data:=.fields #[.ref t,.int 0 0] }) fun b o e=>Vo _ e
 refine Vr ⟨Yq kU _,?_⟩
 refine OY (A:=X.A.in1) (I.ok.hd hc) ?_ L 0 [] _ _ O cG (fun p U=>nomatch U) (mono w) rfl (fun r i=>⟨mono (M r i).1,mono (M r i).2⟩) (l.fpOk (Vv _) (l.hok.fresh (Vv _))) ⟨_,VC _ rfl,rfl,rfl⟩ ?_ fun s' B=>?_
 ·show X.A.units+1+1<WX
  omega
 ·have:=x
  simp at this ⊢
  exact this
 ·rw [tV] at B
  exact ⟨rfl,.ref s.heap.objs.size,_,B,rfl,k _ K⟩
end
noncomputable def oC:List D->Option (List (List Int×D))
 | []=>some []
 | .tup [x,v]::r=>(eH x).bind fun k=>(oC r).map fun l=>(k,v)::l
 | _::_=>none
noncomputable def mJ:MF:=fun ds a=>match ds with
 | [.tup xs]=>(oC xs).map fun l=>(.loc a.length,a++[.dT (l.foldl (fun q p=>dA q p.1 p.2) [])])
 | _=>none
section
variable {K:Vk}{π:Nat->Addr}{n:Nat}{H:Hp}
noncomputable abbrev DM (K:Vk)(π:Nat->Addr)(n:Nat)(H:Hp):List (Addr×List Int×Addr×V)->List (List Int×D)->Prop:=
 Zc fun r p=>r.2.1=p.1/\SqT K H r.1 [.ref r.2.2.1,r.2.2.2]/\SqT K H r.2.2.1 (r.2.1.map V.int)/\IsD K π n H r.2.2.2 p.2
theorem DN:∀ {xs:List D}{ws:List V}{l:List (List Int×D)},IsDs K π n H ws xs->oC xs=some l->∃ L,ws=L.map (fun r=>V.ref r.1)/\DM K π n H L l
 | [],_,_,.nil,h=>by cases h;exact ⟨[],rfl,.nil⟩
 | x::xs,_,l,.cons i t,h=>by
  unfold oC at h
  split at h
  ·rename_i a;cases a
  ·rename_i y v r a
   cases a
   obtain ⟨k,d,h⟩:=Vj.mp h
   obtain ⟨o,e,rfl⟩:=Vn.mp h
   obtain ⟨L,rfl,P⟩:=DN t e
   cases i with
   | tup q z=>
    cases z with
    | cons j z=>
     cases z with
     | cons m z=>
      cases z
      obtain ⟨b,rfl,c⟩:=qI j d
      exact ⟨(_,k,b,_)::L,rfl,.cons ⟨rfl,q,c,m⟩ P⟩
  ·cases h
theorem DO:∀ {L:List (Addr×List Int×Addr×V)}{l:List (List Int×D)},DM K π n H L l->∀ {ps:bV}{kvs:List (List Int×D)},IsTs K π n H ps kvs->IsTs K π n H (fQ ps L) (l.foldl (fun q p=>dA q p.1 p.2) kvs)
 | _,_,.nil,_,_,h=>h
 | r::L,p::l,.cons e t,ps,kvs,h=>by
  obtain ⟨a,_,b,c⟩:=e
  show IsTs K π n H (fQ (dO ps r.2.1 r.2.2.1 r.2.2.2) L) (l.foldl _ (dA kvs p.1 p.2))
  rw [<- a]
  exact DO t (h.put r.2.1 b c)
end
theorem O0 {K:Vk}:dR K mJ (DL K):=by
 intro x H w o d s v Q R i a k
 unfold mJ at a
 split at a
 ·rename_i o
  obtain ⟨l,c,m⟩:=Vn.mp a
  cases m
  cases i with
  | cons i t=>
   cases t
   cases i with
   | tup q z=>
    obtain ⟨L,rfl,P⟩:=DN z c
    refine ⟨_,L,rfl,q,?_,fun d hd=>?_⟩
    ·clear q z k a c
     induction P with
     | nil=>exact fun r b=>nomatch b
     | cons e t n=>
      intro r b
      rcases VP.mp b with rfl|b
      ·exact ⟨e.2.1,e.2.2.1⟩
      ·exact n r b
    ·have T:=DO P (ps:=[]) (kvs:=[]) .nil
     obtain ⟨j,h,u⟩:=R.alloc (c:=.dT (l.foldl (fun q p=>dA q p.1 p.2) [])) (o:=aY d (fQ [] L)) hd ⟨_,rfl,T.to.1,T.to.2.1,T.to.2.2⟩
     exact k _ _ _ j h fL
 ·cases a
end L3
namespace L3
open PySem L2
noncomputable def ItI (h:Wj)(c d S:Addr)(i n ep:Nat):Prop:=∃ (b ok j:Value)(e:Bool),h.get? c=some { cls:=.type "dict_itemiterator",dict:=none,data:=.fields #[b,.bool e,.ref d,.int i 0,.int n 0,.int ep 0,ok,j],slots:=#[] } /\
 (b=.none\/∃ (a:Addr)(o:WY),b=XR a/\h.get? a=some o/\a≠c/\a≠S)
theorem ItI.ty {s:Vp}{a d S:Addr} {i n ep} (j:ItI s.heap a d S i n ep):s.TypeIs (.ref a) "dict_itemiterator":=let ⟨_,_,_,_,e,_⟩:=j;⟨_,e,rfl⟩
theorem ItI.stay {h h':Wj}{c d S:Addr} {i n ep} (j:ItI h c d S i n ep)(p:c≠S)(k:∀ b o,b≠S->h.get? b=some o->h'.get? b=some o):ItI h' c d S i n ep:=by
 obtain ⟨w,ok,q,m,e,r⟩:=j
 refine ⟨w,ok,q,m,k _ _ p e,?_⟩
 rcases r with r|⟨a,o,s,u,v,l⟩
 ·exact .inl r
 ·exact .inr ⟨a,o,s,k _ _ l u,v,l⟩
section
variable {P:VQ}{w:V6}{A:VU}{E:Value->Vp->Prop}{s:Vp}{d it S:Addr}{i ep:Nat}{es:Array WD}
theorem DP {Q:Option Value->Vp->Prop}(hh:A.handled=none)(j:ItI s.heap it d S i es.size ep)(g:RawD s.heap d es ep)(hS:S<s.heap.objs.size)
  (q1:∀ e m,es[i]? = some e->ItI m it d S (i+1) es.size ep->m.get? s.heap.objs.size=some { cls:=.type "tuple",data:=.seq #[e.key,e.val] }->m.objs.size=s.heap.objs.size+1->(∀ b o,b≠it->s.heap.get? b=some o->m.get? b=some o)->Q (some (.ref s.heap.objs.size)) { s with heap:=m })
  (q2:es[i]? = none->∀ m,a1r it s.heap m->Q none { s with heap:=m }):VD (VM P w) A (ZA (.ref it)) Q E s:=by
 obtain ⟨z,g1,g2,g3⟩:=id g
 have ty:=j.ty
 obtain ⟨h,y,r,G,B⟩:=s
 obtain ⟨wn,ok,M,R,L,jr⟩:=j
 have U:∀ {Q:String->Vp->Prop}{A:VU}{E:Value->Vp->Prop},Q "dict_itemiterator" ⟨h,y,r,G,B⟩->VD (VM P w) A (a5k (.ref it)) Q E ⟨h,y,r,G,B⟩:=fun q=>wpAny_typeNameOfWhole_itemiter ty q
 unfold ZA
 refine Vl (wpAny_attempt (a3c (name:=Xy "__next__") ty F.slot_dict_itemiterator_next (W0 F.slot_dict_itemiterator_next ty F.entry_dict_itemiterator_next ?_ (F.args_dict_itemiterator_next_1 _))))
 refine Vl (Vr (Vl (Vl (Vl (U (Vr (Vl (a5M L rfl ?_))))))))
 simp only [show YJ "dict_itemiterator" = true by decide,if_true]
 show VD _ _ (if (Vz d == Wb)=true then _ else _) _ _ _
 rw [if_neg (show ¬ (Vz d == Wb)=true from fun x=>V7 x)]
 refine Vl (Vr (Vl (WE g1 g3 ?_)))
 rw [if_neg (fun x=>by simp at x)]
 refine Vl (Vr (Vl (YW g1 g3 ?_)))
 rw [if_neg (fun x=>by simp at x)]
 refine Vr ?_
 simp only [if_neg (show ¬ ((i:Int)<0) by omega),ZT]
 have T:it<h.objs.size:=Vu L
 cases he:es[i]? with
 | some e=>
  refine Vl (Vl (U (Vr (Vl (a0p ty ?_)))))
  show VD _ _ (a2y (.ref it) 3 (XR ((i:Int)+1)) >>= _) _ _ _
  refine Vl (Yg L (by simp) fun u N O=>?_)
  replace O:YA it h u:=O
  replace N:u.get? it=some { cls:=.type "dict_itemiterator",dict:=none,data:=.fields #[wn,.bool R,.ref d,.int ((i+1:Nat):Int) 0,.int es.size 0,.int ep 0,ok,M],slots:=#[] }:=by
   rw [show ((i+1:Nat):Int)=(i:Int)+1 by omega]
   simpa [XR] using N
  have H:Shared.TypeIs ⟨u,y,r,G,B⟩ (.ref it) "dict_itemiterator":=⟨_,N,rfl⟩
  refine Vl (Wi (Vl (a0p H (Vl (a0p H ?_)))))
  show VD _ _ (ZV (.ref it) 6 e.key e.val) _ _ _
  unfold ZV
  refine Vl (a2w ?_)
  have zu:u.objs.size=h.objs.size:=O.1
  have l:=Vo { cls:=.type "tuple",data:=.seq #[e.key,e.val] } N
  have Z:(u.push { cls:=.type "tuple",data:=.seq #[e.key,e.val] }).get? h.objs.size=some { cls:=.type "tuple",data:=.seq #[e.key,e.val] }:=zu ▸ VC u rfl
  have vz:(u.push { cls:=.type "tuple",data:=.seq #[e.key,e.val] }).objs.size=h.objs.size+1:=by rw [Yv,zu]
  have I:∀ b o,b≠it->h.get? b=some o->(u.push { cls:=.type "tuple",data:=.seq #[e.key,e.val] }).get? b=some o:=fun b o K x=>Vo _ (O.extBut b o K x)
  show VD _ _ (ZG (.ref it) >>= _) _ _ ⟨u.push { cls:=.type "tuple",data:=.seq #[e.key,e.val] },y,r,G,B⟩
  rw [zu]
  generalize u.push { cls:=.type "tuple",data:=.seq #[e.key,e.val] } = v at l Z vz I
  have c:h.objs.size≠it:=W8 T
  have fin:∀ p:Wj,ItI p it d S (i+1) es.size ep->YA it v p->Q (some (.ref h.objs.size)) ⟨p,y,r,G,B⟩:=fun p j' Y=>
   q1 e p he j' (Y.extBut _ _ c Z) (by show p.objs.size=_;rw [Y.1,vz]) fun b o K x=>Y.extBut b o K (I b o K x)
  refine Vl ?_
  unfold ZG
  rcases jr with rfl|⟨a,o,rfl,X,n,r4⟩
  ·refine Vl (XU l rfl (x:=.none) rfl (Vr ?_))
   simp only [if_true]
   refine Vl (XU l rfl (x:=ok) rfl (Vl (XU l rfl (x:=M) rfl ?_)))
   refine Vl (Yg l (by simp) fun v3 x3 J=>Vl (Yg x3 (by simp) fun v4 x4 y4=>Vl (Yg x4 (by simp) fun v5 x5 y5=>Vl (Yg x5 (by simp) fun v6 x6 y6=>?_))))
   refine Vl (wpAny_letGo (Vr (Vr ⟨_,rfl,Vr (fin v6 ?_ ?_)⟩)))
   ·refine ⟨XR h.objs.size,e.key,e.val,false,by simpa using x6,.inr ⟨h.objs.size,_,rfl,y6.extBut _ _ c (y5.extBut _ _ c (y4.extBut _ _ c (J.extBut _ _ c Z))),c,W8 hS⟩⟩
   ·exact ((J.trans y4).trans y5).trans y6
  ·refine Vl (XU l rfl (x:=XR a) rfl ?_)
   show VD _ _ (loadIfAlive ((a:Int).toNat) >>= _) _ _ _
   rw [ZT]
   refine Vl (PySem.W.kdx_alive (I a o n X) ?_)
   simp only [Option.isNone_some,Vy,if_false]
   refine Vl (XU l rfl (x:=.bool R) rfl ?_)
   cases R with
   | true=>
    rw [if_neg (show ¬ ((XM true != XM true)=true) from fun x=>V7 x)]
    refine Vr ?_
    simp only [Vy,if_false]
    exact Vr (Vr ⟨_,rfl,Vr (fin v ⟨_,ok,M,true,l,.inr ⟨a,o,rfl,I a o n X,n,r4⟩⟩ (a2a _ _))⟩)
   | false=>
    rw [if_pos (show (XM false != XM true)=true from rfl)]
    refine Vl (Yg l (by simp) fun v3 x3 J=>Vr ?_)
    simp only [Vy,if_false]
    exact Vr (Vr ⟨_,rfl,Vr (fin v3 ⟨_,ok,M,true,by simpa using x3,.inr ⟨a,o,rfl,J.extBut a o n (I a o n X),n,r4⟩⟩ J)⟩)
 | none=>
  refine Vl (Vl (U (Vr ?_)))
  show VD _ _ (a2y (.ref it) 2 .none >>= _) _ _ _
  refine Vl (YH L rfl (by simp) ?_)
  show VD _ _ (a5R (.type "StopIteration") [] >>= _) _ _ _
  simp only [a5R,newTuple]
  refine Vl (Vl (W7 ?_ (by size_fits)))
  refine Vl (m:=a0G _ _) (wpAny_of_eq (a:=Wb) (by first|rfl|(simp only [a0G];rfl)) (W7 ?_ (by size_fits)))
  simp only [raiseNew]
  refine Vl (wpAny_handled ?_)
  rw [show A.in1.handled=none from hh]
  refine Vl (Vr (wpAny_throw ?thrown))
  case thrown=>exact Vl (Zp (T:="StopIteration") (b:=true) ⟨_,VC _ rfl,rfl⟩ a5T (Vr (q2 he _ (((Ye ..).extBut.push _).push _))))
theorem O1 {r:Addr}{Q:Value->Vp->Prop}(a:s.heap.IsItemsView r d)(g:RawD s.heap d es ep)
  (q:Q (.ref s.heap.objs.size) { s with heap:=s.heap.push { cls:=.type "dict_itemiterator",data:=.fields #[.none,.bool false,.ref d,.int 0 0,.int es.size 0,.int ep 0,.none,.none] } }):VD (VM P w) A (a2z (.ref r)) Q E s:=by
 obtain ⟨y,e,l,h⟩:=id a
 obtain ⟨z,b,j,c⟩:=id g
 refine a4E a.typeIs F.slot_dict_items_iter (W0 F.slot_dict_items_iter a.typeIs F.entry_dict_items_iter ?_ (F.args_dict_items_iter_1 _))
 unfold Builtin.«dict_items.__iter__» a3W a3V
 refine Vl (Vr (Vl (Vl (XU e h (x:=.ref d) rfl (Vr (Vl (Vl (WE b c (Vl (YW b c ?_))))))))))
 simp only [show YJ "dict_itemiterator" = true by decide,if_true]
 refine W7 (Vr ⟨_,rfl,"dict_itemiterator",_,⟨_,VC _ rfl,rfl⟩,F.slot_dict_itemiterator_next.lookup,?_⟩) (by simp only [sizeOk,ZH,VG,VR,V1,Zl];rw [VS];omega)
 simpa [XR,ZH] using q
end
structure PrsAt (es:Array WD)(lo:Addr)(h:Wj)(as:List Addr):Prop where
 up:as.Pairwise (·<·)
 over:∀ a∈as,lo<a
 prs:∀ (j:Nat)(a:Addr),as[j]? = some a->∃ e,es[j]? = some e/\h.get? a=some { cls:=.type "tuple",data:=.seq #[e.key,e.val] }
theorem PrsAt.stay {es:Array WD}{lo:Addr}{h h':Wj}{c:List Addr}(p:PrsAt es lo h c)(k:∀ b o,lo<b->h.get? b=some o->h'.get? b=some o):PrsAt es lo h' c:=
 ⟨p.up,p.over,fun j a d=>let ⟨e,i,l⟩:=p.prs j a d;⟨e,i,k a _ (p.over a (V8 d)) l⟩⟩
theorem PrsAt.lt {es:Array WD}{lo:Addr}{h:Wj}{b:List Addr}(p:PrsAt es lo h b){a:Addr}(c:a∈b):a<h.objs.size:=by
 obtain ⟨j,d⟩:=a2I.mp c
 obtain ⟨_,_,e⟩:=p.prs j a d
 exact Vu e
theorem PrsAt.snoc {es:Array WD}{lo:Addr}{h:Wj}{i:List Addr}{b:Addr}{e:WD}(p:PrsAt es lo h i)(n:∀ a∈i,a<b)(q:lo<b)(o:es[i.length]? = some e)(r:h.get? b=some { cls:=.type "tuple",data:=.seq #[e.key,e.val] }):PrsAt es lo h (i++[b]):=by
 refine ⟨List.pairwise_append.mpr ⟨p.up,List.pairwise_singleton _ _,fun a d c hc=>by rw [WR.mp hc];exact n a d⟩,fun a d=>?_,fun j a l=>?_⟩
 ·rcases WU.mp d with d|d
  ·exact p.over a d
  ·rw [WR.mp d];exact q
 ·rcases YZ j i.length with m|m|m
  ·rw [We m] at l
   exact p.prs j a l
  ·subst m
   have:b=a:=by simpa using l
   subst this
   exact ⟨e,o,r⟩
  ·rw [Y3 (by simp;omega)] at l
   cases l
section
variable {P:VQ}{w:V6}{A:VU}{s:Vp}{R:a2E->Vp->Prop}{es:Array WD}{ep:Nat}{S I d:Addr}
theorem O2 (T:A.handled=none)(B:S<I)(L:d≠S)(K:d≠I)(hn:es.size<=VA)(res:Value){h1:Wj}
  (U:∀ (h':Wj)(tk:Nat)(l:Array Value)(c:Nat)(m:List Addr),(∀ b o,b≠S->b≠I->h1.get? b=some o->h'.get? b=some o)->h'.get? S=some { cls:=.type "list",dict:=none,data:=.seq l c,slots:=#[] }->m.length=es.size->PrsAt es I h' m->l.toList=m.map Vz->R (.ok (.ret res)) { s with heap:=h',toks:=tk }) :
  ∀ (k i:Nat)(h:Wj)(tk c:Nat)(l:Array Value)(m:List Addr),es.size - i=k->i<=es.size->ItI h I d S i es.size ep->RawD h d es ep->(∀ b o,b≠S->b≠I->h1.get? b=some o->h.get? b=some o)->h.get? S=some { cls:=.type "list",dict:=none,data:=.seq l c,slots:=#[] }->
   l.toList=m.map Vz->m.length=i->PrsAt es I h m->I<h.objs.size->ZM (VM P w) A (.builtin "list.extend.loop" ⟨[.ref S,.ref I,res],[]⟩) R { s with heap:=h,toks:=tk }:=by
 have ne:S≠I:=VB B
 intro k
 induction k with
 | zero=>
  intro i h tk c l m Y X j g O q H E J lt
  refine XS F.entry_extend_loop ?_
  rw [Xa F.plain_extend_loop _]
  refine Vl (m:=ZA (.ref I)) (DP (s:={ s with heap:=h,toks:=tk }) (A:=A.in1) T j g (Vu q) (fun e h' p=>?_) fun _ h' x=>Vr (U h' tk l c m (fun b o G v z=>x b o v (O b o G v z)) (x S _ ne q) (by omega) (J.stay fun b o r z=>x b o (W8 r) z) H))
  rw [YU (by omega)] at p
  cases p
 | succ k ih=>
  intro i h tk c l m Y X j g O q H E J lt
  have sz:l.size=i:=by rw [<- XT,H,Vm,E]
  refine XS F.entry_extend_loop ?_
  rw [Xa F.plain_extend_loop _]
  refine Vl (m:=ZA (.ref I)) (DP (s:={ s with heap:=h,toks:=tk }) (A:=A.in1) T j g (Vu q) (fun e h' p j' N Z n=>?_) fun p=>?_)
  ·dsimp only at N Z n ⊢
   have y:=n S _ ne q
   have Q:S<h.objs.size:=Vu q
   have u:∀ b o,b≠S->h'.get? b=some o->(h'.update S (Xb (·.push (Vz h.objs.size)))).get? b=some o:=fun b o r z=>(Wr _ _ (WB r)).trans z
   refine Vl (m:=updateSeq S (·.push (Vz h.objs.size))) (a2j y rfl (Vr ⟨Yq F.plain_extend_loop _,?_⟩) (by rw [sz];omega) (by show (l.push (Vz h.objs.size)).size<=VA+1;rw [Array.size_push,sz];omega))
   refine ih (i+1) _ tk _ (l.push (Vz h.objs.size)) (m++[h.objs.size]) (by omega) (by omega) (j'.stay (WB ne) u) (g.stay fun o z=>u d o L (n d o K z)) (fun b o G v z=>u b o G (n b o v (O b o G v z))) (WA _ y rfl) (by rw [Array.toList_push,H,Wq];rfl) (by rw [VR,E];rfl) ?_ ?_
   ·exact ((J.stay fun b o r z=>u b o (W8 (Y0 B r)) (n b o (W8 r) z))).snoc (fun a M=>J.lt M) lt (by rw [E];exact p) (u _ _ (W8 Q) N)
   ·exact Y0 lt (Vu (u _ _ (W8 Q) N))
  ·rw [a1R (by omega)] at p
   cases p
theorem O3 {r:Addr}{res:Value}{c0:Nat}(M:A.handled=none)(v:s.heap.IsItemsView r d)(g:RawD s.heap d es ep)(H:S≠r)(B:d≠S)(G:s.heap.get? S=some { cls:=.type "list",data:=.seq #[] c0 }) (O:es.size<=VA)
  (K:∀ (h':Wj)(tk:Nat)(l:Array Value)(c:Nat)(n:List Addr),(∀ b o,b≠S->s.heap.get? b=some o->h'.get? b=some o)->h'.get? S=some { cls:=.type "list",dict:=none,data:=.seq l c,slots:=#[] }->n.length=es.size->PrsAt es s.heap.objs.size h' n->l.toList=n.map Vz->R (.ok (.ret res)) { s with heap:=h',toks:=tk }) :
  VD (VM P w) A.in1 (a0C (.ref S) (.ref r) res) (fun fin q=>match fin with|.done f=>R (.ok f) q|.again c'=>c'.quiet=true/\ZM (VM P w) A c' R q) (fun e q=>R (.error e) q) s:=by
 have z:S<s.heap.objs.size:=Vu G
 have J:d<s.heap.objs.size:=g.lt
 have run:∀ (h:Wj)(u tk:Nat),(∀ b o,b≠S->(s.heap.push { cls:=.type "dict_itemiterator",data:=.fields #[.none,.bool false,.ref d,.int 0 0,.int es.size 0,.int ep 0,.none,.none] }).get? b=some o->h.get? b=some o)->h.get? S=some { cls:=.type "list",data:=.seq #[] u }->
   ZM (VM P w) A (.builtin "list.extend.loop" ⟨[.ref S,.ref s.heap.objs.size,res],[]⟩) R { s with heap:=h,toks:=tk }:=by
  intro h u tk x i
  have E:=x s.heap.objs.size _ (W8 z) (VC _ rfl)
  exact O2 (s:=s) (h1:=s.heap) (ep:=ep) M z B (VB J) O res (fun h' y l c n T U X Y Z=>K h' y l c n (fun b o m e=>T b o m (VB (Vu e)) e) U X Y Z) es.size 0 h tk u #[] [] (a2G _) (Wn _)
   ⟨.none,.none,.none,false,E,.inl rfl⟩ (g.stay fun o e=>x d o B (Vo _ e)) (fun b o m _ e=>x b o m (Vo _ e)) i rfl rfl ⟨a1Q,fun _ L=>(by cases L),fun j a N=>(by simp at N)⟩ (Vu E)
 unfold a0C
 refine Vl (ZK (T:="dict_items") v.typeIs ?_)
 simp only [show a0T (.ref S) (.ref r)=false by simp [a0T,H],show (Ws "dict_items" == Ws "list")=false by decide,show (Ws "dict_items" == Ws "tuple")=false by decide,a2g,Vy,if_false]
 refine Vl (O1 v g ?_)
 have i:=Vo { cls:=.type "dict_itemiterator",data:=.fields #[.none,.bool false,.ref d,.int 0 0,.int es.size 0,.int ep 0,.none,.none] } G
 refine Vl (Wi (PySem.W.kdx_hint (let ⟨o,Q,hc,_⟩:=v;⟨o,Vo _ Q,hc⟩) ?_))
 refine wpAny_ite_split (fun _=>?_) (fun _=>Vr ⟨Yq F.plain_extend_loop _,run _ c0 _ (fun b o _ e=>e) i⟩)
 refine Vl (a1i (Vl ?_))
 refine Vl (m:=updateSeq S (·.push .none)) (a2j i rfl ?_)
 have p:=WA (Xb (·.push Wb)) i rfl
 refine a2j (hz:=by seq_fits) p rfl (Vr ⟨Yq F.plain_extend_loop _,run _ _ _ (fun b o m e=>?_) (WA (Xb (·.pop)) p rfl)⟩)
 exact (Wr _ _ (WB m)).trans ((Wr _ _ (WB m)).trans e)
theorem O4 {r:Addr}{E:Value->Vp->Prop}{T:List Value->Vp->Prop}(J:A.handled=none)(z:s.heap.IsItemsView r d)(g:RawD s.heap d es ep)(K:es.size<=VA)
  (q:∀ (h':Wj)(tk:Nat)(i:List Addr),(∀ b o,s.heap.get? b=some o->h'.get? b=some o)->i.length=es.size->PrsAt es s.heap.objs.size h' i->s.heap.objs.size<=h'.objs.size->T (i.map Vz) { s with heap:=h',toks:=tk }):VD (VM P w) A (collect (.ref r)) T E s:=by
 have L:r<s.heap.objs.size:=let ⟨_,u,_⟩:=z;Vu u
 unfold collect
 refine Vl (wpAny_runValue (XS a5v ?_))
 rw [Xa F.plain_proto_collect _]
 refine Vl (m:=newList []) (W7 (Vr ⟨Yq F.plain_list_iadd _,XS a5w ?_⟩))
 rw [Xa F.plain_list_iadd _]
 have G:(s.heap.push { cls:=.type "list",data:=.seq ([]:List Value).toArray }).get? s.heap.objs.size=some { cls:=.type "list",data:=.seq #[] }:=VC _ rfl
 have all:=O3 (A:=A) (s:={ s with heap:=s.heap.push { cls:=.type "list",data:=.seq ([]:List Value).toArray } }) (P:=P) (w:=w) (es:=es) (ep:=ep) (res:=.ref s.heap.objs.size) (c0:=0)
  (R:=fun (q:a2E)(v:Vp)=>∃ (h':Wj)(tk:Nat)(h:Array Value)(c:Nat)(i:List Addr),q=.ok (.ret (.ref s.heap.objs.size))/\v = { s with heap:=h',toks:=tk }/\(∀ b o,s.heap.get? b=some o->h'.get? b=some o)/\h'.get? s.heap.objs.size=some { cls:=.type "list",dict:=none,data:=.seq h c,slots:=#[] }/\i.length=es.size/\PrsAt es s.heap.objs.size h' i/\h.toList=i.map Vz)
  J (let ⟨o,u,x⟩:=z;⟨o,Vo _ u,x⟩) (g.stay fun o e=>Vo _ e) (W8 L) (VB g.lt) G K
  (fun h' tk h c i m j n l p=>⟨h',tk,h,c,i,rfl,rfl,fun b o e=>m b o (VB (Vu e)) (Vo _ e),j,n,⟨l.up,fun a H=>Y0 (YD _) (by have:=l.over a H;rw [Yv] at this;exact this),l.prs⟩,p⟩)
 refine Wa all (fun fin v x=>?_) fun e v x=>?_
 ·cases fin with
  | done f=>
   obtain ⟨h',tk,h,c,i,e,rfl,m,j,n,l,p⟩:=x
   cases e
   refine Vl (m:=load s.heap.objs.size) (a1j j (Vr ?_))
   show T h.toList _
   rw [p]
   exact q h' tk i m n l (Y1 (Vu j))
  | again M=>
   refine ⟨x.1,ZL x.2 fun y N x=>?_⟩
   obtain ⟨h',tk,h,c,i,rfl,rfl,m,j,n,l,p⟩:=x
   refine Vl (m:=load s.heap.objs.size) (a1j j (Vr ?_))
   show T h.toList _
   rw [p]
   exact q h' tk i m n l (Y1 (Vu j))
 ·obtain ⟨_,_,_,_,_,B,_⟩:=x
  cases B
end
end L3
namespace L3
open PySem L2 PySem.W PyProof.Rows
section
variable {P:VQ}{w:V6}{A:VU}{E:Value->Vp->Prop}{s:Vp}
theorem O5 {v:Value}{Q:Bool->Vp->Prop}(q:Q true s):VD (VM P w) A (eqBool v v) Q E s:=by
 unfold eqBool
 refine Wi ?_
 rw [if_pos (by simp)]
 exact Vl (a1i (Vr q))
theorem DQ:∀ k:List Int,HT.lexLt k k=false
 | []=>rfl
 | a::k=>by simp [HT.lexLt,DQ k]
noncomputable def tW (P:VQ)(w:V6)(h:Wj)(b:Addr)(k:List Int):Prop:=Tb.IsT P w h k b/\∃ xs:List Value,Yu h b xs.toArray/\X6 xs k
theorem O6 {a h b i:Addr}{v m:Value}{k k':List Int}{C:Bool->Vp->Prop}(l:A.units<WX)(n:s.heap.get? a=some { cls:=.type "tuple",data:=.seq #[.ref b,v] }) (d:s.heap.get? h=some { cls:=.type "tuple",data:=.seq #[.ref i,m] })
  (j:tW P w s.heap b k)(c:tW P w s.heap i k')(o:k=k'->v=m)(q:C (HT.lexLt k k') s):VD (VM P w) A (keyLt' (tuples' false) (.ref a) (.ref h)) C (fun _ _=>False) s:=by
 refine kat_lt n rfl d rfl ?_
 refine kat_cons ((Xw (XW P w)).eqBool l j.1 c.1 ?_)
 by_cases e:k=k'
 ·obtain rfl:=o e
  subst e
  rw [decide_eq_true rfl]
  refine kat_yes (kat_cons (O5 (kat_yes (kat_nil ?_))))
  rw [DQ] at q
  exact q
 ·rw [decide_eq_false e]
  obtain ⟨y,u,p⟩:=j.2
  obtain ⟨z,x,r⟩:=c.2
  refine kat_no (kat_one _ _ (HT.lt_tupInts u x (by simpa using p) (by simpa using r) l ?_))
  exact q
noncomputable def oE (P:VQ)(w:V6)(A:VU)(us:List Value)(an:Nat->Nat->Bool)(s:Vp):Prop:=
 VD (VM P w) A (keyKind' us.toArray) (fun b a=>a=s/\∀ (i j:Nat)(C:Bool->Vp->Prop),i<us.length->j<us.length->C (an i j) s->VD (VM P w) A (keyLt' b (us.getD i .none) (us.getD j .none)) C (fun _ _=>False) s) (fun _ _=>False) s
theorem O7 {es:Array WD}{lo:Addr}{d bs:List Addr}{ks:List (List Int)}(hu:A.units<WX)(p:PrsAt es lo s.heap d)(h0:0<d.length)(hl:d.length=es.size)(hk:ks.length=es.size)(hbl:bs.length=es.size)(key:∀ (j:Nat)(e:WD),es[j]? = some e->e.key=.ref (bs.getD j 0)/\tW P w s.heap (bs.getD j 0) (ks.getD j []))
  (O:ks.Nodup):oE P w A (d.map Vz) (fun i j=>HT.lexLt (ks.getD i []) (ks.getD j [])) s:=by
 have m:∀ i,i<d.length->∃ (e:WD),es[i]? = some e/\s.heap.get? (d.getD i 0)=some { cls:=.type "tuple",data:=.seq #[.ref (bs.getD i 0),e.val] }/\tW P w s.heap (bs.getD i 0) (ks.getD i []):=fun i l=>by
  have R:d[i]? = some (d.getD i 0):=by simp [Wo,l]
  obtain ⟨e,G,u⟩:=p.prs i _ R
  obtain ⟨k1,H⟩:=key i e G
  rw [k1] at u
  exact ⟨e,G,u,H⟩
 unfold oE
 have B:KatTups s.heap (d.map Vz) (bs.map Vz):=by
  have go:∀ (n:Nat)(a c:List Addr),a.length=n->c.length=n->(∀ i,i<n->∃ v:Value,s.heap.get? (a.getD i 0)=some { cls:=.type "tuple",data:=.seq #[.ref (c.getD i 0),v] })->KatTups s.heap (a.map Vz) (c.map Vz):=by
   intro n
   induction n with
   | zero=>
    intro a c q r _
    rw [YQ.mp q,YQ.mp r]
    exact .nil
   | succ n ih=>
    intro a c q r N
    match a,c,q,r with
    | x::a,y::c,q,r=>
     obtain ⟨v,L⟩:=N 0 (by omega)
     refine .cons L rfl rfl (by simp) (ih a c (by simpa using q) (by simpa using r) fun i l=>?_)
     have:=N (i+1) (by omega)
     simpa using this
  refine go d.length d bs rfl (by omega) fun i l=>?_
  obtain ⟨e,_,u,_⟩:=m i l
  exact ⟨_,u⟩
 refine kat_kind (T:=.type "tuple") B (by rw [Vm];omega) (fun v L=>?_) (by decide) ⟨rfl,fun i j C l K Z=>?_⟩
 ·obtain ⟨b,hb,rfl⟩:=VY.mp L
  obtain ⟨i,l⟩:=a2I.mp hb
  have I:i<d.length:=by
   have:=(Vx.mp l).1
   omega
  obtain ⟨e,_,_,H⟩:=m i I
  have:bs.getD i 0=b:=by simp [Wo,l]
  rw [this] at H
  obtain ⟨xs,⟨o,o1,o2,_⟩,_⟩:=H.2
  exact kitAt_ty _ _ ⟨o,o1,o2⟩
 ·rw [Vm] at l K
  obtain ⟨e,G,u,Q⟩:=m i l
  obtain ⟨e',M,T,U⟩:=m j K
  have X:(d.map Vz).getD i .none=.ref (d.getD i 0):=by simp [Wo,l]
  have Y:(d.map Vz).getD j .none=.ref (d.getD j 0):=by simp [Wo,K]
  rw [X,Y]
  refine O6 hu u T Q U (fun z=>?_) Z
  have J:i=j:=by
   have q:ks.getD i []=ks[i]:=by simp [Wo,show i<ks.length by omega]
   have r:ks.getD j []=ks[j]:=by simp [Wo,show j<ks.length by omega]
   rw [q,r] at z
   rcases YZ i j with h|h|h
   ·exact absurd z ((WQ.mp O) i j (by omega) (by omega) h)
   ·exact h
   ·exact absurd z.symm ((WQ.mp O) j i (by omega) (by omega) h)
  subst J
  rw [G] at M
  cases M
  rfl
end
end L3
namespace L3
open PySem L2 PySem.W PyProof.Rows
section
variable {P:VQ}{w:V6}{A:VU}{E:Value->Vp->Prop}{s:Vp}
theorem DR {c:Addr}{us:List Value}{z:Nat}{R:PySem.Fin->Vp->Prop}{an:Nat->Nat->Bool}(M:2<=us.length)(m:us.length<64)(g:s.heap.get? c=some (WV "list" us.toArray z)) (H:∀ I:Wj,(∀ b o,b≠c->s.heap.get? b=some o->I.get? b=some o)->oE P w A us an { s with heap:=I })
  (q:R (.done (.ret .none)) { s with heap:=a1l s.heap c us ((cB an us.length).map fun i=>us.getD i Wb).toArray }):VD (VM P w) A (Builtin.«list.sort» ⟨[.ref c],[]⟩) R E s:=by
 rw [a5n]
 refine Vl (listItems_at g rfl (Vl (a1c g rfl ?_ (by rw [VG,VS];omega) (Wn _))))
 obtain ⟨y,B⟩:∃ y,(s.heap.update c (Xb fun _=>#[])).get? c=some (WV "list" #[] y):=⟨_,a5o g _⟩
 refine Vl (a2d B rfl (Vl (a2w (Vl (a0a (Wi ?_) (Wn _))) (by show us.length<=_;rw [VS];omega))))
 have G:(((s.heap.update c (Xb fun _=>#[])).push (WV "tuple" us.toArray 0)).push (WV "list" #[] 0)).get? c=some (WV "list" #[] y):=
  Vo _ (Vo _ B)
 have ask:=H (((s.heap.update c (Xb fun _=>#[])).push (WV "tuple" us.toArray 0)).push (WV "list" #[] 0)) fun b o O e=>Vo _ (Vo _ ((Wr _ _ (WB O)).trans e))
 show VD (VM P w) A _ R E ⟨((s.heap.update c (Xb fun _=>#[])).push (WV "tuple" us.toArray 0)).push (WV "list" #[] 0),s.gens,s.drawn,s.toks,s.os⟩
 dsimp only
 have h:¬ us.toArray.size<2:=by rw [VG];omega
 rw [if_neg h,if_neg h]
 refine Vl (Wa ask (fun X l n=>?_) fun _ _ x=>x.elim)
 obtain ⟨rfl,n⟩:=n
 refine Vl (Wa (kat_run (ks:=us) (vs:=us) (κ:=X) (Q:=fun a l=>l = { s with heap:=((s.heap.update c (Xb fun _=>#[])).push (WV "tuple" us.toArray 0)).push (WV "list" #[] 0) }/\failedOf a=none/\(arrOf a).map (·.2)=((cB an us.length).map fun i=>us.getD i Wb).toArray)
  (G:=fun p l=>l = { s with heap:=((s.heap.update c (Xb fun _=>#[])).push (WV "tuple" us.toArray 0)).push (WV "list" #[] 0) }/\p.toList=cB an us.length) rfl M m (fun p a l Y K L v=>⟨v.1,L,by rw [kat_snds rfl K,v.2]⟩)
  (xI (n:=us.length) (ans:=an) (fun i j C Q T N=>n i j C Q T N) (xM (by omega)) ⟨rfl,rfl⟩)) (fun r l U=>?_) fun _ _ e=>e)
 obtain ⟨⟨⟩,a⟩:=r
 obtain ⟨rfl,J,d⟩:=U
 dsimp only at J d ⊢
 rw [d]
 have u:((cB an us.length).map fun i=>us.getD i Wb).length=us.length:=by
  rw [Vm,(jT an (n:=us.length) (by omega)).length_eq,a0O]
 refine Vl (a2d G rfl (Vl (a1c G rfl ?_ (hsz2:=by rw [VG,u,VS];omega))))
 rw [J]
 simp only [bne_self_eq_false,Vy,if_false]
 exact Vr q
theorem O8 {r d:Addr}{es:Array WD}{ep:Nat}{Q:Value->Vp->Prop}{an:Nat->Nat->Bool}(N:A.handled=none)(O:s.heap.IsItemsView r d)(g:RawD s.heap d es ep)(J:es.size<64)
  (H:2<=es.size->∀ (j:Wj)(tk:Nat)(c:List Addr),(∀ b o,s.heap.get? b=some o->j.get? b=some o)->c.length=es.size->PrsAt es s.heap.objs.size j c->oE P w A.in1.in1 (c.map Vz) an { s with heap:=j,toks:=tk })
  (q:∀ (j:Wj)(tk:Nat)(c:List Addr)(L e:Nat),(∀ b o,s.heap.get? b=some o->j.get? b=some o)->c.length=es.size->PrsAt es s.heap.objs.size j c->s.heap.objs.size<=L->(∀ a∈c,a≠L)->j.get? L=some (WV "list" ((cB an es.size).map fun i=>Vz (c.getD i 0)).toArray e)->Q (.ref L) { s with heap:=j,toks:=tk }) :
  VD (VM P w) A (call (.builtin "sorted") [.ref r]) Q E s:=by
 refine ZF a3Y a3s a3u (a3w _) ?_
 unfold a0B
 refine Vl (m:=a4y "sorted" 1 1 _) (Vr (Vl (O4 (A:=A.in1) N O g (by rw [VS];omega) fun h tk c G u z n=>?_)))
 have I:(c.map Vz).length=es.size:=by rw [Vm,u]
 refine Vl (a0a ?_ (by rw [I,VS];omega))
 have m:(h.push (WV "list" (c.map Vz).toArray 0)).get? h.objs.size=some (WV "list" (c.map Vz).toArray 0):=VC _ rfl
 have fin:∀ l:List Value,l=((cB an es.size).map fun i=>Vz (c.getD i 0))->Q (.ref h.objs.size) { s with heap:=a1l (h.push (WV "list" (c.map Vz).toArray 0)) h.objs.size (c.map Vz) l.toArray,toks:=tk }:=by
  rintro l rfl
  obtain ⟨e,M⟩:=sortedHeap_at (h:=h.push (WV "list" (c.map Vz).toArray 0)) (out:=((cB an es.size).map fun i=>Vz (c.getD i 0)).toArray) m
  have p:∀ b o,h.get? b=some o->(a1l (h.push (WV "list" (c.map Vz).toArray 0)) h.objs.size (c.map Vz) ((cB an es.size).map fun i=>Vz (c.getD i 0)).toArray).get? b=some o:=fun b o x=>by
   rw [a5O (VB (Vu x)) (by rw [Yv];exact ZS (Vu x))]
   exact Vo _ x
  exact q _ tk c h.objs.size e (fun b o x=>p b o (G b o x)) u (z.stay fun b o _ x=>p b o x) n (fun a K=>VB (z.lt K)) M
 by_cases v:2<=es.size
 ·refine Vl (Wi (W0 ZW (s:={ s with heap:=h.push (WV "list" (c.map Vz).toArray 0),toks:=tk }) ⟨_,m,rfl⟩ ZC (DR (an:=an) (by omega) (by omega) m (fun j B=>?_) ⟨_,rfl,?_⟩) (ZY _)))
  ·exact H v j tk c (fun b o e=>B b o (VB (VL (Vu e) n)) (Vo _ (G b o e))) u (z.stay fun b o R e=>B b o (VB (Vu e)) (Vo _ e))
  ·refine Vr ⟨_,rfl,fin _ ?_⟩
   rw [I]
   refine YE fun i y=>?_
   have y:i<c.length:=by
    have:=WT.mp ((sU an es.size).mem_iff.mp y)
    omega
   simp [Wo,y]
 ·refine Vl (Wi (W0 ZW (s:={ s with heap:=h.push (WV "list" (c.map Vz).toArray 0),toks:=tk }) ⟨_,m,rfl⟩ ZC (xO (by omega) m ⟨_,rfl,?_⟩) (ZY _)))
  refine Vr ⟨_,rfl,fin (c.map Vz) ?_⟩
  match c,u with
  | [],e=>rw [<- e];show []=(cB _ 0).map _;rw [xQ];rfl
  | [b],e=>rw [<- e];show [Vz b]=(cB _ 1).map _;rw [xP];rfl
  | _::_::_,e=>rw [<- e] at v;simp at v
end
end L3
namespace L3
open PySem L2
section
variable {P:VQ}{w:V6}{A:VU}{E:Value->Vp->Prop}{s:Vp}{a:Addr}
theorem O9:X0 (.type "list") "keys" = pure none:=by rw [a5l,a3L];kernel_rfl
theorem Pa {o:WY}{xs:Array Value}{k:Nat}{Q:Option Value->Vp->Prop}(g:s.heap.get? a=some o)(j:o.cls=.type "list") (l:o.data=.seq xs k)(m:o.dict=none)(y:A.handled=none)
  (q:∀ h n,(∀ b u,s.heap.get? b=some u->h.get? b=some u)->Q none { s with heap:=h,toks:=n }):VD (VM P w) A (a3Z (.ref a) "keys") Q E s:=by
 obtain ⟨c,r,p,G⟩:=o
 dsimp only at j l m
 subst j l m
 obtain ⟨z,x,v,n,B⟩:=s
 have ty:∀ d,(⟨z,x,v,d,B⟩:Vp).TypeIs (.ref a) "list":=fun _=>⟨_,g,rfl⟩
 have H:=a4u
 have I:=F.slot_list_getattribute.lookup
 have J:=F.slot_list_getattribute.bind (.ref a)
 have K:=am_list_getattr_none
 unfold a3Z getAttrBy? getAttrBy
 repeat (any_goals (first|assumption|exact ty _|((with_reducible show VD _ _ (call (Xl "list.__getattribute__") _ _) _ _ _);refine Zr F.slot_list_getattribute (ty _) am_entry_list_getattribute (F.args_list_getattribute_2 _ _) (meets_getattribute_miss_list a xs k G "keys" _ O9 (by decide +kernel)) ⟨g,y,fun h d e ne=>?_⟩)|wp_step))
 obtain ⟨L,M,i⟩:=ne.there
 show VD _ _ (ZX _ _ _ _ none false false) _ _ _
 unfold ZX
 repeat (any_goals (first|assumption|wp_step))
 exact q _ _ ne.of.keeps
end
section
variable {X:Cx}{a5X:List (Addr×WY)}{σ:St}{A:VU}{d l it:Addr}{items:Array Value}{R:a2E->Vp->Prop}
theorem Pb (hh:A.handled=none)(hu:A.in1.units<WX)(ld:l≠d)(li:l≠it):∀ (L:List (Addr×List Int×Addr×V))(i:Nat)(ps:bV)(H:Hp)(s:Vp),Inv X a5X σ H s->H d=some (aY d ps)->dH X.K H ps->s.heap.IsList l items->items.toList.drop i=L.map (fun r=>Vz r.1)->
  (∀ r∈L,(∃ u,RelV r.2.2.2 u/\Yu s.heap r.1 #[.ref r.2.2.1,u])/\SqT X.K H r.2.2.1 (r.2.1.map V.int)/\r.1≠d/\r.1≠it)->fH X a5X H it->s.heap.IsListIter it l i->ps.length+L.length<=VA->
  (∀ n,Inv X a5X σ (aK H d (aY d (fQ ps L))) n->R (.ok (.ret .none)) n)->ZM (VM X.prog X.w) A (.builtin "dict.update.loop" ⟨[.ref d,.ref it,XR i,.none],[]⟩) R s:=by
 intro L
 induction L with
 | nil=>
  intro i ps H s I e Q G hd U O st Z q
  obtain ⟨h,v,f2,w,y,B⟩:=O
  have j:items.size<=i:=by
   have:=congrArg Wm hd
   simp at this
   omega
  refine XS tU ?_
  rw [Xa kU _]
  show VD _ A.in1 (ZA (.ref it) >>= _) _ _ s
  refine Vl (a0x hh st G (YU j) fun E eb=>?_)
  have K:Inv X a5X σ H { s with heap:=E }:=I.turned (t':=s.toks) (fun b o M e=>eb b o M e) h v w y B
  show VD _ _ (a0U d [] >>= _) _ _ _
  refine Vl (Vr (Vr (q _ ?_)))
  have:aK H d (aY d (fQ ps []))=H:=by
   funext b
   unfold aK
   split
   ·rename_i z;rw [z];exact e.symm
   ·rfl
  rw [this]
  exact K
 | cons r L ih=>
  intro i ps H s I e Q G hd U O st Z q
  obtain ⟨h,v,f2,w,y,B⟩:=id O
  have Y:items[i]? = some (.ref r.1):=by
   have:=congrArg (·[0]?) hd
   simpa using this
  refine XS tU ?_
  rw [Xa kU _]
  show VD _ A.in1 (ZA (.ref it) >>= _) _ _ s
  refine Vl (a0o st G Y fun E st' J=>?_)
  have K:Inv X a5X σ H { s with heap:=E }:=I.turned (t':=s.toks) (fun b o M e=>(J.2 b M).trans e) h v w y B
  obtain ⟨⟨u,ru,t0⟩,sq,r1,r2⟩:=U r (VO ..)
  have t1:Yu ({ s with heap:=E }:Vp).heap r.1 #[.ref r.2.2.1,u]:=let ⟨o,o1,m⟩:=t0;⟨o,J.extBut _ o r2 o1,m⟩
  refine Vl (Wi (Vl (a5L (DK t1 ?_))))
  have T:ps.length<VA:=by
   rw [V1] at Z
   omega
  refine Wi (yI hu K e Q sq T ru fun n I2 kp=>?_)
  refine Vr ⟨Yq kU _,?_⟩
  have bM:it≠d:=fun z=>by
   rw [<- z,h] at e
   cases e
  have a:∀ x∈L,(∃ u,RelV x.2.2.2 u/\Yu n.heap x.1 #[.ref x.2.2.1,u])/\SqT X.K (aK H d (aY d (dO ps r.2.1 r.2.2.1 r.2.2.2))) x.2.2.1 (x.2.1.map V.int)/\x.1≠d/\x.1≠it:=fun x Y=>by
   obtain ⟨⟨u',ru',⟨o,o1,m⟩⟩,sq',x1,x2⟩:=U x (VI _ Y)
   exact ⟨⟨u',ru',o,kp _ o x1 (J.extBut _ o x2 o1),m⟩,kW e sq',x1,x2⟩
  have N:items.toList.drop (i+1)=L.map (fun r=>Vz r.1):=by
   have:=congrArg a5W hd
   simpa [a4l] using this
  refine ih (i+1) (dO ps r.2.1 r.2.2.1 r.2.2.2) _ n I2 cG (DJ (fun p hp=>kW e (Q p hp)) (kW e sq)) ?_ N a ⟨by rw [a8 bM];exact h,v,f2,w,y,B⟩ (st'.at fun o ho=>kp it o bM ho) ?_ fun s'' c=>q s'' ?_
  ·obtain ⟨o,o1,m⟩:=G
   exact ⟨o,kp l o ld (J.extBut l o li o1),m⟩
  ·have:=tN ps r.2.1 r.2.2.1 r.2.2.2
   rw [V1] at Z
   omega
  ·rw [tV] at c
   exact c
end
end L3
namespace L3
open PySem L2
theorem DS:∀ (L:List (Addr×List Int×Addr×V))(ps:bV),(ps.map (·.1)++L.map (·.2.1)).Nodup->fQ ps L=ps++L.map (·.2)
 | [],ps,_=>by simp [fQ]
 | r::L,ps,h=>by
  have d:r.2.1∉ps.map (·.1):=fun z=>by
   rw [VE] at h
   exact (a0N.mp h).2.2 _ z _ (VO ..) rfl
  have e:dO ps r.2.1 r.2.2.1 r.2.2.2=ps++[r.2]:=by
   unfold dO
   rw [if_neg]
   intro z
   obtain ⟨v,c⟩:=W5.mp z
   unfold eU at c
   obtain ⟨p,a,_⟩:=Vn.mp c
   have b:=a4d a
   simp only [decide_eq_true_eq] at b
   exact d (VY.mpr ⟨p,ZI a,b⟩)
  show fQ (dO ps r.2.1 r.2.2.1 r.2.2.2) L=_
  rw [e,DS L _ (by simpa using h)]
  simp
section
variable {X:Cx}{a5X:List (Addr×WY)}{σ:St}{H:Hp}{s:Vp}
theorem Pc (hc:X.calm=true)(U:X.A.units+64<WX)(I:Inv X a5X σ H s){l:Addr}{e:Nat}{L:List (Addr×List Int×Addr×V)}{Q:VK}(B:s.heap.get? l=some { cls:=.type "list",data:=.seq (L.map fun r=>Vz r.1).toArray e }) (O:L.length<=VA)
  (T:∀ r∈L,(∃ u,RelV r.2.2.2 u/\Yu s.heap r.1 #[.ref r.2.2.1,u])/\SqT X.K H r.2.2.1 (r.2.1.map V.int))(k:∀ d,H d=none->Q (.ref d) (aK H d (aY d (fQ [] L)))) :
  VD (VM X.prog X.w) X.A (call (.type "dict") [.ref l]) (EP X a5X σ Q) X.xe s:=by
 have K:H s.heap.objs.size=none:=I.hok.fresh (Vv _)
 refine a2A (Q₁:=fun j a=>j=.ref s.heap.objs.size/\a = { s with heap:=s.heap.push { cls:=.type "dict",data:=.dict #[] } }) F.kt_called_dict (F.kt_typeCall_dict_1 _) F.entry_dict_init (a1V _ ⟨rfl,rfl⟩) ?_
 rintro j a ⟨rfl,rfl⟩
 have M:Inv X a5X σ (aK H s.heap.objs.size (aY s.heap.objs.size [])) { s with heap:=s.heap.push { cls:=.type "dict",data:=.dict #[] } }:=I.laid (a:=s.heap.objs.size) (o:=aY s.heap.objs.size []) (t':=s.toks) (fun _ _ q=>Vo _ q) (Vv _) (tQ s.heap I.big)
 have ty:({ s with heap:=s.heap.push { cls:=.type "dict",data:=.dict #[] } }:Vp).TypeIs (.ref s.heap.objs.size) "dict":=⟨_,VC _ rfl,rfl⟩
 refine ⟨ty,F.args_dict_init_2 _ _,?_⟩
 unfold Builtin.«dict.__init__»
 refine Vl ?_
 unfold Zn
 refine Vl (W9 ty ?_)
 show VD _ _ (pure (s.heap.objs.size,[Vz l])) _ _ _
 refine Vr ?_
 show VD _ _ (Xj "dict.__init__" s.heap.objs.size (.ref l) [] .none) _ _ _
 unfold Xj
 have mono:∀ {b:Addr}{vs:List V},SqT X.K H b vs->SqT X.K (aK H s.heap.objs.size (aY s.heap.objs.size [])) b vs:=fun {b vs} z=>by
  have ne:H b≠none->b≠s.heap.objs.size:=fun f y=>by rw [y] at f;exact f K
  rcases z with (z|⟨Y,z⟩)|z
  ·exact .inl (.inl (by rw [a8 (ne (by rw [z];exact fun y=>nomatch y))];exact z))
  ·exact .inl (.inr ⟨Y,by rw [a8 (ne (by rw [z];exact fun y=>nomatch y))];exact z⟩)
  ·exact .inr z
 have A:=Vo { cls:=.type "dict",data:=.dict #[] } B
 refine Vl (ZK (T:="list") ⟨_,A,rfl⟩ ?_)
 rw [if_pos (by decide)]
 refine Vl (Pa A rfl rfl rfl (I.ok.hd hc) fun m v n=>?_)
 have w:Inv X a5X σ (aK H s.heap.objs.size (aY s.heap.objs.size [])) { s with heap:=m,toks:=v }:=M.kept (t':=v) n
 show VD _ _ (rule _ >>= _) _ _ _
 refine Vl (a1i ?_)
 have c:({ s with heap:=m,toks:=v }:Vp).heap.IsList l (L.map fun r=>Vz r.1).toArray:=⟨_,n _ _ A,rfl,_,rfl⟩
 refine Vl (Yz c ?_)
 have N:=w.kept (t':=v) (h':=m.push { cls:=.type "list_iterator",data:=.fields #[.ref l,.int 0 0] }) fun b o e=>Vo _ e
 refine Vr ⟨Yq kU _,?_⟩
 have h:∀ {b:Addr}{o:WY},s.heap.get? b=some o->b≠s.heap.objs.size:=fun x=>VB (Vu x)
 have i:∀ {b:Addr}{o:WY},s.heap.get? b=some o->b≠m.objs.size:=fun x=>VB (Vu (n _ _ (Vo _ x)))
 refine Pb (A:=X.A.in1) (items:=(L.map fun r=>Vz r.1).toArray) (I.ok.hd hc) (by show X.A.units+1+1<WX;omega) (h B) (i B) L 0 [] _ _ N cG (fun p R=>nomatch R) (let ⟨o,o1,G⟩:=c;⟨o,Vo _ o1,G⟩) (by simp) (fun r E=>?_) (w.fpOk (Vv _) (w.hok.fresh (Vv _))) ⟨_,VC _ rfl,rfl,rfl⟩ (by simpa using O) fun s' J=>?_
 ·obtain ⟨⟨u,Z,o,o1,G⟩,sq⟩:=T r E
  exact ⟨⟨u,Z,o,Vo _ (n _ _ (Vo _ o1)),G⟩,mono sq,h o1,i o1⟩
 ·rw [tV] at J
  exact ⟨rfl,.ref s.heap.objs.size,_,J,rfl,k _ K⟩
end
end L3
namespace L3
open PySem L2
noncomputable def fD (ps:bV):bV:=(cB (fun i j=>HT.lexLt ((ps.map (·.1)).getD i []) ((ps.map (·.1)).getD j [])) ps.length).map fun i=>ps.getD i ([],0,.non)
theorem sortT_perm {ps:bV}:(fD ps).Perm ps:=by
 unfold fD
 have p:=(sU (fun i j=>HT.lexLt ((ps.map (·.1)).getD i []) ((ps.map (·.1)).getD j [])) ps.length).map fun i=>ps.getD i ([],0,.non)
 have e:(Wc ps.length).map (fun i=>ps.getD i ([],0,.non))=ps:=by
  refine a3T (by simp) fun i b a=>?_
  simp [Wo,a]
 rw [e] at p
 exact p
section
variable {X:Cx}{a5X:List (Addr×WY)}{σ:St}{H:Hp}{s:Vp}
theorem Pd (hc:X.calm=true)(T:X.A.units+64<WX)(I:Inv X a5X σ H s){d r:Addr}{ps:bV}{Q:VK}(e:H d=some (aY d ps))(N:dH X.K H ps)(h2:2<=ps.length)(h64:ps.length<64)(hv:s.heap.IsItemsView r d)(k:∀ l,H l=none->Q (.ref l) (aK H l (aY l (fD ps)))) :
  VD (VM X.prog X.w) X.A (call (.builtin "sorted") [.ref r]) (fun v s'=>VD (VM X.prog X.w) X.A (call (.type "dict") [v]) (EP X a5X σ Q) X.xe s') X.xe s:=by
 obtain ⟨lo,hl,G,rv,z,es,ep,z1,z2,z3,z4,z5,z6⟩:=i9 I (.of e) N
 have U:G.length=ps.length:=by
  have:=rv.length
  rw [Vm] at this
  exact this.symm
 have Y:(bO ps G).length=ps.length:=by unfold bO;rw [List.length_zipWith,U,Nat.min_self]
 have m:es.size=ps.length:=by rw [<- XT,z4,Vm,Y]
 have nd:(ps.map (·.1)).Nodup:=by rw [kT rv] at z6;exact z6
 have w:∀ (j:Nat)(a:WD),es[j]? = some a->∃ p u,ps[j]? = some p/\G[j]? = some u/\a.key=.ref p.2.1/\a.val=u:=fun j a h=>by
  rw [<- XC,z4,V0] at h
  obtain ⟨x,b,rfl⟩:=Vn.mp h
  unfold bO at b
  rw [a2J] at b
  cases R:ps[j]? with
  | none=>rw [R] at b;simp at b
  | some p=>
   cases hw:G[j]? with
   | none=>rw [R,hw] at b;simp at b
   | some u=>
    rw [R,hw] at b
    have:(p.1,p.2.1,u)=x:=by simpa using b
    subst this
    exact ⟨p,u,rfl,rfl,rfl,rfl⟩
 refine O8 (an:=fun i j=>HT.lexLt ((ps.map (·.1)).getD i []) ((ps.map (·.1)).getD j [])) (I.ok.hd hc) hv ⟨z,z1,z2,z3⟩ (by omega) (fun h22 E q o Z al pr=>?_) (fun E q o L a Z al pr hL nL J=>?_)
 ·have B:Inv X a5X σ H { s with heap:=E,toks:=q }:=I.kept (t':=q) Z
  refine O7 (A:=X.A.in1.in1) (s:={ s with heap:=E,toks:=q }) (bs:=ps.map (·.2.1)) (ks:=ps.map (·.1)) (by show X.A.units+1+1<WX;omega) pr (by omega) al (by rw [Vm,m]) (by rw [Vm,m]) (fun j a hj=>?_) nd
  obtain ⟨p,u,c,p2,p3,p4⟩:=w j a hj
  have hjl:j<ps.length:=(Vx.mp c).1
  have eb:(ps.map (·.2.1)).getD j 0=p.2.1:=by simp [Wo,c]
  have ek:(ps.map (·.1)).getD j []=p.1:=by simp [Wo,c]
  rw [eb,ek]
  have sq:=N p (V8 c)
  refine ⟨p3,mD B sq,?_⟩
  obtain ⟨xs,rx,t,_⟩:=B.tuple sq
  exact ⟨xs,t,CO rx⟩
 ·have B:Inv X a5X σ H { s with heap:=E,toks:=q }:=I.kept (t':=q) Z
  rw [m] at J
  have n:=(jT (fun i j=>HT.lexLt ((ps.map (·.1)).getD i []) ((ps.map (·.1)).getD j [])) (n:=ps.length) (by omega))
  have y:∀ i∈cB (fun i j=>HT.lexLt ((ps.map (·.1)).getD i []) ((ps.map (·.1)).getD j [])) ps.length,i<ps.length:=fun i K=>WT.mp (n.mem_iff.mp K)
  generalize hix:cB (fun i j=>HT.lexLt ((ps.map (·.1)).getD i []) ((ps.map (·.1)).getD j [])) ps.length=ix at J n y
  have A:fD ps=ix.map fun i=>ps.getD i ([],0,.non):=by unfold fD;rw [hix]
  refine Pc hc T B (L:=ix.map fun i=>(o.getD i 0,ps.getD i ([],0,.non))) (e:=a) ?_ (by rw [Vm,n.length_eq,a0O];exact hl) (fun r hr=>?_) fun l O=>?_
  ·rw [VN]
   exact J
  ·obtain ⟨i,K,rfl⟩:=VY.mp hr
   have hi':=y i K
   have M:o[i]? = some (o.getD i 0):=by simp [Wo,show i<o.length by omega]
   obtain ⟨x,x1,x2⟩:=pr.prs i _ M
   obtain ⟨p,u,c,p2,p3,p4⟩:=w i x x1
   have ep:ps.getD i ([],0,.non)=p:=by simp [Wo,c]
   dsimp only
   rw [ep]
   obtain ⟨u',g1,g2⟩:=rv.get (i:=i) (x:=p.2.2) (by rw [V0,c];rfl)
   rw [p2] at g1
   cases g1
   rw [p3,p4] at x2
   exact ⟨⟨u,g2,_,x2,rfl,_,rfl⟩,N p (V8 c)⟩
  ·have hf:fQ [] (ix.map fun i=>(o.getD i 0,ps.getD i ([],0,.non)))=fD ps:=by
    rw [DS _ [] ?_,V2,VN,A]
    ·rfl
    ·rw [Z6,V2,VN]
     have pm:=(sortT_perm (ps:=ps)).map (·.1)
     rw [A,VN] at pm
     exact pm.nodup_iff.mpr nd
   rw [hf]
   exact k l O
end
end L3
namespace L3
open PySem L2
section
variable {P:VQ}{w:V6}
theorem Pe (d:Addr)(hd:(d == WL)=false):MeetsIn P w (Builtin.«dict.items» ⟨[.ref d],[]⟩) (fun _ R s=>(∃ es ep,RawD s.heap d es ep) /\
   R (.ok (.ret (.ref s.heap.objs.size))) { s with heap:=s.heap.push { cls:=.type "dict_items",data:=.fields #[.ref d] } }):=
 .of_wp fun A R s ⟨⟨es,ep,g⟩,h⟩=>by
  unfold Builtin.«dict.items»
  refine Vl ?_
  unfold a1J
  refine Vl (W9 g.ty ?_)
  show VD _ _ (pure d) _ _ s
  refine Vr ?_
  show VD _ _ (Xs d >>= _) _ _ s
  unfold Xs
  rw [if_neg (by rw [hd];exact V7)]
  refine Vl (Vr ?_)
  exact Vl (W7 (Vr ⟨_,rfl,h⟩))
end
noncomputable def DT (K:Vk):V->List V->Hp->VK->Prop:=fun x _ H Q=>∃ a ps,x=.ref a/\H a=some (aY a ps)/\dH K H ps/\2<=ps.length/\ps.length<64/\∀ l,H l=none->Q (.ref l) (aK H l (aY l (fD ps)))
section
variable {X:Cx}{o:Expr}{to:TE}{apos cpos p p2 pos pos2:W4}
theorem Pf (hc:X.calm=true)(y:X.A.units+64<WX)(u:X.mg "sorted" = none) (w:X.mg "dict" = none) (n:Gl X "sorted") (r:Gl X "dict") (T:PE X o to)
  (c:Ys o "items" X.env (eval o X.env)=eval o X.env) (d:(apos.endLine == cpos.line)=true) :
  PE X (.Call (.Name "dict" p) [.Call (.Name "sorted" p2) [.Call (.Attribute o "items" apos) [] [] cpos] [] pos2] [] pos) (fun j H Q=>to j H fun x l=>DT X.K x [] l Q):=by
 intro i s j H Q I h
 refine Xo (jI I r w X3 ?_)
 refine Xm ?_ rfl rfl
 refine a0A ?_
 refine Xo (jI I n u YO ?_)
 refine YK ?_ rfl rfl
 refine a0A ?_
 refine a0h c d (aP (T i s j H _ I h) fun v A ⟨x,l,B,Z,a,ps,M,e,E,R,m,q⟩=>?_)
 subst M
 obtain rfl:v=Vz a:=Z
 obtain ⟨Y,hl,L,K,g,he⟩:=mI B e E
 refine ⟨"dict","dict.items",a1O,a1L,PySem.F.type_dict_items,g.ty,fun b J=>?_,YT rfl (a0q ?_)⟩
 ·cases J
  obtain ⟨z,N,O,_⟩:=g
  exact ⟨z,N,O.2.1⟩
 refine a3v a1L g.ty PySem.F.entry_dict_items (PySem.F.args_dict_items_1 _) (Pe a Y) ⟨⟨L,K,g⟩,?_⟩
 refine a0K ?_
 have G:Inv X i j l { A with heap:=A.heap.push { cls:=.type "dict_items",data:=.fields #[.ref a] } }:=B.kept (t':=A.toks) fun b o e=>Vo _ e
 refine aP (Pd hc y G e E R m ⟨_,VC _ rfl,rfl,rfl⟩ q) fun v s' U=>a0K U
end
noncomputable def dY (kvs:List (List Int×D)):List (List Int×D):=(cB (fun i j=>HT.lexLt ((kvs.map (·.1)).getD i []) ((kvs.map (·.1)).getD j [])) kvs.length).map fun i=>kvs.getD i ([],.non)
noncomputable def oF:D->Hm->Option (D×Hm)
 | .loc a,μ=>match μ[a]? with
  | some (.dT kvs)=>if 2<=kvs.length/\kvs.length<64 then some (.loc μ.length,μ++[.dT (dY kvs)]) else none
  | _=>none
 | _,_=>none
noncomputable def mK (m:ME):ME:=fun b a=>(m b a).bind fun r=>oF r.1 r.2
theorem Pg {c d:Type}{R:c->d->Prop}{a:List c}{bs:List d}(h:Zc R a bs)(j:c)(l:d):∀ i,i<a.length->R (a.getD i j) (bs.getD i l):=by
 induction h with
 | nil=>exact fun i b=>nomatch b
 | cons e t m=>
  intro i b
  cases i with
  | zero=>exact e
  | succ i=>exact m i (by simpa using b)
theorem DU {a b:Type}{R:a->b->Prop}{f:Nat->a}{g:Nat->b}:∀ {l:List Nat},(∀ i∈l,R (f i) (g i))->Zc R (l.map f) (l.map g)
 | [],_=>.nil
 | i::l,h=>.cons (h i (VO ..)) (DU fun j c=>h j (VI _ c))
theorem DV {K:Vk}{π:Nat->Addr}{n:Nat}{H:Hp}{ps:bV}{kvs:List (List Int×D)}(h:IsTs K π n H ps kvs):ps.length=kvs.length/\IsTs K π n H (fD ps) (dY kvs):=by
 have a:=h.to.1
 have b:ps.length=kvs.length:=by
  have:=congrArg Wm a
  simpa using this
 refine ⟨b,?_⟩
 unfold fD dY
 rw [a,b]
 refine DU fun i c=>Pg h _ _ i ?_
 have:=WT.mp ((sU _ kvs.length).mem_iff.mp c)
 omega
theorem Ph {K:Vk}{j:ME}:∀ σ H Q,tM K (mK j) σ H Q->tM K j σ H fun x h=>DT K x [] h Q:=by
 rintro σ H Q ⟨z,B,w,d,y,R,E,a,k⟩
 obtain ⟨⟨x,e⟩,r,a⟩:=Vj.mp a
 refine ⟨z,B,w,x,e,R,E,r,fun A L h o i u=>?_⟩
 have v:=k.after o
 dsimp only at a
 unfold oF at a
 split at a
 ·split at a
  ·rename_i c hc
   split at a
   ·rename_i I
    cases a
    cases u
    obtain ⟨m,p,T⟩:=gE i hc
    obtain ⟨G,b⟩:=DV T
    refine ⟨_,m,rfl,p,T.keys,by omega,by omega,fun l s=>?_⟩
    obtain ⟨q,n,J⟩:=i.alloc (c:=.dT (dY c)) (o:=aY l (fD m)) s ⟨_,rfl,b.to.1,b.to.2.1,b.to.2.2⟩
    exact v _ _ _ q n fL
   ·cases a
  ·cases a
 ·cases a
theorem Pj {X:Cx}{o:Expr}{l:ME}{a b p r pos c:W4}(hc:X.calm=true)(j:X.A.units+64<WX)(h:X.mg "sorted" = none) (i:X.mg "dict" = none) (d:Gl X "sorted") (e:Gl X "dict") (n:QE X o l)(q:i0 o=true)(m:(a.endLine == b.line)=true) :
  QE X (.Call (.Name "dict" p) [.Call (.Name "sorted" r) [.Call (.Attribute o "items" a) [] [] b] [] c] [] pos) (mK l):=
 ⟨cW (Pf hc j h i d e n.h (kM q) m) Ph⟩
end L3
namespace L3
open PySem L2
noncomputable def mL (mk mv:ME):ME:=fun b a=>(mk b (a++[.dT []])).bind fun p=>(mv b p.2).bind fun q=>match q.2[a.length]? with
 | some (.dT [])=>(eH p.1).map fun k=>(.loc a.length,q.2.set a.length (.dT [(k,q.1)]))
 | _=>none
section
variable {X:Cx}{k v:Expr}{mk mv:ME}{tk tv:TE}{pos:W4}
noncomputable def Pk (K:Vk)(tk tv:TE):TE:=fun σ H Q=>∀ p,H p=none->tk σ (aK H p (aY p [])) fun x d=>tv σ d fun y a=>a p=some (aY p [])/\∃ b c,x=.ref b/\SqT K a b (c.map V.int)/\Q (.ref p) (aK a p (aY p [(c,b,y)]))
theorem Pl (L:X.A.units+1<WX)(o:PE X k tk)(z:PE X v tv):PE X (.Dict [some k] [v] pos) (Pk X.K tk tv):=by
 intro a s c H Q I q
 have r:=I.hok.fresh (Vv s.heap.objs.size)
 have i:=I.laid (a:=s.heap.objs.size) (o:=aY s.heap.objs.size []) (h':=s.heap.push { cls:=.type "dict",data:=.dict #[] }) (t':=s.toks) (fun _ _ q=>Vo _ q) (Vv _) (tQ s.heap I.big)
 refine wpAny_Dict_any rfl rfl (by simp) (by simp) (pairTrees_cons_walk (aP (o a _ c _ _ i (q _ r)) fun u J ⟨x,d,j,E,A⟩=>aP (z a J c d _ j A) fun R O ⟨y,K,l,G,e,b,M,m,n,B⟩=>pairTrees_nil_walk ?_))
 subst m
 obtain rfl:u=Vz b:=E
 unfold storeAll
 refine Vl (Vl (yI (by omega) l e (fun p w=>nomatch w) n (by rw [VS];simp) G fun N h _=>Vr (Vr ?_)))
 exact ⟨.ref s.heap.objs.size,_,h,rfl,B⟩
theorem Pm {n:Nat}(hr:Room n X.A)(Y:QE X k mk)(hv:QE X v mv):QE X (.Dict [some k] [v] pos) (mL mk mv):=⟨cW (Pl (eT hr) Y.h hv.h) (by
 rintro σ H Q ⟨π,L,i,d,μ',R,E,a,kc⟩ p Z
 obtain ⟨⟨x,c⟩,O,a⟩:=Vj.mp a
 obtain ⟨⟨y,e⟩,U,a⟩:=Vj.mp a
 obtain ⟨r,N,q1⟩:=R.alloc (c:=.dT []) (o:=aY p []) Z ⟨[],rfl,rfl,.nil,.nil⟩
 refine ⟨_,L,_,x,c,N,E.mono r,O,fun A v1 H1 o R2 i1=>⟨A,L,c,y,e,R2,(E.mono r).mono o,U,fun h K M s B i2=>?_⟩⟩
 dsimp only at a
 split at a
 ·rename_i hc
  obtain ⟨m,w,a⟩:=Vn.mp a
  cases a
  have j:i.length<e.length:=(Vx.mp hc).1
  have z:(i++[C.dT []]).length<=c.length:=o.le
  have l:h i.length=p:=by rw [s.pi i.length (by simp at z;omega),o.pi i.length (by simp),q1]
  obtain ⟨ps,u,T⟩:=gE B hc
  cases T
  obtain ⟨b,rfl,J⟩:=qI (i1.mono s) w
  obtain ⟨I,G⟩:=B.put (a:=i.length) (c:=.dT [(m,y)]) (o:=aY _ [(m,b,K)]) j u (.inr (.inr ⟨_,rfl⟩)) (by
   have q:IsTs X.K h e.length M [(m,b,K)] [(m,y)]:=.cons ⟨rfl,J,i2⟩ .nil
   exact ⟨_,rfl,q.to.1,q.to.2.1,q.to.2.2⟩)
  rw [l] at u I G
  refine ⟨u,b,m,rfl,J,kc h _ _ (((r.trans o).trans s).trans I) G ?_⟩
  rw [<- l]
  exact .loc (by rw [XF];exact j)
 ·cases a)⟩
end
end L3
namespace L3
open PySem L2 PySem.W PyProof.Rows
section
variable {P:VQ}{w:V6}{A:VU}{E:Value->Vp->Prop}{s:Vp}
noncomputable def DW (h:Wj)(b:Addr)(k:List Int):Prop:=∃ xs:List Value,Yu h b xs.toArray/\X6 xs k
theorem Pn {bs:List Addr}{ks:List (List Int)}(K:0<bs.length)(u:ks.length=bs.length)(key:∀ (j:Nat)(b:Addr),bs[j]? = some b->DW s.heap b (ks.getD j [])/\ks.getD j []≠[]):oE P w A (bs.map Vz) (fun i j=>HT.lexLt (ks.getD i []) (ks.getD j [])) s:=by
 have m:∃ fs:List Value,fs.length=bs.length/\KatTups s.heap (bs.map Vz) fs/\∀ v∈fs,∃ i t,v=V3 i t:=by
  clear K
  induction bs generalizing ks with
  | nil=>exact ⟨[],rfl,.nil,fun v a=>nomatch a⟩
  | cons b bs Q=>
   match ks,u with
   | k::ks,u=>
    obtain ⟨fs,x,p,q⟩:=Q (ks:=ks) (by simpa using u) fun j c hc=>by simpa using key (j+1) c (by simpa using hc)
    obtain ⟨⟨xs,⟨o,e,c,n,d⟩,h⟩,l⟩:=key 0 b rfl
    simp only [List.getD_cons_zero] at h l
    cases h with
    | nil=>exact absurd rfl l
    | @cons i y T R M=>
     refine ⟨V3 i y::fs,by simp [x],.cons e c d (by simp) p,fun v a=>?_⟩
     rcases VP.mp a with rfl|a
     ·exact ⟨i,y,rfl⟩
     ·exact q v a
 obtain ⟨fs,x,p,q⟩:=m
 unfold oE
 refine kat_kind (T:=.type "int") p ?_ (fun v a=>?_) rfl ⟨rfl,fun i j C h r L=>?_⟩
 ·omega
 ·obtain ⟨i,t,rfl⟩:=q v a
  exact .now
 ·rw [Vm] at h r
  obtain ⟨⟨xa,⟨oa,G,U,Y,z⟩,N⟩,_⟩:=key i bs[i] (VH h)
  obtain ⟨⟨xb,⟨ob,H,X,Z,B⟩,O⟩,_⟩:=key j bs[j] (VH r)
  have I:(bs.map Vz).getD i .none=.ref bs[i]:=by simp [Wo,h]
  have J:(bs.map Vz).getD j .none=.ref bs[j]:=by simp [Wo,r]
  rw [I,J]
  exact kat_lt G z H B (xN 0 N O L)
theorem Po {d:Addr}{es:Array WD}{ep:Nat}{Q:Value->Vp->Prop}{bs:List Addr}{ks:List (List Int)}(L:A.handled=none)(lo:(d == WL)=false)(g:RawD s.heap d es ep)(y:es.toList.map (·.key)=bs.map Vz)(J:es.size<64)(N:ks.length=bs.length)
  (key:∀ (j:Nat)(b:Addr),bs[j]? = some b->DW s.heap b (ks.getD j [])/\ks.getD j []≠[])
  (q:∀ (h' r:Wj)(tk:Nat)(e:Nat),(∀ b o,s.heap.get? b=some o->h'.get? b=some o)->(∀ b o,h'.get? b=some o->r.get? b=some o)->r.get? h'.objs.size=some (WV "list" ((cB (fun i j=>HT.lexLt (ks.getD i []) (ks.getD j [])) es.size).map fun i=>Vz (bs.getD i 0)).toArray e)->Q (.ref h'.objs.size) { s with heap:=r,toks:=tk }) :
  VD (VM P w) A (call (.builtin "sorted") [.ref d]) Q E s:=by
 have m:bs.length=es.size:=by
  have:=congrArg Wm y
  simpa using this.symm
 refine ZF a3Y a3s a3u (a3w _) ?_
 unfold a0B
 refine Vl (m:=a4y "sorted" 1 1 _) (Vr (Vl (kdu_collect (A:=A.in1) (DA lo) L g (by rw [VS];omega) fun h' tk c G a=>?_)))
 have I:c.toList=bs.map Vz:=by
  rw [<- y]
  refine a3H fun i=>?_
  rw [V0,XC,XC]
  cases B:c[i]? with
  | some v=>
   obtain ⟨e,U,X⟩:=a.2 i v B
   rw [U,X];rfl
  | none=>
   have:c.size<=i:=by simpa using B
   rw [YU (by rw [<- a.1];exact this)];rfl
 rw [I]
 have H:(bs.map Vz).length=es.size:=by rw [Vm,m]
 refine Vl (a0a ?_ (by rw [H,VS];omega))
 have l:(h'.push (WV "list" (bs.map Vz).toArray 0)).get? h'.objs.size=some (WV "list" (bs.map Vz).toArray 0):=VC _ rfl
 have fin:∀ h:List Value,h=((cB (fun i j=>HT.lexLt (ks.getD i []) (ks.getD j [])) es.size).map fun i=>Vz (bs.getD i 0))->Q (.ref h'.objs.size) { s with heap:=a1l (h'.push (WV "list" (bs.map Vz).toArray 0)) h'.objs.size (bs.map Vz) h.toArray,toks:=tk }:=by
  rintro h rfl
  obtain ⟨e,K⟩:=sortedHeap_at (h:=h'.push (WV "list" (bs.map Vz).toArray 0)) (out:=((cB (fun i j=>HT.lexLt (ks.getD i []) (ks.getD j [])) es.size).map fun i=>Vz (bs.getD i 0)).toArray) l
  refine q h' _ tk e G (fun b o x=>?_) K
  rw [a5O (VB (Vu x)) (by rw [Yv];exact ZS (Vu x))]
  exact Vo _ x
 by_cases z:2<=es.size
 ·refine Vl (Wi (W0 ZW (s:={ s with heap:=h'.push (WV "list" (bs.map Vz).toArray 0),toks:=tk }) ⟨_,l,rfl⟩ ZC (DR (an:=fun i j=>HT.lexLt (ks.getD i []) (ks.getD j [])) (by omega) (by omega) l (fun r O=>?_) ⟨_,rfl,?_⟩) (ZY _)))
  ·refine Pn (by omega) N fun j b M=>?_
   obtain ⟨⟨T,⟨o,o1,R⟩,n⟩,u⟩:=key j b M
   have p:=G _ _ o1
   exact ⟨⟨T,⟨o,O b o (VB (Vu p)) (Vo _ p),R⟩,n⟩,u⟩
  ·refine Vr ⟨_,rfl,fin _ ?_⟩
   rw [H]
   refine YE fun i n=>?_
   have n:i<bs.length:=by
    have:=WT.mp ((jT _ (n:=es.size) (by omega)).mem_iff.mp n)
    omega
   simp [Wo,n]
 ·refine Vl (Wi (W0 ZW (s:={ s with heap:=h'.push (WV "list" (bs.map Vz).toArray 0),toks:=tk }) ⟨_,l,rfl⟩ ZC (xO (by omega) l ⟨_,rfl,?_⟩) (ZY _)))
  refine Vr ⟨_,rfl,fin (bs.map Vz) ?_⟩
  match bs,m with
  | [],e=>rw [<- e];show []=(cB _ 0).map _;rw [xQ];rfl
  | [b],e=>rw [<- e];show [Vz b]=(cB _ 1).map _;rw [xP];rfl
  | _::_::_,e=>rw [<- e] at z;simp at z
end
end L3
namespace L3
open PySem L2
noncomputable def DX (K:Vk):List V->Hp->VK->Prop:=fun xs H Q=>∃ a ps,xs=[V.ref a]/\H a=some (aY a ps)/\dH K H ps/\ps.length<64/\(∀ p∈ps,p.1≠[])/\∀ l,H l=none->Q (.ref l) (aK H l (.lst ((fD ps).map fun p=>V.ref p.2.1)))
section
variable {X:Cx}
theorem Pp (hc:X.calm=true):CallR X (.builtin "sorted") (DX X.K):=by
 intro o s σ H xs us Q I r h
 obtain ⟨a,c,rfl,T,G,R,y,q⟩:=h
 obtain ⟨u,rfl,ru⟩:=eD r
 cases ru
 obtain ⟨lo,n,L,ep,g,E⟩:=mI I T G
 have U:L.size=c.length:=by
  have:=congrArg Wm E
  simpa using this
 have N:∀ {j:Nat}{b:Addr},(c.map (·.2.1))[j]? = some b->∃ p∈c,c[j]? = some p/\p.2.1=b:=fun {j b} d=>by
  rw [V0] at d
  obtain ⟨p,m,M⟩:=Vn.mp d
  exact ⟨p,V8 m,m,M⟩
 refine Po (bs:=c.map (·.2.1)) (ks:=c.map (·.1)) (I.ok.hd hc) lo g (by rw [E,VN];rfl) (by omega) (by simp) (fun j b d=>?_) fun v O A e Z k2 k3=>?_
 ·obtain ⟨p,J,m,rfl⟩:=N d
  have K:(c.map (·.1)).getD j []=p.1:=by simp [Wo,m]
  rw [K]
  obtain ⟨z,rx,t,_⟩:=I.tuple (G p J)
  exact ⟨⟨z,t,wB rx⟩,y p J⟩
 ·have B:Inv X o σ H { s with heap:=v,toks:=A }:=I.kept (t':=A) Z
  refine ⟨.ref v.objs.size,_,B.laid (t':=A) (h':=O) (a:=v.objs.size) (o:=.lst ((fD c).map fun p=>V.ref p.2.1)) k2 (Vv _) ?_,rfl,q _ (B.hok.fresh (Vv _))⟩
  have x:(fD c).length=c.length:=sortT_perm.length_eq
  refine ⟨by rw [Vm,x];exact n,_,e,?_,k3⟩
  unfold fD
  rw [U,VN]
  have:∀ l:List Nat,(∀ i∈l,i<c.length)->Vals (l.map ((fun p:List Int×Addr×V=>V.ref p.2.1) ∘ fun i=>c.getD i ([],0,.non))) (l.map fun i=>Vz ((c.map (·.2.1)).getD i 0)):=fun l n=>by
   induction l with
   | nil=>exact .nil
   | cons i l Y=>
    refine .cons ?_ (Y fun j d=>n j (VI _ d))
    have w:=n i (VO ..)
    show Vz _=Vz _
    simp [Wo,w]
  exact this _ fun i w=>WT.mp ((sU _ c.length).mem_iff.mp w)
end
noncomputable def oG (b:Hm):D->Bool
 | .loc a=>match b[a]? with|some (.dT _)=>true|_=>false
 | _=>false
noncomputable def oH (f:D->List D->Hm->Option (D×Hm))(b:ME)(c:MA):ME:=fun a d=>(b a d).bind fun p=>match oG p.2 p.1 with
 | true=>(c a p.2).bind fun q=>f p.1 q.1 q.2
 | false=>none
noncomputable def yJ (K:Vk)(x:V)(H:Hp):Prop:=∃ a ps,x=.ref a/\H a=some (aY a ps)/\dH K H ps
theorem Pq {K:Vk}{π:Nat->Addr}{H:Hp}{b:Hm}{v:V}{x:D}(R:Rp K π H b)(h:IsD K π b.length H v x)(e:oG b x=true):yJ K v H:=by
 cases h with
 | @loc a j=>
  simp only [oG] at e
  split at e
  ·rename_i l d
   obtain ⟨i,c,T⟩:=gE R d
   exact ⟨_,i,rfl,c,T.keys⟩
  ·cases e
 | _=>cases e
section
variable {X:Cx}{e o:Expr}{mo:ME}{to:TE}{t:TA}{apos cpos:W4}{es:List Expr}{ms:MA}{n:Nat}{r:V->List V->Hp->VK->Prop}{f:D->List D->Hm->Option (D×Hm)}{name:Str}{id:String}
theorem Pr (slot:Slot "dict" name id) (m:a3q (.builtin id)=pure (.type "method_descriptor")) (B:jJ X id r)(E:PE X o to)(c:Ys o name X.env (eval o X.env)=eval o X.env)(d:(apos.endLine == cpos.line)=true) :
  PE X (.Call (.Attribute o name apos) [] [] cpos) (fun l H Q=>to l H fun x j=>yJ X.K x j/\r x [] j Q):=by
 intro i s l H Q I h
 refine a0h c d (aP (E i s l H _ I h) fun v K ⟨x,j,p,J,ty,G⟩=>?_)
 obtain ⟨a,O,rfl,u,A⟩:=ty
 obtain rfl:v=Vz a:=J
 obtain ⟨N,M,R,L,g,_⟩:=mI p u A
 refine ⟨"dict",id,a1O,slot,m,g.ty,fun b q=>?_,YT rfl (a0q ?_)⟩
 ·cases q
  obtain ⟨z,w,y,_⟩:=g
  exact ⟨z,w,y.2.1⟩
 exact B i K l j (.ref a) [] _ [] Q p rfl .nil G
theorem Pt {K:Vk}(s:iJ K f r):∀ σ H Q,tM K (oH f mo aD) σ H Q->tM K mo σ H fun x c=>yJ K x c/\r x [] c Q:=by
 rintro σ H Q ⟨z,A,w,d,h,R,E,a,k⟩
 obtain ⟨⟨x,b⟩,p,a⟩:=Vj.mp a
 dsimp only at a
 split at a
 ·rename_i u
  obtain ⟨⟨B,y⟩,q,a⟩:=Vj.mp a
  cases q
  refine ⟨z,A,w,x,b,R,E,p,fun i v c m j l=>⟨Pq j l u,?_⟩⟩
  exact s i c b x [] d h v [] Q j l .nil a (k.after m)
 ·cases a
theorem Pu (slot:Slot "dict" name id) (a:a3q (.builtin id)=pure (.type "method_descriptor")) (d:jJ X id r)(b:iJ X.K f r)
  (h:QE X o mo)(i:i0 o=true)(c:(apos.endLine == cpos.line)=true):QE X (.Call (.Attribute o name apos) [] [] cpos) (oH f mo aD):=
 ⟨cW (Pr slot a d h.h (kM i) c) (Pt b)⟩
end
end L3
namespace L3
open PySem L2
section
variable {P:VQ}{w:V6}{K:Type} [DecidableEq K] {knd:HeapKind P w K}{A:VU}{E:Value->Vp->Prop}{s:Vp}{d a:Addr}{k:K}{xs:List (K×Addr×Value)}
end
noncomputable def oJ:D->List D->Hm->Option (D×Hm)
 | .loc a,[],μ=>match μ[a]? with
  | some (.dT _)=>some (.non,μ.set a (.dT []))
  | _=>none
 | _,_,_=>none
noncomputable def DY (K:Vk):V->List V->Hp->VK->Prop:=fun x vs H Q=>∃ a ps,x=.ref a/\vs=[]/\H a=some (aY a ps)/\dH K H ps/\Q .non (aK H a (aY a []))
theorem Pw {K:Vk}:iJ K oJ (DY K):=by
 intro o H r x q d n v p Q R j c a k
 unfold oJ at a
 split at a
 ·split at a
  ·rename_i l hc
   cases a
   cases c
   cases j with
   | loc b=>
    obtain ⟨m,e,T⟩:=gE R hc
    obtain ⟨i,h⟩:=R.put (c:=.dT []) (o:=aY _ []) b e (.inr (.inr ⟨_,rfl⟩)) ⟨[],rfl,rfl,.nil,.nil⟩
    exact ⟨_,m,rfl,rfl,e,T.keys,k o _ _ i h .non⟩
  ·cases a
 ·cases a
theorem Px {P:VQ}{w:V6}(d:Addr):MeetsIn P w (Builtin.«dict.clear» ⟨[.ref d],[]⟩) (fun _ R s=>∃ es ep,RawD s.heap d es ep/\es.size<=VA /\
   ∀ c,(∃ z,c.get? d=some z/\z.ExactDict/\z.data=.dict #[] (ep+1))->YA d s.heap c->R (.ok (.ret .none)) { s with heap:=c }):=
 .of_wp fun A R s ⟨es,ep,g,e,h⟩=>by
  obtain ⟨o,b,hc,a⟩:=id g
  unfold Builtin.«dict.clear»
  refine Vl ?_
  unfold a1J
  refine Vl (W9 g.ty (Vr (Vl (WE b a (Vl ?_)))))
  unfold bearsInstanceDictMark
  refine Vl (a1j b (Vr (Vl (wpAny_updateDictKeys (hz:=e) b a ?_))))
  have new:∃ z,(s.heap.update d (a4j fun _=>#[])).get? d=some z/\z.ExactDict/\z.data=.dict #[] (ep+1):=
   ⟨_,WA _ b (a3m (a0s a _)),hc.mapDictKeys _,a0s a _⟩
  split
  ·exact Vl (wpAny_letGo (Vr ⟨.none,rfl,h _ new (Ye ..)⟩))
  ·exact Vl (Vr (Vr ⟨.none,rfl,h _ new (Ye ..)⟩))
theorem Py {X:Cx}:jJ X "dict.clear" (DY X.K):=by
 intro j s K H x J v G Q I u r h
 obtain ⟨a,p,rfl,rfl,e,m,q⟩:=h
 cases u
 cases r
 obtain ⟨o,B,d,c,g,l⟩:=mI I e m
 have E:d.size=p.length:=by
  have:=congrArg Wm l
  simpa using this
 refine a3v a1M g.ty PySem.F.entry_dict_clear (PySem.F.args_dict_clear_1 _) (Px a) ⟨d,c,g,by omega,fun A ⟨z,i,w,y⟩ b=>?_⟩
 refine ⟨.non,_,wA (t':=s.toks) I (by rw [e];exact Yt) b ⟨z,i⟩ (tP (ps:=[]) (ws:=[]) o (Wn _) .nil ⟨z,#[],c+1,i,w,y,rfl,⟨fun x n=>absurd n (by simp [bO]),by simp [bO]⟩⟩),rfl,q⟩
end L3
namespace L3
open PySem L2
section
variable {P:VQ}{w:V6}{A:VU}{E:Value->Vp->Prop}{s:Vp}
theorem Pz {nm:String}{d:Addr}{es:Array WD}{ep:Nat}{bs:List Addr}{Q:Array WD->Vp->Prop}(g:RawD s.heap d es ep)(o:es.toList.map (·.key)=bs.map Vz)(H:∀ b∈bs,s.TypeIs (.ref b) "tuple")
  (G:(es.toList.map (·.hash)).Nodup)(q:Q es s):VD (VM P w) A (a0w nm d) Q E s:=by
 obtain ⟨z,r,I,u⟩:=id g
 unfold a0w
 refine Vl (WE r u (Vl ?_))
 rw [<- Array.forIn_toList]
 refine a1S _ (fun rest _ c=>c=s/\∀ e∈rest,e∈es.toList) _ (fun e rest b c ⟨h,j⟩=>?_) (fun b c ⟨h,_⟩=>?_) _ _ ⟨rfl,fun e i=>i⟩
 ·subst h
  have i:=j e (VO ..)
  have y:e.key∈bs.map Vz:=by rw [<- o];exact VY.mpr ⟨e,i,rfl⟩
  obtain ⟨a,v,p⟩:=VY.mp y
  have quiet:∀ {Q:Bool->Vp->Prop},Q false c->VD (VM P w) A (a1y e.key) Q E c:=fun {Q} q=>by
   rw [<- p]
   unfold a1y
   exact Vl (a0t (H a v) PySem.F.slot_tuple_eq.lookup (Vr q))
  refine Vl (quiet ?_)
  have one:((es.filter (·.hash == e.hash)).size>1)=False:=by
   refine eq_false fun z=>?_
   have J:1<(es.toList.filter fun x=>x.hash == e.hash).length:=by
    have m:(es.filter (·.hash == e.hash)).toList=es.toList.filter fun x=>x.hash == e.hash:=Array.toList_filter ..
    have n:=congrArg Wm m
    simp only [XT] at n
    omega
   have l:(es.toList.filter fun x=>x.hash == e.hash).length=(es.toList.map (·.hash)).count e.hash:=by
    rw [List.count,List.countP_map,<- List.countP_eq_length_filter];rfl
   have:=List.nodup_iff_count.mp G e.hash
   omega
  simp only [XB,if_true,one,if_false]
  exact Vr ⟨rfl,fun x B=>j x (VI _ B)⟩
 ·subst h;exact Vr q
end
theorem DZ:∀ (ps:bV)(ws:List Value),ps.length=ws.length->(a0L wK ps ws).map (·.hash)=ps.map fun p=>Tb.hashT p.1
 | [],_,_=>by simp
 | p::ps,[],h=>by cases h
 | p::ps,u::ws,h=>by
  rw [V9,VE,VE,DZ ps ws (by simpa using h)]
  rfl
theorem PB {es:Array WD}{bs:List Addr}(c:bs≠[])(a:es.toList.map (·.key)=bs.map Vz):(es.all fun e=>(keyPart e.key).isSome)=false:=by
 rw [<- Array.all_toList]
 generalize es.toList=l at a
 cases bs with
 | nil=>exact absurd rfl c
 | cons b bs=>
  cases l with
  | nil=>cases a
  | cons e l=>
   rw [VE,VE,a0J] at a
   rw [Wf,a.1]
   rfl
theorem PC {es:Array WD}{bs:List Addr}(a:bs≠[])(c:es.toList.map (·.key)=bs.map Vz):es.isEmpty=false:=by
 have b:=congrArg Wm c
 simp only [Vm,XT] at b
 have:bs.length≠0:=fun z=>a (YQ.mp z)
 rw [Array.isEmpty]
 exact decide_eq_false (by omega)
noncomputable def D0 (K:Vk):List V->Hp->VK->Prop:=fun xs H Q=>∃ a ps,xs=[V.ref a]/\H a=some (aY a ps)/\dH K H ps/\ps≠[]/\(ps.map fun p=>Tb.hashT p.1).Nodup/\∀ l,H l=none->Q (.ref l) (aK H l (aY l ps))
section
variable {X:Cx}
theorem PD:CallR X (.type "dict") (D0 X.K):=by
 intro Z s σ H xs us Q I r h
 obtain ⟨a,d,rfl,T,U,l,nd,q⟩:=h
 obtain ⟨u,rfl,ru⟩:=eD r
 cases ru
 have hn:H s.heap.objs.size=none:=I.hok.fresh (Vv _)
 obtain ⟨⟨y,Y,lo,K,o,c,B,j,w,O,R,h5⟩,_⟩:=(show ObjOk X.prog X.w H s.heap a (aY a d) from I.hok a _ T)
 obtain ⟨_,_,es',ep',g,x⟩:=mI I T U
 obtain ⟨z,L,g2,M⟩:=id g
 rw [j] at L
 cases L
 rw [O] at M
 cases M
 have hsz:c.size=d.length:=by
  have:=congrArg Wm x
  simpa using this
 have hnd:(c.toList.map (·.hash)).Nodup:=by
  have:c.toList.map (·.hash)=d.map fun p=>Tb.hashT p.1:=by rw [R];exact DZ d y (by rw [<- Y.length,Vm])
  rw [this];exact nd
 refine a2A (Q₁:=fun m i=>m=.ref s.heap.objs.size/\i = { s with heap:=s.heap.push { cls:=.type "dict",data:=.dict #[] } }) F.kt_called_dict (F.kt_typeCall_dict_1 _) F.entry_dict_init (a1V _ ⟨rfl,rfl⟩) ?_
 rintro m i ⟨rfl,rfl⟩
 have v:({ s with heap:=s.heap.push { cls:=.type "dict",data:=.dict #[] } }:Vp).heap.get? s.heap.objs.size=some { cls:=.type "dict",data:=.dict #[] }:=VC _ rfl
 have ty:({ s with heap:=s.heap.push { cls:=.type "dict",data:=.dict #[] } }:Vp).TypeIs (.ref s.heap.objs.size) "dict":=⟨_,v,rfl⟩
 have ga:RawD (s.heap.push { cls:=.type "dict",data:=.dict #[] }) a c B:=g.stay fun o e=>Vo _ e
 refine ⟨ty,F.args_dict_init_2 _ _,?_⟩
 unfold Builtin.«dict.__init__»
 refine Vl ?_
 unfold Zn
 refine Vl (W9 ty (Vr ?_))
 show VD _ _ (Xj "dict.__init__" s.heap.objs.size (.ref a) [] .none) _ _ _
 unfold Xj
 refine Vl (ZK (T:="dict") ⟨_,Vo _ j,w.1⟩ ?_)
 rw [if_neg (by decide)]
 refine Vl ?_
 unfold a5I a5F
 have n:({ s with heap:=s.heap.push { cls:=.type "dict",data:=.dict #[] } }:Vp).TypeIs (.ref a) "dict":=⟨_,Vo _ j,w.1⟩
 refine Vl (Vl (Zp n isSubtype_dict_dict ?_))
 simp only [W6,Vy,if_false]
 refine Vl (a0t n F.slot_dict_iter.lookup (Vr ?_))
 simp only [beq_self_eq_true,if_true]
 refine Vl (Vr ?_)
 unfold a5H
 have J:(s.heap.objs.size == a)=false:=beq_eq_false_iff_ne.mpr (WB (VB (Vu j)))
 rw [if_neg (by rw [J];exact V7)]
 unfold Xs
 rw [if_neg (by rw [lo];exact V7)]
 have G:=Vo { cls:=.type "dict",data:=.dict #[] } j
 refine Vl (Vr (Vl (WE G O ?_)))
 have E:=PB (bs:=d.map (·.2.1)) (fun z=>l (a0v.mp z)) (by rw [x,VN];rfl)
 simp only [E,a4q,XB,if_true]
 refine Vl (WE v rfl ?_)
 simp only [Array.isEmpty_empty,if_true]
 have hes:c.size<=VA:=by omega
 have A:=PC (bs:=d.map (·.2.1)) (fun z=>l (a0v.mp z)) (by rw [x,VN];rfl)
 refine Vl (Pz (bs:=d.map (·.2.1)) ga (by rw [x,VN];rfl) (fun b hb=>?_) hnd ?_)
 ·obtain ⟨p,hp,rfl⟩:=VY.mp hb
  obtain ⟨its,rx,⟨ot,e1,e2,_⟩,_⟩:=I.tuple (U p hp)
  exact ⟨ot,Vo _ e1,e2⟩
 simp only [A,XB,if_true]
 refine Vl (wpAny_updateDictKeysTo v rfl (Vr ?_) (by omega))
 have N:=WA (a4j fun _=>c) v (a3m (a0s (o:={ cls:=.type "dict",data:=.dict #[] }) rfl _))
 have big:(s.heap.objs.size == WL)=false:=beq_eq_false_iff_ne.mpr (WB (VB I.big))
 refine Vl (Vr (Vr ?_))
 refine ⟨rfl,.ref s.heap.objs.size,_,I.laid (t':=s.toks) (a:=s.heap.objs.size) (o:=aY s.heap.objs.size d) (fun b u e=>?_) (Vv _) ⟨⟨y,Y,big,K,_,c,1,N,?_,rfl,R,h5⟩,⟨_,N⟩,?_⟩,rfl,q _ hn⟩
 ·rw [Wr _ _ (WB (VB (Vu e)))]
  exact Vo _ e
 ·exact a4Z ⟨rfl,rfl,rfl⟩ _
 ·rintro k1 k2 ⟨y,r,hs,K,o,c,B,j,w⟩ hh
  exact ⟨y,r,hs,K,o,c,B,hh o j,w⟩
end
end L3
namespace L3
open PySem L2
noncomputable abbrev qN:=List (List Int×Addr×Value)
inductive Hits (A:VU)(s:Vp)(ys:qN):qN->Bool->Prop
 | nil:Hits A s ys [] true
 | miss {x:List Int×Addr×Value}{r:qN}:a0j ys x.1=none->Hits A s ys (x::r) false
 | hit {x:List Int×Addr×Value}{p:Addr×Value}{r:qN}{e b:Bool}:a0j ys x.1=some p->Z4 A s x.2.2 p.2 e->Hits A s ys r b->Hits A s ys (x::r) (e&&b)
section
variable {P:VQ}{w:V6}{A:VU}{E:Value->Vp->Prop}{s:Vp}{a b:Addr}{xs ys:qN}{r:Bool}
theorem D1 {nm:String}{Q:Bool->Vp->Prop}(hu:(Xw (XW P w)).room A)(la:(a == WL)=false)(lb:(b == WL)=false)(da:s.heap.DictOfH (Xw (XW P w)) a xs)(db:s.heap.DictOfH (Xw (XW P w)) b ys)
  (o:xs.length=ys.length->Hits A s ys xs r)(q:Q (xs.length == ys.length&&r) s):VD (VM P w) A (a1g nm a b) Q E s:=by
 obtain ⟨oa,d,ep,v,_,B,T,L,na⟩:=da
 obtain ⟨ob,fs,fp,H,_,R,G,M,Y⟩:=db
 have Z:=a5m T
 have sb:=a5m G
 unfold a1g Xs
 rw [if_neg (by rw [la];exact V7),if_neg (by rw [lb];exact V7)]
 refine Vl (Vr (Vl (Vr (Vl (WE v B ?_)))))
 dsimp only
 refine Vl (WE H R ?_)
 by_cases n:d.size=fs.size
 ·have X:xs.length=ys.length:=by omega
  have N:Q r s:=by simpa [X] using q
  have hh:=o X
  rw [if_neg (by rw [n];simp)]
  refine Vl (YW v B (Vl ?_))
  rw [a4i]
  simp only [a4h,a2G,Nat.add_sub_cancel,Nat.div_one]
  refine a1S _ (fun rest c O=>O=s/\c=(none,())/\∃ i,rest=ZN i (d.size - i)/\i<=d.size/\Hits A s ys (xs.drop i) r) _ ?_ ?_ _ _ ⟨rfl,rfl,0,by simp,Wn _,hh⟩
  ·rintro x rest c O ⟨rfl,rfl,i,m,hi,l⟩
   have J:i<d.size:=Nat.lt_of_not_le fun z=>by rw [Nat.sub_eq_zero_of_le z] at m;cases m
   have e0:d.size - i=(d.size - (i+1))+1:=by omega
   rw [e0,ZZ] at m
   injection m with hx hrest
   subst hx
   have h:x<xs.length:=by omega
   rw [ZJ h] at l
   have ex:xs[x]? = some xs[x]:=VH h
   refine Vl (WE v B ?_)
   rw [entry_at T x,ex,VT]
   dsimp only
   have hk:=L xs[x] (Y7 h)
   refine Vl (Wi (Vl (wpAny_dictFind_heap (k:=xs[x].1) (a:=xs[x].2.1) hu hk H R G M Y (fun K=>?_) fun j p U=>?_)))
   ·have u:=atKey_none_of_get K
    have er:r=false:=by
     cases l with
     | miss _=>rfl
     | hit e _ _=>rw [u] at e;cases e
    subst er
    refine Vr ?_
    simp only [XB,if_true]
    exact Vr (Vr N)
   ·have u:=atKey_of_get Y U
    refine Vl (WE H R ?_)
    rw [entry_at G j,U,VT]
    dsimp only
    generalize hxs:xs[x]=y at l u
    cases l with
    | miss e=>rw [u] at e;cases e
    | @hit _ p' _ e' b' e h2 h3=>
     rw [u] at e
     cases e
     refine Wi (h2 P w _ _ ?_)
     cases e' with
     | false=>
      simp only [XB,if_true]
      exact Vr (Vr N)
     | true=>
      simp only [W6,Vy,if_false]
      refine Vl (YW v B ?_)
      rw [if_neg (by simp)]
      refine Vr ⟨rfl,rfl,x+1,hrest,J,?_⟩
      simpa using h3
  ·rintro c O ⟨rfl,rfl,i,m,hi,l⟩
   have I:i=d.size:=by
    rcases X8 i d.size with z|z
    ·rw [show d.size - i=(d.size - (i+1))+1 by omega,ZZ] at m;cases m
    ·omega
   refine Vr ?_
   rw [I,Z,List.drop_length] at l
   cases l
   exact N
 ·rw [if_pos (by simpa using n)]
  have:(xs.length == ys.length)=false:=by rw [<- Z,<- sb];simpa using n
  rw [this,a4p] at q
  exact Vl (a1i (Vr q))
theorem PF {Q:Value->Vp->Prop}(h:(Xw (XW P w)).room A.in1)(i:A.units<WX)(j:(a == WL)=false)(l:(b == WL)=false)(d:s.heap.DictOfH (Xw (XW P w)) a xs)(e:s.heap.DictOfH (Xw (XW P w)) b ys)
  (c:xs.length=ys.length->Hits A.in1 s ys xs r)(q:Q (.bool (xs.length == ys.length&&r)) s):VD (VM P w) A (Wt .Eq (.ref a) (.ref b)) Q E s:=by
 refine a2n (op:=.Eq) d.typeIs e.typeIs a2l (W0 a2l d.typeIs PySem.F.entry_dict_eq ?_ (PySem.F.args_dict_eq_2 _ _)) i
 show VD _ _ (Yc "__eq__" ⟨[.ref a,.ref b],[]⟩ >>= _) _ _ s
 refine Vl ?_
 unfold Yc
 refine Vl (W9 d.typeIs (Vr (Vl (Zp (T:="dict") e.typeIs a2f ?_))))
 simp only [W6,Vy,if_false]
 exact Vl (Vr (Vl (Vr (Vl (D1 h j l d e c (Vr ⟨_,rfl,(fun x=>nomatch x),by simpa using q⟩))))))
theorem PH {Q:Value->Vp->Prop}(h:(Xw (XW P w)).room A.in1)(i:A.units<WX)(j:(a == WL)=false)(l:(b == WL)=false)(d:s.heap.DictOfH (Xw (XW P w)) a xs)(e:s.heap.DictOfH (Xw (XW P w)) b ys)
  (c:xs.length=ys.length->Hits A.in1 s ys xs r)(q:Q (.bool (!(xs.length == ys.length&&r))) s):VD (VM P w) A (Wt .NotEq (.ref a) (.ref b)) Q E s:=by
 refine a2n (op:=.NotEq) d.typeIs e.typeIs a2k (W0 a2k d.typeIs PySem.F.entry_dict_ne ?_ (PySem.F.args_dict_ne_2 _ _)) i
 show VD _ _ (Yc "__ne__" ⟨[.ref a,.ref b],[]⟩ >>= _) _ _ s
 refine Vl ?_
 unfold Yc
 refine Vl (W9 d.typeIs (Vr (Vl (Zp (T:="dict") e.typeIs a2f ?_))))
 simp only [W6,Vy,if_false]
 exact Vl (Vr (Vl (Vr (Vl (D1 h j l d e c (Vr ⟨_,rfl,(fun x=>nomatch x),by simpa using q⟩))))))
end
noncomputable def mM (c:Hm)(a:List (List Int×D)):List (List Int×D)->Option Bool
 | []=>some true
 | (k,d)::r=>match bN a k with
  | none=>some false
  | some y=>(cD 8 c d y).bind fun e=>(mM c a r).map fun b=>e&&b
noncomputable def hU (ne:Bool):D->D->Hm->Option (D×Hm)
 | .loc a,.loc b,μ=>match μ[a]?,μ[b]? with
  | some (.dT kvs),some (.dT kws)=>if kvs.length=kws.length then (mM μ kws kvs).map fun e=>(.bl (if ne then !e else e),μ) else some (.bl ne,μ)
  | _,_=>none
 | _,_,_=>none
noncomputable def D2 (K:Vk)(ne:Bool):R2:=fun x y H Q=>∃ π d a b ps qs kvs c e,Rp K π H d/\x=.ref (π a)/\y=.ref (π b)/\H (π a)=some (aY (π a) ps)/\H (π b)=some (aY (π b) qs)/\IsTs K π d.length H ps kvs/\IsTs K π d.length H qs c /\
 (kvs.length=c.length->mM d c kvs=some e)/\Q (.bl (if ne then !(kvs.length == c.length&&e) else (kvs.length == c.length&&e))) H
theorem tX {K:Vk}{ne:Bool}:cS K (hU ne) (D2 K ne):=by
 intro i H q x y d w A B Q R u v a k
 unfold hU at a
 split at a
 ·split at a
  ·rename_i b c hc j
   cases u
   cases v
   obtain ⟨o,m,T⟩:=gE R hc
   obtain ⟨p,n,l⟩:=gE R j
   split at a
   ·rename_i h
    obtain ⟨e,s,a⟩:=Vn.mp a
    cases a
    refine ⟨i,q,_,_,o,p,b,c,e,R,rfl,rfl,m,n,T,l,fun _=>s,?_⟩
    rw [h,beq_self_eq_true,a4C]
    exact k i _ H .refl R (.bl _)
   ·rename_i h
    cases a
    refine ⟨i,q,_,_,o,p,b,c,true,R,rfl,rfl,m,n,T,l,fun z=>absurd z h,?_⟩
    have:(b.length == c.length)=false:=by simpa using h
    rw [this]
    have r:(if ne=true then !(false&&true) else (false&&true))=ne:=by cases ne<;>rfl
    rw [r]
    exact k i _ H .refl R (.bl _)
  ·cases a
 ·cases a
theorem D4 {X:Cx}{a5X:List (Addr×WY)}{σ:St}{H:Hp}{s:Vp}{π:Nat->Addr}{o:Hm}{A:VU}(I:Inv X a5X σ H s)(R:Rp X.K π H o)(z:A.units+8<WX){qs:bV}{j:List (List Int×D)}{c:List Value}(r:IsTs X.K π o.length H qs j)(B:Vals (qs.map (·.2.2)) c) :
  ∀ {ps:bV}{kvs:List (List Int×D)}{ws:List Value}{e:Bool},IsTs X.K π o.length H ps kvs->Vals (ps.map (·.2.2)) ws->mM o j kvs=some e->Hits A s (bO qs c) (bO ps ws) e
 | _,_,_,_,.nil,.nil,h=>by cases h;exact .nil
 | _,_,_,_,.cons (a:=p) (b:=q) h t,.cons (b:=u) ru tu,i=>by
  obtain ⟨k,d⟩:=q
  have x:p.1=k:=h.1
  have a:=n9 B p.1
  unfold bO
  rw [V9]
  simp only [mM] at i
  split at i
  ·rename_i n
   cases i
   refine .miss ?_
   rcases r.val p.1 with ⟨l,b⟩|⟨v,G,l,b,E⟩
   ·rw [l] at a
    cases m:a0j (bO qs c) p.1 with
    | none=>exact m
    | some y=>rw [m] at a;exact a.elim
   ·rw [x] at b;rw [n] at b;cases b
  ·rename_i y n
   obtain ⟨L,J,i⟩:=Vj.mp i
   obtain ⟨K,m,i⟩:=Vn.mp i
   subst i
   rcases r.val p.1 with ⟨l,b⟩|⟨v,G,l,b,E⟩
   ·rw [x] at b;rw [n] at b;cases b
   ·rw [x] at b;rw [n] at b
    cases b
    rw [l] at a
    cases w:a0j (bO qs c) p.1 with
    | none=>rw [w] at a;exact a.elim
    | some M=>
     rw [w] at a
     exact .hit (x:=(p.1,p.2.1,u)) w (r9 I R 8 z ru a h.2.2 E J) (D4 I R z r B t tu m)
section
variable {X:Cx}{a b:Expr}{ma mb:ME}{pos:W4}{k:Nat}
theorem tY (ne:Bool)(hu:X.A.units+16<WX):OpR X (Wt (if ne then .NotEq else .Eq)) (D2 X.K ne):=by
 intro U s σ H x y v u Q I rx ry h
 obtain ⟨O,μ,i,j,o,p,m,n,e,R,rfl,rfl,Y,Z,T,l,hh,q⟩:=h
 obtain rfl:v=Vz (O i):=rx
 obtain rfl:u=Vz (O j):=ry
 obtain ⟨J,hl,w,r,E⟩:=i9 I (.of Y) T.keys
 obtain ⟨K,hl',d,N,G⟩:=i9 I (.of Z) l.keys
 have L:(bO o w).length=m.length:=by
  have A:=congrArg Wm (kT r)
  have B:=congrArg Wm T.to.1
  simp only [Vm] at A B
  omega
 have M:(bO p d).length=n.length:=by
  have A:=congrArg Wm (kT N)
  have B:=congrArg Wm l.to.1
  simp only [Vm] at A B
  omega
 have c:(bO o w).length=(bO p d).length->Hits X.A.in1 s (bO p d) (bO o w) e:=fun z=>D4 I R (by rw [kI];omega) l N T r (hh (by omega))
 cases ne with
 | false=>exact PF (oA (by omega)) (by omega) J K E G c ⟨.bl _,H,I,rfl,by rw [L,M];exact q⟩
 | true=>exact PH (oA (by omega)) (by omega) J K E G c ⟨.bl _,H,I,rfl,by rw [L,M];exact q⟩
theorem PJ (e:Room k X.A)(c:QE X a ma)(d:QE X b mb):QE X (.Compare a [.Eq] [b] pos) (aB (hU false) ma mb):=⟨eF (tY false (by have:=e.un;omega)) tX c.h d.h (c6 _)⟩
theorem PK (e:Room k X.A)(c:QE X a ma)(d:QE X b mb):QE X (.Compare a [.NotEq] [b] pos) (aB (hU true) ma mb):=⟨eF (tY true (by have:=e.un;omega)) tX c.h d.h (c6 _)⟩
theorem PL (e:Room k X.A)(c:QE X a ma)(d:QE X b mb):QT X (.Compare a [.Eq] [b] pos) (aO (aB (hU false) ma mb)):=⟨eG (tY false (by have:=e.un;omega)) tX c.h d.h (c6 _)⟩
theorem PM (e:Room k X.A)(c:QE X a ma)(d:QE X b mb):QT X (.Compare a [.NotEq] [b] pos) (aO (aB (hU true) ma mb)):=⟨eG (tY true (by have:=e.un;omega)) tX c.h d.h (c6 _)⟩
end
end L3
namespace L3
open PySem L2
structure Sig where
 fn:List (Str×Nat)
 con:List (Str×D)
 tab:List (Str×List (a9×D))
 no:List Str
 dIt:List Str
 dEq:List Str
 dMe:List Str
 cls:List (Str×Str):=[]
 sup:List (Str×List Str):=[]
 rz:List Str:=[]
structure Cs where
 N:List Str
 ks:List (Str×XX)
noncomputable def gF (x:Str):List Str->Option Nat
 | []=>none
 | y::r=>if x=y then some 0 else (gF x r).map (·+1)
theorem kX {x:Str}:∀ {N:List Str}{i:Nat},gF x N=some i->N[i]? = some x
 | [],_,h=>by cases h
 | y::r,i,h=>by
  unfold gF at h
  split at h
  ·rename_i e;cases h;subst e;rfl
  ·obtain ⟨j,a,b⟩:=Vn.mp h
   subst b
   have:=kX a
   simpa using this
noncomputable def glob (c:Cs)(x:Str):Bool:=decide (c.ks.lookup x=some .globalImplicit)&&!(x == ("__debug__":Str))
noncomputable def jK (c:Cs)(x:Str):Bool:=(decide (c.ks.lookup x=some .local)||decide (c.ks.lookup x=some .cell)||decide (c.ks.lookup x=some .free))&&!(x == ("__debug__":Str))&&!(x == ("__classdict__":Str))
noncomputable def jX (c:Cs)(x:Str):Bool:=decide (c.ks.lookup x=some .local)||decide (c.ks.lookup x=some .cell)
noncomputable def yK (x:Str):Option String:=
 if x = "int" then some "int" else if x = "bool" then some "bool" else if x = "str" then some "str" else if x = "list" then some "list" else if x = "tuple" then some "tuple" else if x = "dict" then some "dict" else none
theorem PN {x:Str}{n:String}(h:yK x=some n):W3 x=some (.type n)/\x ≠ "__name__":=by
 unfold yK at h
 split at h
 ·rename_i e;subst e;cases h;exact ⟨a0m,by decide⟩
 split at h
 ·rename_i e;subst e;cases h;exact ⟨a3C,by decide⟩
 split at h
 ·rename_i e;subst e;cases h;exact ⟨a3z,by decide⟩
 split at h
 ·rename_i e;subst e;cases h;exact ⟨a0l,by decide⟩
 split at h
 ·rename_i e;subst e;cases h;exact ⟨a0e,by decide⟩
 split at h
 ·rename_i e;subst e;cases h;exact ⟨X3,by decide⟩
 ·cases h
noncomputable def yL (S:Sig)(c:Cs)(x:Str):ME:=
 if jK c x=true then (match gF x c.N with|some i=>aA i|none=>bS)
 else if glob c x=true then (match S.con.lookup x with
  | some d=>mC d
  | none=>if S.no.contains x=true then (match yK x with|some n=>mC (.ty n)|none=>bS) else bS)
 else bS
noncomputable def fE (r:Expr->ME):List Expr->MA
 | []=>aD
 | e::es=>aC (r e) (fE r es)
noncomputable def tZ (op:BoolOp):List ME->ME
 | []=>bS
 | [m]=>m
 | m::r=>match op with
  | .And=>gW m (tZ op r)
  | .Or=>m8 m (tZ op r)
noncomputable def t8 (op:BoolOp):List MT->MT
 | []=>lX
 | [m]=>m
 | m::r=>match op with
  | .And=>fY m (t8 op r)
  | .Or=>fZ m (t8 op r)
noncomputable def D5 (op:a2F)(a b:ME):ME:=match op with
 | .Add=>aB bJ a b
 | .Sub=>aB cP a b
 | .Mult=>aB bH a b
 | .FloorDiv=>aB dX a b
 | .Mod=>aB aW a b
 | _=>bS
noncomputable def kY (op:YS)(ns:Bool)(a b:ME):ME:=match op with
 | .Eq=>aB (aT false) a b
 | .NotEq=>aB (aT true) a b
 | .Lt=>aB iH a b
 | .LtE=>aB wY a b
 | .Gt=>aB lR a b
 | .GtE=>aB pV a b
 | .In=>if ns=true then aB (cT false) a b else bS
 | .NotIn=>if ns=true then aB (cT true) a b else bS
 | .Is=>aB (d7 false) a b
 | .IsNot=>aB (d7 true) a b
noncomputable def oK (r:Expr->ME):Option Expr->MO
 | none=>jL
 | some e=>iW (r e)
noncomputable def dZ:MF:=fun ds b=>match ds with
 | [.loc a]=>match b[a]? with
  | some (.lst xs)=>some (.int xs.length,b)
  | some (.st ks)=>some (.int ks.length,b)
  | some (.dT kvs)=>some (.int kvs.length,b)
  | _=>none
 | _=>pY ds b
noncomputable def oM:MF:=fun ds a=>match ds with
 | [x]=>(bF a x).map fun b=>(.tup b,a)
 | _=>none
theorem PQ {K:Vk}:dR K oM (fun xs H Q=>∃ p b,xs=[.ref p]/\((SqL K H p b/\∀ l,H l=none->Q (.ref l) (aK H l (.tup b)))\/(SqT K H p b/\Q (.ref p) H))):=by
 intro h H s xs d o r Q R i a k
 unfold oM at a
 split at a
 ·obtain ⟨b,j,m⟩:=Vn.mp a
  cases m
  cases i with
  | cons i t=>
   cases t
   obtain ⟨p,e,rfl,q,hd⟩:=lU R i j
   refine ⟨p,e,rfl,?_⟩
   rcases q with q|q
   ·refine .inl ⟨q,fun l n=>?_⟩
    obtain ⟨c,R2⟩:=R.fresh (o:=.tup e) n
    exact k h _ _ c R2 (.tup (.of cG) (hd.mono c))
   ·exact .inr ⟨q,k h _ H .refl R (.tup q hd)⟩
 ·cases a
noncomputable def jY:MF:=fun ds b=>match ds with
 | [.loc a]=>match b[a]? with
  | some (.dT kvs)=>some (.loc b.length,b++[.lst (kvs.map fun k=>D.tup (k.1.map D.int))])
  | _=>sG [.loc a] b
 | ds=>sG ds b
theorem PR {K:Vk}:dR K jY (fun xs H Q=>(∃ p h,xs=[.ref p]/\(SqL K H p h\/SqT K H p h)/\∀ l,H l=none->Q (.ref l) (aK H l (.lst h)))\/DE K xs H Q):=by
 intro o H n xs d c m Q R i b k
 unfold jY at b
 split at b
 ·rename_i a
  split at b
  ·rename_i e u
   cases b
   cases i with
   | cons i t=>
    cases t
    cases i
    obtain ⟨j,r,T⟩:=gE R u
    refine .inr ⟨_,j,rfl,r,T.keys,fun l s=>?_⟩
    obtain ⟨q,R2,_⟩:=R.alloc (c:=.lst (e.map fun k:List Int×D=>D.tup (k.1.map D.int))) (o:=.lst (j.map fun p:List Int×Addr×V=>V.ref p.2.1)) s T.to.2.1
    exact k _ _ _ q R2 fL
  ·exact .inl (B8 o H n _ d c m Q R i b k)
 ·exact .inl (B8 o H n _ d c m Q R i b k)
noncomputable def yM (x:Str):Option MF:=
 if x = "len" then some dZ
 else if x = "isinstance" then some eY
 else if x = "int" then some nF
 else if x = "list" then some jY
 else if x = "tuple" then some oM
 else if x = "all" then some qA
 else if x = "any" then some sR
 else if x = "sorted" then some i8
 else if x = "sum" then some mF
 else none
noncomputable def PU (K:Vk):List V->Hp->VK->Prop:=fun xs H Q=>w6 K xs H Q\/(∃ a L,xs=[V.ref a]/\H a=some (rY a L)/\Q (.int L.length) H)\/DD K xs H Q
theorem PV {K:Vk}:dR K dZ (PU K):=by
 intro h H m r d e l Q R i b k
 unfold dZ at b
 split at b
 ·rename_i a
  split at b
  ·rename_i s c
   refine .inl (B7 h H m _ d e l Q R i ?_ k)
   simp only [pY,bF,c]
   exact b
  ·rename_i o c
   cases b
   cases i with
   | cons i t=>
    cases t
    cases i
    obtain ⟨L,j,n,_⟩:=R.st a o c
    have:=congrArg Wm n
    rw [Vm] at this
    refine .inr (.inl ⟨_,L,rfl,j,?_⟩)
    rw [this]
    exact k h _ H .refl R (.int _)
  ·rename_i p c
   cases b
   cases i with
   | cons i t=>
    cases t
    cases i
    obtain ⟨q,j,T⟩:=gE R c
    have:=congrArg Wm T.to.1
    rw [Vm,Vm] at this
    refine .inr (.inr ⟨_,q,rfl,j,T.keys,?_⟩)
    rw [this]
    exact k h _ H .refl R (.int _)
  ·cases b
 ·exact .inl (B7 h H m _ d e l Q R i b k)
theorem PX {X:Cx}{x:Str}{f:MF}(a:X.calm=true)(b:X.A.units+64<WX)(h:yM x=some f):∃ v r,W3 x=some v/\((∃ id,v=.builtin id)\/∃ T,v=.type T)/\CallR X v r/\dR X.K f r/\x ≠ "__name__":=by
 unfold yM at h
 split at h
 ·rename_i e;subst e;cases h;exact ⟨_,_,a3A,.inl ⟨_,rfl⟩,call_lenM.or (call_lenT.or OJ),PV,by decide⟩
 split at h
 ·rename_i e;subst e;cases h;exact ⟨_,_,a3B,.inl ⟨_,rfl⟩,Lf,Le,by decide⟩
 split at h
 ·rename_i e;subst e;cases h;exact ⟨_,_,a0m,.inr ⟨_,rfl⟩,IP,Ld,by decide⟩
 split at h
 ·rename_i e;subst e;cases h;exact ⟨_,_,a0l,.inr ⟨_,rfl⟩,call_list_of.or (OK a),PR,by decide⟩
 split at h
 ·rename_i e;subst e;cases h;exact ⟨_,_,a0e,.inr ⟨_,rfl⟩,JC,PQ,by decide⟩
 split at h
 ·rename_i e;subst e;cases h;exact ⟨_,_,a3E,.inl ⟨_,rfl⟩,MZ a,CG rfl,by decide⟩
 split at h
 ·rename_i e;subst e;cases h;exact ⟨_,_,a3D,.inl ⟨_,rfl⟩,M0 a,CG rfl,by decide⟩
 split at h
 ·rename_i e;subst e;cases h;exact ⟨_,_,YO,.inl ⟨_,rfl⟩,call_sortI.or M7,Oi,by decide⟩
 split at h
 ·rename_i e;subst e;cases h;exact ⟨_,_,a3y,.inl ⟨_,rfl⟩,NY a,NX,by decide⟩
 ·cases h
noncomputable def yN (x:Str):Option MF:=
 if x = "dict" then some mJ else
 yM x
theorem PY {X:Cx}{x:Str}{f:MF}(a:X.calm=true)(b:X.A.units+64<WX)(h:yN x=some f):∃ v r,W3 x=some v/\((∃ id,v=.builtin id)\/∃ T,v=.type T)/\CallR X v r/\dR X.K f r/\x ≠ "__name__":=by
 unfold yN at h
 split at h
 ·rename_i e;subst e;cases h;exact ⟨_,_,X3,.inr ⟨_,rfl⟩,OZ a b,O0,by decide⟩
 exact PX a b h
noncomputable def D6 (m:Str)(n:Nat):Option (D->List D->Hm->Option (D×Hm)):=
 if n=1 then (if m = "append" then some eI
  else if m = "extend" then some nN
  else if m = "index" then some n8
  else none)
 else if n=0 then (
  if m = "pop" then some kN else
  none)
 else none
noncomputable def oN:MF:=fun ds b=>match ds with
 | [.loc a]=>match b[a]? with
  | some (.dT kvs)=>if kvs.length<64/\(∀ p∈kvs,p.1≠[]) then some (.loc b.length,b++[.lst ((dY kvs).map fun k=>D.tup (k.1.map D.int))]) else none
  | _=>none
 | _=>none
theorem PZ {K:Vk}:dR K oN (DX K):=by
 intro B H A y d v x Q R i a k
 unfold oN at a
 split at a
 ·split at a
  ·rename_i b u
   split at a
   ·rename_i n
    cases a
    cases i with
    | cons i t=>
     cases t
     cases i
     obtain ⟨c,m,T⟩:=gE R u
     obtain ⟨w,h⟩:=DV T
     refine ⟨_,c,rfl,m,T.keys,by omega,fun p r z=>?_,fun l o=>?_⟩
     ·have:p.1∈b.map (·.1):=by rw [<- T.to.1];exact VY.mpr ⟨p,r,rfl⟩
      obtain ⟨q,s,e⟩:=VY.mp this
      exact n.2 q s (e.trans z)
     ·obtain ⟨j,R2,_⟩:=R.alloc (c:=.lst ((dY b).map fun k:List Int×D=>D.tup (k.1.map D.int))) (o:=.lst ((fD c).map fun p:List Int×Addr×V=>V.ref p.2.1)) o h.to.2.1
      exact k _ _ _ j R2 fL
   ·cases a
  ·cases a
 ·cases a
noncomputable def oO:MF:=fun ds b=>match ds with
 | [.loc a]=>match b[a]? with
  | some (.dT kvs)=>if kvs≠[]/\(kvs.map fun p=>Tb.hashT p.1).Nodup then some (.loc b.length,b++[.dT kvs]) else none
  | _=>none
 | _=>none
theorem P0 {K:Vk}:dR K oO (D0 K):=by
 intro v H u s d q r Q R i a k
 unfold oO at a
 split at a
 ·split at a
  ·rename_i b o
   split at a
   ·rename_i h
    cases a
    cases i with
    | cons i t=>
     cases t
     cases i
     obtain ⟨c,m,T⟩:=gE R o
     have e:=T.to.1
     refine ⟨_,c,rfl,m,T.keys,fun z=>?_,?_,fun l n=>?_⟩
     ·rw [z] at e
      exact h.1 (a0v.mp e.symm)
     ·have:(c.map fun p=>Tb.hashT p.1)=b.map fun p=>Tb.hashT p.1:=by
       have:=congrArg (a4n Tb.hashT) e
       simpa [VN,a2M] using this
      rw [this];exact h.2
     ·obtain ⟨j,R2,_⟩:=R.alloc (c:=.dT b) (o:=aY l c) n ⟨c,rfl,T.to⟩
      exact k _ _ _ j R2 fL
   ·cases a
  ·cases a
 ·cases a
noncomputable def yO (S:Sig):Expr->List Expr->Option (Bool×Expr)
 | .Name x _,[.Name y p]=>if S.dMe.contains y=true then (if x = "sorted" then some (true,.Name y p) else if x = "dict" then some (false,.Name y p) else none) else none
 | _,_=>none
noncomputable def D7 (S:Sig)(o:Expr)(m:Str)(n:Nat):Option (D->List D->Hm->Option (D×Hm)):=
 if m = "clear"/\n=0 then (match o with|.Name x _=>if S.dMe.contains x=true then some oJ else none|_=>none) else
 none
noncomputable def D8 (S:Sig):Expr->Bool
 | .Name x _=>S.dEq.contains x
 | .Dict [] [] _=>S.dEq.contains "{}"
 | _=>false
noncomputable def oP (op:YS)(a b:ME):ME:=match op with
 | .Eq=>aB (hU false) a b
 | .NotEq=>aB (hU true) a b
 | _=>bS
noncomputable def yP (S:Sig)(F:Str->MF)(r:Expr->ME)(c:Cs)(f:Expr)(args:List Expr)(a:W4):ME:=match f with
 | .Name x _=>if glob c x&&args.all c8 then (match S.fn.lookup x with
   | some n=>if args.length=n then aG (F x) (fE r args) else bS
   | none=>if S.no.contains x&&!args.isEmpty then (match yN x with|some g=>aG g (fE r args)|none=>bS) else bS)
  else bS
 | .Attribute o m apos=>if i0 o&&(apos.endLine == a.line)&&args.all c8 then (
   match D7 S o m args.length with
   | some g=>oH g (r o) (fE r args)
   | none=>
   match D6 m args.length with
   | some g=>dG g (r o) (fE r args)
   | none=>
    bS)
  else bS
 | _=>bS
noncomputable def yQ:Expr->Option (Expr×List Expr)
 | .Call f as [] _=>some (f,as)
 | _=>none
theorem P1 {e f:Expr}{a:List Expr}(h:yQ e=some (f,a)):∃ pos,e=.Call f a [] pos:=by
 unfold yQ at h
 split at h
 ·cases h;exact ⟨_,rfl⟩
 ·cases h
noncomputable def oQ:Expr->Option Str
 | .Name x _=>some x
 | _=>none
theorem D9 {e:Expr}{x:Str}(h:oQ e=some x):∃ p,e=.Name x p:=by
 unfold oQ at h
 split at h
 ·cases h;exact ⟨_,rfl⟩
 ·cases h
noncomputable def o1:List Expr->Option Expr
 | [e]=>some e
 | _=>none
theorem Ea {l:List Expr}{e:Expr}(h:o1 l=some e):l=[e]:=by
 unfold o1 at h
 split at h
 ·cases h;rfl
 ·cases h
noncomputable def Eb (f:Expr)(args:List Expr):Option (Str×Str×Expr):=(oQ f).bind fun x=>(o1 args).bind fun a=>(yQ a).bind fun g=>(oQ g.1).bind fun y=>(o1 g.2).map fun e=>(x,y,e)
theorem P2 {f:Expr}{args:List Expr}{x y:Str}{e:Expr}(h:Eb f args=some (x,y,e)):∃ p c pos,f=.Name x p/\args=[.Call (.Name y c) [e] [] pos]:=by
 obtain ⟨n,d,h⟩:=Vj.mp h
 obtain ⟨a,i,h⟩:=Vj.mp h
 obtain ⟨g,j,h⟩:=Vj.mp h
 obtain ⟨o,b,h⟩:=Vj.mp h
 obtain ⟨m,l,h⟩:=Vn.mp h
 cases h
 obtain ⟨p,rfl⟩:=D9 d
 obtain ⟨pos,rfl⟩:=P1 j
 obtain ⟨c,b⟩:=D9 b
 exact ⟨p,c,pos,rfl,by rw [Ea i,b,Ea l]⟩
noncomputable def yR (S:Sig)(F:Str->MF)(r:Expr->ME)(c:Cs)(f:Expr)(args:List Expr)(a:W4):ME:=
 yP S F r c f args a
noncomputable def yS:Expr->Option (Expr×W4×W4)
 | .Call g [] [] cpos=>match g with
  | .Attribute o m apos=>if m = "items" then some (o,apos,cpos) else none
  | _=>none
 | _=>none
theorem P4 {e o:Expr}{a b:W4}(h:yS e=some (o,a,b)):e=.Call (.Attribute o "items" a) [] [] b:=by
 unfold yS at h
 split at h
 ·split at h
  ·split at h
   ·rename_i c;cases h;rw [c]
   ·cases h
  ·cases h
 ·cases h
noncomputable def P5 (f:Expr)(args:List Expr):Option (Expr×W4×W4):=(Eb f args).bind fun t=>if t.1 = "dict"/\t.2.1 = "sorted" then yS t.2.2 else none
noncomputable def yT (S:Sig)(F:Str->MF)(r:Expr->ME)(c:Cs)(f:Expr)(args:List Expr)(a:W4):ME:=
 match P5 f args with
 | some q=>if glob c "sorted" && glob c "dict" && S.no.contains "sorted" && S.no.contains "dict" && i0 q.1&&(q.2.1.endLine == q.2.2.line) then mK (r q.1) else bS
 | none=>
 match yO S f args with
 | some (true,e)=>if glob c "sorted" && S.no.contains "sorted" then aG oN (fE r [e]) else bS
 | some (false,e)=>if glob c "dict" && S.no.contains "dict" then aG oO (fE r [e]) else bS
 | none=>
 yR S F r c f args a
noncomputable def qO (c:Cs)(scope:X1)(xs:List Str):Bool:=
 (scope.names.all fun y=>decide (y.2≠.cell))&&decide (scope.kind=.function)&&(scope.names.all fun y=>decide (y.2≠.local)||decide (scope.names.lookup y.1=some .local)) &&
 (xs.all fun x=>decide (scope.names.lookup x=some .local))&&decide xs.Nodup&&(scope.names.all fun y=>decide (y.2≠.free)||decide (c.ks.lookup y.1=some .cell)||decide (c.ks.lookup y.1=some .free)) &&
 (scope.names.all fun y=>decide (y.2≠.local)||!(bM xs c.N).contains y.1)&&decide (bM xs c.N).Nodup&&(c.N.all fun y=>!xs.contains y||decide (scope.names.lookup (nC y)=none))
noncomputable def qP (c:Cs)(scope:X1)(xs:List Str):Cs:=
 ⟨bM xs c.N++xs,scope.names.map fun (n,k)=>if (k == Xr&&c.ks.lookup n == some .cell) then (n,XE) else (n,k)⟩
noncomputable def Ec (r:Expr->MT):List Expr->MT
 | []=>e8
 | [t]=>r t
 | _=>lX
noncomputable def yU (S:Sig)(c:Cs):Expr->Option (List Expr)
 | .Call (.Name x _) args [] _=>if x = "range" then (if glob c x&&S.no.contains x&&args.all c8 then some args else none) else none
 | _=>none
noncomputable def t9 (S:Sig)(r:Expr->ME)(c:Cs)(e:Expr):MI:=match yU S c e with
 | some [a]=>lW (fE r [a])
 | some [a,b]=>kK (fE r [a,b])
 | some _=>Co
 | none=>cF (r e)
noncomputable def yV (S:Sig)(c:Cs):Expr->Option Expr
 | .Call (.Name x _) [a] [] _=>if x = "enumerate" then (if glob c x&&S.no.contains x&&c8 a then some a else none) else none
 | _=>none
noncomputable def yW (S:Sig)(r:Expr->ME)(c:Cs)(e:Expr):MI:=match yV S c e with
 | some a=>mG (fE r [a])
 | none=>t9 S r c e
noncomputable def yX (S:Sig)(c:Cs):Expr->Option (Expr×Expr)
 | .Call (.Name x _) [a,b] [] _=>if x = "zip" then (if glob c x&&S.no.contains x&&c8 a&&c8 b then some (a,b) else none) else none
 | _=>none
noncomputable def yY (S:Sig)(r:Expr->ME)(c:Cs)(e:Expr):MI:=match yX S c e with
 | some (a,b)=>qM (fE r [a,b])
 | none=>yW S r c e
noncomputable def yZ:Expr->Option (List Str)
 | .Name x _=>some [x]
 | .Tuple es _ _=>es.mapM fun e=>match e with|.Name x _=>some x|_=>none
 | _=>none
noncomputable def y8:Expr->Nat->BD
 | .Tuple ..,n=>pX n
 | _,_=>pW
noncomputable def uA (S:Sig)(r:Expr->ME)(c:Cs)(tg e:Expr):MI:=match tg with
 | .Tuple ..=>yY S r c e
 | _=>t9 S r c e
noncomputable def qQ (b:MI)(d:Cs->Expr->ME)(e:Cs->Expr->MT)(c:Cs)(elt tg iter:Expr)(ifs:List Expr)(scope:X1):ME:=match yZ tg with
 | some a=>if qO c scope a&&fC iter then iI (y8 tg a.length) b (Ec (e (qP c scope a)) ifs) (d (qP c scope a) elt) else bS
 | none=>bS
noncomputable def uB (S:Sig)(a:Cs->Expr->ME)(b:Cs->Expr->MT)(c:Cs)(elt tg iter:Expr)(ifs:List Expr)(scope:X1):ME:=
 qQ (uA S (a c) c tg iter) a b c elt tg iter ifs scope
noncomputable def Ed:Const->ME
 | .int i=>mC (.int i)
 | .bool b=>mC (.bl b)
 | .str s=>mC (.str s)
 | .none=>mC .non
 | _=>bS
noncomputable def Ee (m:ME):UnaryOp->ME
 | .USub=>gA m
 | .Not=>kH m
 | _=>bS
noncomputable def y9 (S:Sig)(r:Expr->ME)(a:Expr):List YS->List Expr->ME
 | [op],[b]=>if D8 S b then oP op (r a) (r b) else kY op (fC b) (r a) (r b)
 | [op,op'],[b,b']=>(match jW op,jW op' with
  | some p,some q=>jV (fM p) (fM q) (r a) (r b) (r b')
  | _,_=>bS)
 | _,_=>bS
noncomputable def zA (r:Expr->ME):List (Option Expr)->List Expr->ME
 | [],[]=>qJ
 | [some k],[v]=>mL (r k) (r v)
 | _,_=>bS
noncomputable def zB (S:Sig)(r:Expr->ME)(c:Cs)(a b:Expr):ME:=match b with
 | .Slice lo hi none _=>lQ (r a) (oK r lo) (oK r hi)
 | .Slice lo hi (some st) _=>nZ (r a) (oK r lo) (oK r hi) (oK r (some st))
 | b=>if nH b then aB aJ (r a) (r b) else bS
noncomputable def zC (r:Expr->ME)(es:List Expr):ME:=if es.all c8 then bI (fE r es) else bS
noncomputable def zD (r:Expr->ME)(es:List Expr):ME:=if es.all c8 then cL (fE r es) else bS
noncomputable def zE (S:Sig)(F:Str->MF)(r:Expr->ME)(c:Cs)(f:Expr)(args:List Expr)(a:W4):List Ze->ME
 | []=>yT S F r c f args a
 | _=>bS
noncomputable def zF (S:Sig)(a:Cs->Expr->ME)(b:Cs->Expr->MT)(c:Cs)(elt:Expr)(scope:X1):List Comprehension->ME
 | [⟨tg,iter,ifs,0⟩]=>uB S a b c elt tg iter ifs scope
 | _=>bS
noncomputable def Ef (S:Sig)(F:Str->MF)(d:Cs->Expr->ME)(e:Cs->Expr->MT)(c:Cs):Expr->ME
 | .Name x _=>yL S c x
 | .Constant v _ _=>Ed v
 | .BinOp a op b _=>D5 op (d c a) (d c b)
 | .UnaryOp op a _=>Ee (d c a) op
 | .Compare a ops bs _=>y9 S (d c) a ops bs
 | .BoolOp op vs _=>tZ op (vs.map (d c))
 | .IfExp t a b _=>iG (e c t) (d c a) (d c b)
 | .Tuple es _ _=>zC (d c) es
 | .List es _=>zD (d c) es
 | .Dict keys values _=>zA (d c) keys values
 | .Subscript a b _=>zB S (d c) c a b
 | .Call f args kws cpos=>zE S F (d c) c f args cpos kws
 | .Attribute o a _=>if i0 o then jU a (fun x=>S.cls.lookup x == some a) (d c o) else bS
 | .ListComp elt gs scope _=>zF S d e c elt scope gs
 | _=>bS
noncomputable def qR (r:Expr->ME)(e:Expr):MT:=if w8 e then eJ (r e) else lX
noncomputable def zG (S:Sig)(r:Expr->ME)(a:Expr)(ops:List YS)(bs:List Expr)(p:W4):MT:=match ops,bs with
 | [op],[b]=>if D8 S b then aO (oP op (r a) (r b)) else aO (kY op (fC b) (r a) (r b))
 | [op,op'],[b,b']=>(match jW op,jW op' with
  | some p,some q=>aO (jV (fM p) (fM q) (r a) (r b) (r b'))
  | _,_=>lX)
 | ops,bs=>qR r (.Compare a ops bs p)
noncomputable def P6 (r:Expr->ME)(t:MT)(a:Expr)(p:W4):UnaryOp->MT
 | .Not=>t
 | op=>qR r (.UnaryOp op a p)
noncomputable def Eg (S:Sig)(b:Cs->Expr->ME)(d:Cs->Expr->MT)(c:Cs):Expr->MT
 | .BoolOp op vs _=>t8 op (vs.map (d c))
 | .UnaryOp op a p=>P6 (b c) (gU (d c a)) a p op
 | .Compare a ops bs p=>zG S (b c) a ops bs p
 | e=>qR (b c) e
noncomputable def tr (S:Sig)(F:Str->MF):Nat->(Cs->Expr->ME)×(Cs->Expr->MT)
 | 0=>(fun _ _=>bS,fun _ _=>lX)
 | n+1=>(Ef S F (tr S F n).1 (tr S F n).2,Eg S (tr S F n).1 (tr S F n).2)
structure XcOk (S:Sig)(K:Vk):Prop where
 att:∀ x a,S.cls.lookup x=some a->tD K a x=true
 sub:∀ x ys c,S.sup.lookup x=some ys->(S.sup.lookup c).isSome=true->qB K x c=some (ys.contains c)
 isx:∀ x ys c,S.sup.lookup x=some ys->(S.sup.lookup c).isSome=true->∃ C,hJ K c=some C/\tE K (.ref C) x=some (ys.contains c)
 isv:∀ x ys,S.sup.lookup x=some ys->tE K (.type "ValueError") x=some (ys.contains "ValueError")
 plain:∀ x ys,S.sup.lookup x=some ys->S.cls.lookup x=none->∃ C,ClsK K x C
 init:∀ x a,S.cls.lookup x=some a->∃ C f B bn fd sf ar,InitK K C f B bn a/\Wz K Wh x=some (some (.ref C))/\Ww K (.ref C)=true/\(∀ P w mg base k,FnOk P w K mg base eE (k+1) f fd [sf,ar] (nU C a))/\Binds K fd [sf,ar] []/\∃ oI,K.lookup f=some oI/\oI.cls=.type "function"
structure Okx (S:Sig)(F:Str->MF)(k:Nat)(c:Cs)(X:Cx):Prop where
 N:X.N=c.N
 nd:X.N.Nodup
 ks:X.env.scope.names=c.ks
 kind:X.env.scope.kind=.function
 calm:X.calm=true
 room:Room k X.A
 never:a1Y (VM X.prog X.w) X.A X.env X.xe
 fn:∀ x n,S.fn.lookup x=some n->∃ (f:Addr)(fd:Xc)(ps:List Str),FnOk X.prog X.w X.K X.mg X.base eE k f fd ps (iF X.K n (F x))/\X.mg x=some (.ref f)/\Ww X.K (.ref f)=true/\Binds X.K fd ps []
 con:∀ x d,S.con.lookup x=some d->∃ v u,X.mg x=some u/\RelV v u/\∀ π n H,IsD X.K π n H v d
 tab:∀ x kvs,S.tab.lookup x=some kvs->TabOk X x kvs
 no:∀ x,S.no.contains x=true->X.mg x=none
 xc:XcOk S X.K
section
variable {S:Sig}{F:Str->MF}{k:Nat}{c:Cs}{X:Cx}
theorem Okx.gl (O:Okx S F k c X){x:Str}(h:glob c x=true):Gl X x/\(x == ("__debug__":Str))=false:=by
 unfold glob at h
 rw [Vq] at h
 refine ⟨?_,by simpa using h.2⟩
 show X.env.scope.names.lookup x=_
 rw [O.ks]
 exact of_decide_eq_true h.1
theorem Okx.vis (O:Okx S F k c X){x:Str}(h:jK c x=true):pK X.env.scope x/\(x == ("__debug__":Str))=false/\(x == ("__classdict__":Str))=false:=by
 unfold jK at h
 rw [Vq,Vq,Yb,Yb] at h
 obtain ⟨⟨a,b⟩,d⟩:=h
 refine ⟨?_,by simpa using b,by simpa using d⟩
 unfold pK
 rw [O.ks]
 rcases a with (a|a)|a
 ·exact .inl (of_decide_eq_true a)
 ·exact .inr (.inl (of_decide_eq_true a))
 ·exact .inr (.inr (of_decide_eq_true a))
theorem P7 (O:Okx S F k c X)(x:Str)(pos:W4):QE X (.Name x pos) (yL S c x):=by
 unfold yL
 split
 ·rename_i h
  obtain ⟨a,b,l⟩:=O.vis h
  split
  ·rename_i i o
   exact Cf i (by rw [O.N];exact kX o) a b l
  ·exact bW
 split
 ·rename_i h
  obtain ⟨a,b⟩:=O.gl h
  split
  ·rename_i d hd
   obtain ⟨v,u,m,r,i⟩:=O.con x d hd
   exact ⟨m7 (Hs a m r b) i⟩
  ·split
   ·rename_i p
    split
    ·rename_i n q
     obtain ⟨e,j⟩:=PN q
     exact LU (O.no x p) e a j b
    ·exact bW
   ·exact bW
 ·exact bW
theorem hV {r:Expr->ME}(a:∀ e,QE X e (r e)):∀ (es:List Expr),es.all c8=true->QA X es (fE r es) es.length
 | [],_=>LJ
 | e::es,h=>by
  rw [Wf,Vq] at h
  exact LK (a e) (hV a es h.2) h.1
theorem Eh {r:Expr->ME}(a:∀ e,QE X e (r e))(op:BoolOp)(pos:W4):∀ (vs:List Expr),QE X (.BoolOp op vs pos) (tZ op (vs.map r))
 | []=>bW
 | [e]=>LC (a e)
 | e::d::es=>by
  have b:=Eh a op pos (d::es)
  cases op with
  | And=>exact LF (a e) b
  | Or=>exact LG (a e) b
theorem Ei {r:Expr->MT}(a:∀ e,QT X e (r e))(op:BoolOp)(pos:W4):∀ (vs:List Expr),QW X (.BoolOp op vs pos) (t8 op (vs.map r))
 | []=>Mx
 | [e]=>by
  cases op with
  | And=>exact L5 (a e)
  | Or=>exact L6 (a e)
 | e::d::es=>by
  have b:=Ei a op pos (d::es)
  cases op with
  | And=>exact L7 (a e) b
  | Or=>exact L8 (a e) b
theorem P8 {a b:Expr}{h i:ME}(d:QE X a h)(e:QE X b i)(op:a2F)(pos:W4):QE X (.BinOp a op b pos) (D5 op h i):=by
 cases op with
 | Add=>exact Lm d e
 | Sub=>exact Ln d e
 | Mult=>exact Lo d e
 | FloorDiv=>exact Lp d e
 | Mod=>exact Lq d e
 | _=>exact bW
theorem P9 (O:Okx S F k c X){a b:Expr}{i j:ME}(d:QE X a i)(e:QE X b j)(op:YS)(pos:W4):QE X (.Compare a [op] [b] pos) (kY op (fC b) i j):=by
 cases op with
 | Eq=>exact Lu O.room d e
 | NotEq=>exact Lv O.room d e
 | Lt=>exact Lx d e
 | LtE=>exact Lz d e
 | Gt=>exact LA d e
 | GtE=>exact LB d e
 | In=>
  simp only [kY]
  split
  ·rename_i h;exact OM O.room d e h
  ·exact bW
 | NotIn=>
  simp only [kY]
  split
  ·rename_i h;exact ON O.room d e h
  ·exact bW
 | Is=>exact NT d e
 | IsNot=>exact NU d e
theorem Ej {e:Expr}:QT X e (aO bS):=⟨fun a5X s σ H Q I h=>by
 obtain ⟨j,l,i,d,b,R,E,a,k⟩:=h
 cases a⟩
theorem Qa (O:Okx S F k c X){a b:Expr}{i j:ME}(d:QE X a i)(e:QE X b j)(op:YS)(pos:W4):QT X (.Compare a [op] [b] pos) (aO (kY op (fC b) i j)):=by
 cases op with
 | Eq=>exact LV O.room d e
 | NotEq=>exact LW O.room d e
 | Lt=>exact LX d e
 | LtE=>exact LY d e
 | Gt=>exact LZ d e
 | GtE=>exact L0 d e
 | In=>
  simp only [kY]
  split
  ·rename_i h;exact OO O.room d e h
  ·exact Ej
 | NotIn=>
  simp only [kY]
  split
  ·rename_i h;exact OP O.room d e h
  ·exact Ej
 | Is=>exact NV d e
 | IsNot=>exact NW d e
theorem qS {r:Expr->ME}(a:∀ e,QE X e (r e)):∀ o:Option Expr,QO X o (oK r o)
 | none=>LP
 | some e=>LQ (a e)
theorem Qb (O:Okx S F k c X){r:Expr->ME}(l:∀ e,QE X e (r e))(f:Expr)(args:List Expr)(h:W4):QE X (.Call f args [] h) (yP S F r c f args h):=by
 unfold yP
 split
 ·rename_i x p
  split
  ·rename_i q
   rw [Vq] at q
   obtain ⟨z,A⟩:=O.gl q.1
   have j:=hV l args q.2
   split
   ·rename_i n y
    split
    ·rename_i b
     obtain ⟨Q,R,U,E,a,L,B⟩:=O.fn x n y
     subst b
     cases args with
     | nil=>exact MW E O.room a L B z A
     | cons e s=>exact LS E O.room a L B j z A
    ·exact bW
   ·split
    ·rename_i d
     rw [Vq] at d
     split
     ·rename_i g B
      obtain ⟨v,Y,H,M,I,J,K⟩:=PY (X:=X) O.calm O.room.units B
      cases args with
      | nil=>exact absurd d.2 (by simp)
      | cons e s=>
       rcases M with ⟨id,rfl⟩|⟨T,rfl⟩
       ·exact Ci I J (O.no x d.1) H j z K A
       ·exact Cj I J (O.no x d.1) H j z K A
     ·exact bW
    ·exact bW
  ·exact bW
 ·rename_i o m G
  split
  ·rename_i q
   rw [Vq,Vq] at q
   obtain ⟨⟨u,w⟩,N⟩:=q
   have j:=hV l args N
   split
   ·rename_i g a
    unfold D7 at a
    split at a
    ·rename_i b
     obtain ⟨rfl,b⟩:=b
     split at a
     ·split at a
      ·cases a
       cases args with
       | cons e s=>cases b
       | nil=>exact Pu a1M PySem.F.type_dict_clear Py Pw (l _) u w
      ·cases a
     ·cases a
    cases a
   split
   ·rename_i g a
    unfold D6 at a
    split at a
    ·rename_i b
     cases args with
     | nil=>cases b
     | cons e s=>
      have y:(e::s).length<30:=by rw [b];decide
      split at a
      ·rename_i i;subst i;cases a
       exact xG PySem.F.slot_list_append PySem.F.type_list_append Br MN (l o) j u w y
      split at a
      ·rename_i i;subst i;cases a
       exact xG PySem.F.slot_list_extend PySem.F.type_list_extend JG MP (l o) j u w y
      split at a
      ·rename_i i;subst i;cases a
       exact xG PySem.F.slot_list_index PySem.F.type_list_index (Of (by have:=O.room.units;omega)) Od (l o) j u w y
      ·cases a
    split at a
    ·rename_i b
     cases args with
     | cons e s=>cases b
     | nil=>
      split at a
      ·rename_i i;subst i;cases a
       exact ML PySem.F.slot_list_pop PySem.F.type_list_pop JH MQ (l o) u w
      cases a
    ·cases a
   ·skip
    ·exact bW
  ·exact bW
 ·exact bW
theorem Qc (O:Okx S F k c X){r:Expr->ME}(b:∀ e,QE X e (r e))(f:Expr)(args:List Expr)(a:W4):QE X (.Call f args [] a) (yR S F r c f args a):=by
 unfold yR
 exact Qb O b f args a
theorem uC (O:Okx S F k c X){scope:X1}{xs:List Str}(h:qO c scope xs=true):CompSt X.env.scope X.N scope xs/\xs.Nodup:=by
 unfold qO at h
 rw [Vq,Vq] at h
 obtain ⟨⟨h,b⟩,q⟩:=h
 have b:=of_decide_eq_true b
 have d:∀ y∈c.N,xs.contains y=true->scope.names.lookup (nC y)=none:=fun y a hc=>by
  have:=WZ.mp q y a
  rw [hc] at this
  simpa using this
 simp only [Vq,WZ,decide_eq_true_eq,Yb,ZP,List.contains_eq_mem,decide_eq_false_iff_not] at h
 obtain ⟨⟨⟨⟨⟨⟨i,j⟩,l⟩,m⟩,p⟩,n⟩,o⟩:=h
 refine ⟨⟨i,j,fun y a e=>(l y a).resolve_left (fun z=>z e),m,fun y a r=>?_,fun y a e=>?_,O.nd,by rw [O.N];exact b,by rw [O.N];exact d⟩,p⟩
 ·rw [O.ks]
  rcases n y a with (z|z)|z
  ·exact absurd r z
  ·exact .inl z
  ·exact .inr z
 ·rw [O.N]
  have:=(o y a).resolve_left (fun z=>z e)
  exact this
theorem Ek {N xs:List Str}(h:N.Nodup)(d:xs.Nodup)(i:∀ x∈xs,x∉N):(N++xs).Nodup:=by
 rw [a0N]
 exact ⟨h,d,fun a j b l e=>by subst e;exact i _ l j⟩
theorem Okx.comp (O:Okx S F k c X){scope:X1}{xs:List Str}(h:qO c scope xs=true){b:List (Str×Addr)}{C:Addr}{s₀:Vp}{H₀:Hp}{d:List Addr}:Okx S F k (qP c scope xs) (c7 X scope b C (bM xs X.N++xs) s₀ H₀ d):=by
 obtain ⟨St,hnd⟩:=uC O h
 refine ⟨show bM xs X.N++xs=bM xs c.N++xs by rw [O.N],?_,?_,?_,O.calm,O.room,a2P,O.fn,O.con,fun y a q=>⟨(O.tab y a q).ex⟩,O.no
  ,O.xc
  ⟩
 ·show (bM xs X.N++xs).Nodup
  exact Ek St.hnd hnd fun x e=>St.own (x,.local) (WG (St.here x e)) rfl
 ·show (a4J scope X.env).names=(qP c scope xs).ks
  unfold a4J qP
  dsimp only
  refine YE fun y _=>?_
  obtain ⟨n,i⟩:=y
  dsimp only
  have:(X.env.scope.kind == ScopeKind.function)=true:=by rw [O.kind];rfl
  rw [this,a2h]
  show (if (i == Xr&&X.env.scope.names.lookup n == some XE)=true then _ else _)=_
  rw [O.ks]
 ·show (a4J scope X.env).kind=.function
  exact St.kind
theorem Em {r:Expr->MT}(l:∀ e,QT X e (r e)):∀ es:List Expr,QI X es (Ec r es)
 | []=>Ma
 | [t]=>Mb (l t)
 | a::b::es=>⟨fun i s q H Q I h=>by
   obtain ⟨o,p,n,d,m,R,E,j,k⟩:=h
   cases j⟩
theorem Eo (O:Okx S F k c X){e:Expr}{args:List Expr}(h:yU S c e=some args):∃ p pos,e=.Call (.Name "range" p) args [] pos/\Gl X "range"/\X.mg "range" = none/\args.all c8=true:=by
 unfold yU at h
 split at h
 ·split at h
  ·rename_i b
   subst b
   split at h
   ·rename_i a
    cases h
    rw [Vq,Vq] at a
    exact ⟨_,_,rfl,(O.gl a.1.1).1,O.no _ a.1.2,a.2⟩
   ·cases h
  ·cases h
 ·cases h
theorem Ep (O:Okx S F k c X){r:Expr->ME}(l:∀ e,QE X e (r e))(e:Expr):QJ X e (t9 S r c e):=by
 unfold t9
 split
 ·rename_i a h
  obtain ⟨p,m,rfl,d,i,j⟩:=Eo O h
  exact Mq d i (hV l [a] j)
 ·rename_i a b h
  obtain ⟨p,m,rfl,d,i,j⟩:=Eo O h
  exact Mr d i (hV l [a,b] j)
 ·exact Mo
 ·exact Mp (l e)
theorem Qd (O:Okx S F k c X){e a:Expr}(h:yV S c e=some a):∃ p pos,e=.Call (.Name "enumerate" p) [a] [] pos/\Gl X "enumerate"/\X.mg "enumerate" = none/\c8 a=true:=by
 unfold yV at h
 split at h
 ·split at h
  ·rename_i d
   subst d
   split at h
   ·rename_i b
    cases h
    rw [Vq,Vq] at b
    exact ⟨_,_,rfl,(O.gl b.1.1).1,O.no _ b.1.2,b.2⟩
   ·cases h
  ·cases h
 ·cases h
theorem Qe (O:Okx S F k c X){r:Expr->ME}(b:∀ e,QE X e (r e))(e:Expr):QJT X e (yW S r c e):=by
 unfold yW
 split
 ·rename_i a h
  obtain ⟨p,l,rfl,d,i,j⟩:=Qd O h
  exact Oa d i (hV b [a] (by rw [Wf,j];rfl))
 ·exact (Ep O b e).t
theorem Qf (O:Okx S F k c X){e a b:Expr}(h:yX S c e=some (a,b)):∃ p pos,e=.Call (.Name "zip" p) [a,b] [] pos/\Gl X "zip"/\X.mg "zip" = none/\c8 a=true/\c8 b=true:=by
 unfold yX at h
 split at h
 ·split at h
  ·rename_i i
   subst i
   split at h
   ·rename_i d
    cases h
    rw [Vq,Vq,Vq] at d
    exact ⟨_,_,rfl,(O.gl d.1.1.1).1,O.no _ d.1.1.2,d.1.2,d.2⟩
   ·cases h
  ·cases h
 ·cases h
theorem Qg (O:Okx S F k c X){r:Expr->ME}(d:∀ e,QE X e (r e))(e:Expr):QJT X e (yY S r c e):=by
 unfold yY
 split
 ·rename_i a b h
  obtain ⟨p,n,rfl,i,j,l,m⟩:=Qf O h
  exact OV i j (hV d [a,b] (by rw [Wf,Wf,l,m];rfl))
 ·exact Qe O d e
theorem zH (O:Okx S F k c X){r:Expr->ME}(a:∀ e,QE X e (r e))(tg e:Expr):PI X tg e (jO X.K (uA S r c tg e)):=by
 unfold uA
 split
 ·exact (Qg O a e).h _ _ _
 ·exact (Ep O a e).h _
theorem Er {iter:Expr}{env:Z7}(h:fC iter=true):∀ x,Y8 iter env x=pure x:=by
 intro z
 cases iter<;>first|rfl|cases h
end
theorem Es {X:Cx}(c:X.N.Nodup):∀ (es:List Expr)(xs:List Str)(n:Nat),(es.mapM fun e=>match e with|.Name x _=>some x|_=>none)=some xs->(∀ j x,xs[j]? = some x->X.N[n+j]? = some x/\X.env.scope.names.lookup x=some .local)->QGs X es (ZN n xs.length)
 | [],xs,n,h,hx=>by
  cases h
  exact Cm
 | e::es,xs,n,h,hx=>by
  rw [List.mapM_cons] at h
  obtain ⟨x,b,h⟩:=Vj.mp h
  obtain ⟨l,d,h⟩:=Vj.mp h
  cases h
  cases e with
  | Name y p=>
   cases b
   rw [V1,ZZ]
   have a:=hx 0 x rfl
   refine Cn n c (Es c es l (n+1) d fun j z i=>?_) (by simpa using a.1) (.inl a.2) (.inr a.2)
   have:=hx (j+1) z (by simpa using i)
   rw [show n+1+j=n+(j+1) by omega]
   exact this
  | _=>cases b
theorem uD {S:Sig}{F:Str->MF}{k:Nat}{c:Cs}{X:Cx}(O:Okx S F k c X){scope:X1}{tg:Expr}{xs:List Str}(b:yZ tg=some xs)(h:qO c scope xs=true)(e:List (Str×Addr))(C:Addr)(s₀:Vp)(H₀:Hp)(i:List Addr) :
  PG (c7 X scope e C (bM xs X.N++xs) s₀ H₀ i) tg (f6 X.K (gB X.N.length (y8 tg xs.length)))/\∀ d n z,y8 tg xs.length d n=some z->z.length=xs.length:=by
 obtain ⟨St,hnd⟩:=uC O h
 have o:(bM xs X.N++xs).Nodup:=Ek St.hnd hnd fun x b=>St.own (x,.local) (WG (St.here x b)) rfl
 have a:∀ x∈xs,(a4J scope X.env).names.lookup x=some .local:=fun x b=>lookup_relabel_local (St.here x b)
 unfold yZ at b
 split at b
 ·rename_i x p
  cases b
  refine ⟨Ms (X:=c7 X scope e C (bM [x] X.N++[x]) s₀ H₀ i) (by show (bM [x] X.N++[x]).length=_;rw [VR,lS];rfl) (B3 (X:=c7 X scope e C (bM [x] X.N++[x]) s₀ H₀ i) o (by show (bM [x] X.N++[x])[X.N.length]? = _;rw [<- lS [x] X.N];simp) (.inl (a x (by simp))) (.inr (a x (by simp)))),fun d n z m=>?_⟩
  cases m
  rfl
 ·rename_i r v pt
  refine ⟨Mt (X:=c7 X scope e C (bM xs X.N++xs) s₀ H₀ i) (by show (bM xs X.N++xs).length=_;rw [VR,lS]) (w9 (X:=c7 X scope e C (bM xs X.N++xs) s₀ H₀ i) (Es (X:=c7 X scope e C (bM xs X.N++xs) s₀ H₀ i) o r xs X.N.length b fun j x q=>⟨?_,a x (V8 q)⟩) O.calm).h,fun d n z m=>?_⟩
  ·show (bM xs X.N++xs)[X.N.length+j]? = some x
   rw [Xh (by rw [lS];omega),lS,show X.N.length+j - X.N.length=j by omega]
   exact q
  ·obtain ⟨w,u,l⟩:=Vj.mp m
   split at l
   ·rename_i s
    cases l
    rw [Vm];exact s
   ·cases l
 ·cases b
theorem Qh (O:Okx S F k c X){r:Expr->ME}(i:∀ e,QE X e (r e))(f:Expr)(args:List Expr)(b:W4):QE X (.Call f args [] b) (yT S F r c f args b):=by
 unfold yT
 split
 ·rename_i q h
  split
  ·rename_i a
   rw [Vq,Vq,Vq,Vq,Vq] at a
   obtain ⟨⟨⟨⟨⟨m,n⟩,u⟩,v⟩,st⟩,s⟩:=a
   obtain ⟨t,o,l⟩:=Vj.mp h
   split at l
   ·rename_i d
    obtain ⟨p,x,w,rfl,rfl⟩:=P2 o
    rw [d.1,d.2,P4 l]
    exact Pj O.calm O.room.units (O.no _ u) (O.no _ v) (O.gl m).1 (O.gl n).1 (i _) st s
   ·cases l
  ·exact bW
 split
 ·rename_i e h
  split
  ·rename_i a
   rw [Vq] at a
   unfold yO at h
   split at h
   ·split at h
    ·split at h
     ·rename_i j;subst j
      cases h
      exact Ci (Pp O.calm) PZ (O.no _ a.2) YO (hV i _ rfl) (O.gl a.1).1 (by decide) (O.gl a.1).2
     ·split at h
      ·cases h
      ·cases h
    ·cases h
   ·cases h
  ·exact bW
 ·rename_i e h
  split
  ·rename_i a
   rw [Vq] at a
   unfold yO at h
   split at h
   ·split at h
    ·split at h
     ·cases h
     ·split at h
      ·rename_i j;subst j
       cases h
       exact Cj PD P0 (O.no _ a.2) X3 (hV i _ rfl) (O.gl a.1).1 (by decide) (O.gl a.1).2
      ·cases h
    ·cases h
   ·cases h
  ·exact bW
 exact Qc O i _ _ _
theorem Et {S:Sig}{F:Str->MF}{k:Nat}{n:Cs->Expr->ME}{o:Cs->Expr->MT}(p:∀ c X,Okx S F k c X->∀ e,QE X e (n c e))(r:∀ c X,Okx S F k c X->∀ e,QT X e (o c e))(c:Cs)(X:Cx)(O:Okx S F k c X)
  (elt tg iter:Expr)(ifs:List Expr)(scope:X1)(pos:W4){m:MI}(u:PI X tg iter (jO X.K m)):QE X (.ListComp elt [⟨tg,iter,ifs,0⟩] scope pos) (qQ m n o c elt tg iter ifs scope):=by
 unfold qQ
 split
 ·rename_i x l
  split
  ·rename_i h
   rw [Vq] at h
   refine ⟨fun i s w H Q I q=>?_⟩
   exact Mv ((uC O h.1).1.ok I.ok) O.calm u (fun d v z=>(uD O l h.1 [] 0 s H []).2 d v z) (fun C b a j=>(uD O l h.1 _ C b a j).1) (fun C b a j=>(Em (r _ _ (O.comp h.1)) _).h) (fun C b a j=>(p _ _ (O.comp h.1) _).h) (Er h.2) i s w H Q I q
  ·exact bW
 ·exact bW
theorem Qi {S:Sig}{F:Str->MF}{k:Nat}{b:Cs->Expr->ME}{d:Cs->Expr->MT}(a:∀ c X,Okx S F k c X->∀ e,QE X e (b c e))(h:∀ c X,Okx S F k c X->∀ e,QT X e (d c e))(c:Cs)(X:Cx)(O:Okx S F k c X)
  (elt tg iter:Expr)(ifs:List Expr)(scope:X1)(pos:W4):QE X (.ListComp elt [⟨tg,iter,ifs,0⟩] scope pos) (uB S b d c elt tg iter ifs scope):=by
 unfold uB
 exact Et a h c X O elt tg iter ifs scope pos (zH O (a c X O) tg iter)
theorem Qj {S:Sig}{F:Str->MF}{k:Nat}{c:Cs}{X:Cx}(O:Okx S F k c X){a b:Expr}{h i:ME}(d:QE X a h)(e:QE X b i)(op:YS)(pos:W4):QE X (.Compare a [op] [b] pos) (oP op h i):=by
 unfold oP
 split
 ·exact PJ O.room d e
 ·exact PK O.room d e
 ·exact bW
theorem Qk {S:Sig}{F:Str->MF}{k:Nat}{c:Cs}{X:Cx}(O:Okx S F k c X){a b:Expr}{h i:ME}(d:QE X a h)(e:QE X b i)(op:YS)(pos:W4):QT X (.Compare a [op] [b] pos) (aO (oP op h i)):=by
 unfold oP
 split
 ·exact PL O.room d e
 ·exact PM O.room d e
 ·exact ⟨fun j s r H Q I q=>by
   obtain ⟨o,p,n,b,m,R,E,l,k⟩:=q
   cases l⟩
section
variable {S:Sig}{F:Str->MF}{k:Nat}{c:Cs}{X:Cx}{r:Expr->ME}
theorem Ql (v:Const)(n:Nat)(p:W4):QE X (.Constant v n p) (Ed v):=by
 cases v<;>first|exact Li|exact Lj|exact Lk|exact Ll|exact bW
theorem Qm (b:∀ e,QE X e (r e))(op:UnaryOp)(a:Expr)(p:W4):QE X (.UnaryOp op a p) (Ee (r a) op):=by
 cases op<;>first|exact Lr (b _)|exact Ls (b _)|exact bW
theorem Qn (O:Okx S F k c X)(b:∀ e,QE X e (r e))(a:Expr)(ops:List YS)(bs:List Expr)(p:W4):QE X (.Compare a ops bs p) (y9 S r a ops bs):=by
 unfold y9
 split
 ·split
  ·exact Qj O (b _) (b _) _ _
  ·exact P9 O (b _) (b _) _ _
 ·split
  ·rename_i d h
   exact NR d h (b _) (b _) (b _)
  ·exact bW
 ·exact bW
theorem Qo (O:Okx S F k c X)(a:∀ e,QE X e (r e))(ks:List (Option Expr))(vs:List Expr)(p:W4):QE X (.Dict ks vs p) (zA r ks vs):=by
 unfold zA
 try split
 ·exact Ox
 ·exact Pm O.room (a _) (a _)
 ·exact bW
theorem Qp (O:Okx S F k c X)(d:∀ e,QE X e (r e))(a b:Expr)(p:W4):QE X (.Subscript a b p) (zB S r c a b):=by
 unfold zB
 split
 ·exact LR (d _) (qS d _) (qS d _)
 ·exact N5 (d _) (qS d _) (qS d _) (qS d _)
 ·split
  ·rename_i h
   ·exact OL O.room (d _) (d _) h
  ·exact bW
theorem zI (a:∀ e,QE X e (r e))(e:Expr):QT X e (qR r e):=by
 unfold qR
 split
 ·rename_i h;exact MV (a _) h
 ·exact xB
theorem Qq (O:Okx S F k c X)(b:∀ e,QE X e (r e))(a:Expr)(ops:List YS)(bs:List Expr)(p:W4):QT X (.Compare a ops bs p) (zG S r a ops bs p):=by
 unfold zG
 split
 ·split
  ·exact Qk O (b _) (b _) _ _
  ·exact Qa O (b _) (b _) _ _
 ·split
  ·rename_i d h
   exact NS d h (b _) (b _) (b _)
  ·exact xB
 ·exact zI b _
theorem Qr (a:∀ e,QE X e (r e))(es:List Expr)(n:Nat)(p:W4):QE X (.Tuple es n p) (zC r es):=by
 unfold zC
 split
 ·rename_i h;exact LM (hV a _ h)
 ·exact bW
theorem Qs (a:∀ e,QE X e (r e))(es:List Expr)(p:W4):QE X (.List es p) (zD r es):=by
 unfold zD
 split
 ·rename_i h;exact LN (hV a _ h)
 ·exact bW
theorem Qt (O:Okx S F k c X)(b:∀ e,QE X e (r e))(f:Expr)(args:List Expr)(a:List Ze)(p:W4):QE X (.Call f args a p) (zE S F r c f args p a):=by
 unfold zE
 split
 ·exact Qh O b _ _ _
 ·exact bW
end
theorem Eu {S:Sig}{F:Str->MF}{k:Nat}{r:Cs->Expr->ME}{s:Cs->Expr->MT}(B:∀ c X,Okx S F k c X->∀ e,QE X e (r c e))(E:∀ c X,Okx S F k c X->∀ e,QT X e (s c e))(c:Cs)(X:Cx)(O:Okx S F k c X) :
  (∀ e,QE X e (Ef S F r s c e))/\∀ e,QT X e (Eg S r s c e):=by
 have d:=B c X O
 have y:=E c X O
 constructor
 ·intro e
  cases e with
  | Name x p=>exact P7 O _ _
  | Constant v n p=>exact Ql v n p
  | BinOp a l b p=>exact P8 (d _) (d _) _ _
  | UnaryOp l a p=>exact Qm d l a p
  | Compare a i bs p=>exact Qn O d a i bs p
  | BoolOp l A p=>exact Eh d _ _ _
  | IfExp t a b p=>exact LH (y _) (d _) (d _)
  | Tuple w n p=>exact Qr d w n p
  | List w p=>exact Qs d w p
  | Dict I A p=>exact Qo O d I A p
  | Subscript a b p=>exact Qp O d a b p
  | Call f m z q=>exact Qt O d f m z q
  | Attribute o a p=>
   show QE X _ (if i0 o then jU a (fun x=>S.cls.lookup x == some a) (r c o) else bS)
   split
   ·rename_i h
    exact CZ (d _) h fun x H=>O.xc.att x a (beq_iff_eq.mp H)
   ·exact bW
  | ListComp u G j p=>
   show QE X _ (zF S r s c u j G)
   unfold zF
   split
   ·exact Qi B E c X O _ _ _ _ _ _
   ·exact bW
  | _=>exact bW
 ·intro e
  cases e with
  | BoolOp l A p=>exact L9 (Ei y _ _ _)
  | UnaryOp l a p=>
   cases l
   case Not=>exact L4 (y _)
   all_goals exact zI d _
  | Compare a i bs p=>exact Qq O d a i bs p
  | _=>exact zI d _
theorem mO {S:Sig}{F:Str->MF}{k:Nat}:∀ (n:Nat),(∀ c X,Okx S F k c X->∀ e,QE X e ((tr S F n).1 c e))/\∀ c X,Okx S F k c X->∀ e,QT X e ((tr S F n).2 c e)
 | 0=>⟨fun c X O e=>bW,fun c X O e=>xB⟩
 | n+1=>by
  have a:=mO (S:=S) (F:=F) (k:=k) n
  exact ⟨fun c X O e=>(Eu a.1 a.2 c X O).1 e,fun c X O e=>(Eu a.1 a.2 c X O).2 e⟩
end L3
namespace L3
open PySem L2
noncomputable def uE:MG:=fun _ _ _=>none
noncomputable def qT (c:Cs):List Expr->Option (List Nat)
 | []=>some []
 | .Name x _::r=>if jX c x then (gF x c.N).bind fun i=>(qT c r).map (i::·) else none
 | _=>none
noncomputable def zJ (c:Cs):Expr->MG
 | .Name x _=>if jX c x then (match gF x c.N with|some i=>dF i|none=>uE) else uE
 | .Tuple es _ _=>match qT c es with|some a=>cX a|none=>uE
 | _=>uE
noncomputable def jZ (r:Stmt->MS):List Stmt->MS
 | []=>bG
 | [s]=>r s
 | s::t=>aI (r s) (jZ r t)
noncomputable def zK (S:Sig)(E:Cs->Expr->ME)(T:Cs->Expr->MT)(c:Cs)(i:Nat):Expr->MS
 | .ListComp elt [⟨tg,iter,ifs,0⟩] scope _=>aR i (uB S E T c elt tg iter ifs scope)
 | _=>cJ
noncomputable def zL (S:Sig)(E:Cs->Expr->ME)(T:Cs->Expr->MT)(c:Cs)(tg e:Expr):MS:=match tg with
 | .Name y _=>if jX c y then (match gF y c.N with
   | some i=>if eP e then aR i (E c e) else zK S E T c i e
   | none=>cJ) else cJ
 | .Tuple es _ _=>if xA e then (match qT c es with|some a=>fA (E c e) (cX a)|none=>cJ)
   else cJ
 | .Subscript o i _=>if eP e&&nH i then iM (E c o) (E c i) (E c e) else cJ
 | _=>cJ
noncomputable def oR:Nat:=1000000000
noncomputable def zM (S:Sig)(E:Cs->Expr->ME)(T:Cs->Expr->MT)(c:Cs)(r:Stmt->MS):Stmt->MS
 | .Return (some e) _=>aQ (E c e)
 | .Return none _=>aQ (mC .non)
 | .If t a b _=>bD (T c t) (jZ r a) (jZ r b)
 | .Assign [tg] e _=>zL S E T c tg e
 | .Expr e _=>if eP e then dS (E c e) else cJ
 | .For tg iter body [] _=>if fC iter then cQ (uA S (E c) c tg iter) (zJ c tg) (jZ r body) else cJ
 | .While t body [] _=>nO oR (T c t) (jZ r body)
 | .Pass _=>bG
 | _=>cJ
noncomputable def Ew (S:Sig)(F:Str->MF)(m:Nat)(c:Cs):Nat->Stmt->MS
 | 0=>fun _=>cJ
 | n+1=>zM S (tr S F m).1 (tr S F m).2 c (Ew S F m c n)
section
variable {S:Sig}{F:Str->MF}{k:Nat}{c:Cs}{X:Cx}
theorem Okx.own (O:Okx S F k c X){x:Str}(h:jX c x=true):L2.Loc X.env.scope x:=by
 unfold jX at h
 rw [Yb] at h
 unfold L2.Loc
 rw [O.ks]
 exact h.imp of_decide_eq_true of_decide_eq_true
theorem zN (O:Okx S F k c X)(a:∀ x,X.fn x=true):∀ (es:List Expr)(is:List Nat),qT c es=some is->QGs X es is
 | [],is,h=>by cases h;exact Cm
 | e::es,is,h=>by
  cases e with
  | Name x p=>
   unfold qT at h
   split at h
   ·rename_i j
    obtain ⟨i,b,h⟩:=Vj.mp h
    obtain ⟨l,d,h⟩:=Vn.mp h
    subst h
    exact Cn i O.nd (zN O a es l d) (by rw [O.N];exact kX b) (O.own j) (.inl (a x))
   ·cases h
  | _=>cases h
theorem Qu (O:Okx S F k c X)(b:∀ x,X.fn x=true)(e:Expr):QG X e (zJ c e):=by
 unfold zJ
 split
 ·split
  ·rename_i d
   split
   ·rename_i i a
    exact Mj i O.nd (by rw [O.N];exact kX a) (O.own d) (.inl (b _))
   ·exact sM fun _ _ _=>rfl
  ·exact sM fun _ _ _=>rfl
 ·split
  ·rename_i h a
   exact w9 (zN O b _ h a) O.calm
  ·exact sM fun _ _ _=>rfl
 ·exact sM fun _ _ _=>rfl
theorem kZ {r:Stmt->MS}(a:∀ s,QS X s (r s)):∀ b:List Stmt,QB X b (jZ r b)
 | []=>Mc
 | [s]=>Me (a s)
 | s::t::ts=>Md (a s) (kZ a (t::ts))
theorem Qv {elt tg iter:Expr}{ifs:List Expr}{scope:X1}{pos py:W4}{y:Str}{n:Nat}{env:Z7} :
  ∃ b:Bool,ZQ (.ListComp elt [⟨tg,iter,ifs,0⟩] scope pos) (some (.Name y py)) n env=pure b/\(b=true->env.kindOf y=some .local):=by
 refine ⟨env.blockKind == .function&&env.kindOf y == some .local&&py.line == pos.line&&!(scope.names.any fun (n,k)=>n == y&&(k == .local||k == .cell)),rfl,fun h=>?_⟩
 simp only [Vq,beq_iff_eq] at h
 exact h.1.1.2
theorem Qw (O:Okx S F k c X)(G:∀ x,X.fn x=true){E:Cs->Expr->ME}{T:Cs->Expr->MT}(u:∀ c X,Okx S F k c X->∀ e,QE X e (E c e))(v:∀ c X,Okx S F k c X->∀ e,QT X e (T c e))
  {i:Nat}{y:Str}{py l:W4}(w:X.N[i]? = some y)(J:jX c y=true)(elt tg iter:Expr)(ifs:List Expr)(scope:X1)(pos:W4){B:MI}(n:PI X tg iter (jO X.K B)):QS X (.Assign [.Name y py] (.ListComp elt [⟨tg,iter,ifs,0⟩] scope pos) l) (aR i (qQ B E T c elt tg iter ifs scope)):=by
  obtain ⟨b,m,r⟩:=Qv (elt:=elt) (tg:=tg) (iter:=iter) (ifs:=ifs) (scope:=scope) (pos:=pos) (py:=py) (y:=y) (n:=l.line) (env:=X.env)
  cases b with
  | false=>exact ⟨BN O.nd w (O.own J) (Et u v c X O elt tg iter ifs scope pos n).h m (.inl (G y))⟩
  | true=>
   unfold qQ
   split
   ·rename_i M A
    split
    ·rename_i h
     rw [Vq] at h
     refine ⟨fun o s L H D I q=>?_⟩
     exact Mw ((uC O h.1).1.ok I.ok) O.nd O.calm n (fun d K z=>(uD O A h.1 [] 0 s H []).2 d K z) (fun C j a p=>(uD O A h.1 _ C j a p).1) (fun C j a p=>(Em (v _ _ (O.comp h.1)) _).h) (fun C j a p=>(u _ _ (O.comp h.1) _).h) (Er h.2) w (r rfl) m o s L H D I q
    ·exact Dp
   ·exact Dp
theorem Qx (O:Okx S F k c X)(h:∀ x,X.fn x=true){E:Cs->Expr->ME}{T:Cs->Expr->MT}(b:∀ c X,Okx S F k c X->∀ e,QE X e (E c e))(d:∀ c X,Okx S F k c X->∀ e,QT X e (T c e))
  {i:Nat}{y:Str}{py a:W4}(j:X.N[i]? = some y)(l:jX c y=true)(e:Expr):QS X (.Assign [.Name y py] e a) (zK S E T c i e):=by
 unfold zK
 split
 ·exact Qw O h b d j l _ _ _ _ _ _ (zH O (b c X O) _ _)
 ·exact c9
theorem Qy (O:Okx S F k c X)(d:∀ x,X.fn x=true){E:Cs->Expr->ME}{T:Cs->Expr->MT}(b:∀ c X,Okx S F k c X->∀ e,QE X e (E c e))(n:∀ c X,Okx S F k c X->∀ e,QT X e (T c e))(tg e:Expr)(pos:W4) :
  QS X (.Assign [tg] e pos) (zL S E T c tg e):=by
 unfold zL
 split
 ·split
  ·rename_i m
   split
   ·rename_i i j
    have a:=kX j
    rw [<- O.N] at a
    split
    ·rename_i l
     exact Ck i O.nd (b c X O e) l a (O.own m) (.inl (d _))
    ·exact Qx O d b n a m e
   ·exact c9
  ·exact c9
 ·split
  ·rename_i l
   split
   ·rename_i o j
    exact Mm (b c X O e) (w9 (zN O d _ o j) O.calm) l
   ·exact c9
  ·exact c9
 ·split
  ·rename_i h
   rw [Vq] at h
   exact OQ O.room (b c X O _) (b c X O _) (b c X O _) h.1
  ·exact c9
 ·exact c9
theorem Ey (O:Okx S F k c X)(u:∀ x,X.fn x=true){E:Cs->Expr->ME}{T:Cs->Expr->MT}(l:∀ c X,Okx S F k c X->∀ e,QE X e (E c e))(n:∀ c X,Okx S F k c X->∀ e,QT X e (T c e)){r:Stmt->MS}(m:∀ s,QS X s (r s))(st:Stmt) :
  QS X st (zM S E T c r st):=by
 cases st with
 | Return o p=>
  cases o with
  | none=>exact MY
  | some e=>exact Mg (l c X O _)
 | If t a b p=>exact Mi (n c X O _) (kZ m _) (kZ m _)
 | Assign q e p=>
  cases q with
  | nil=>exact c9
  | cons v w=>
   cases w with
   | nil=>exact Qy O u l n _ _ _
   | cons _ _=>exact c9
 | Expr e p=>
  show QS X _ (if eP e then dS (E c e) else cJ)
  split
  ·rename_i h;exact Mh (l c X O _) h
  ·exact c9
 | For v j i d p=>
  cases d with
  | cons _ _=>exact c9
  | nil=>
   show QS X _ (if fC j then _ else cJ)
   split
   ·rename_i h
    exact Ob (zH O (l c X O) _ _) (Qu O u _) (kZ m _) O.never O.calm h
   ·exact c9
 | While t i d p=>
  cases d with
  | nil=>exact MX _ (n c X O _) (kZ m _) O.never
  | cons _ _=>exact c9
 | Pass p=>exact Mf
 | _=>exact c9
theorem Qz (O:Okx S F k c X)(a:∀ x,X.fn x=true)(m:Nat):∀ (n:Nat)(st:Stmt),QS X st (Ew S F m c n st)
 | 0,_=>c9
 | n+1,st=>Ey O a (mO m).1 (mO m).2 (Qz O a m n) st
end
noncomputable def mP (S:Sig)(G:Str->RF)(E:Expr->ME)(c:Cs):Expr->MR
 | .Call f args kws _=>(match f,args,kws with
  | .Name x _,e::es,[]=>if glob c x&&decide (S.fn.lookup x=some (e::es).length)&&(e::es).all c8&&S.rz.contains x then kQ (G x) (fE E (e::es)) else bU
  | _,_,_=>bU)
 | _=>bU
noncomputable def uF:Option Expr->Option (Str×List Expr)
 | some (.Call f args kws _)=>(match f,kws with
  | .Name x _,[]=>some (x,args)
  | _,_=>none)
 | _=>none
theorem QC {e:Option Expr}{x:Str}{args:List Expr}(h:uF e=some (x,args)):∃ p q,e=some (.Call (.Name x p) args [] q):=by
 unfold uF at h
 split at h
 ·split at h
  ·cases h;exact ⟨_,_,rfl⟩
  ·cases h
 ·cases h
noncomputable def QD:Nat->Bool
 | _+2=>true
 | _=>false
noncomputable def uG (S:Sig)(k:Nat)(E:Expr->ME)(c:Cs)(x:Str)(args:List Expr):MR:=
 if glob c x then (match S.cls.lookup x with
  | some a=>(match args with
   | [e]=>if QD k&&c8 e then nV x a (E e) else bU
   | _=>bU)
  | none=>bU
  ) else bU
noncomputable def oS (N:Stmt->MS)(r:Stmt->MR):List Stmt->MR
 | []=>bU
 | s::t=>cY (N s) (r s) (oS N r t)
noncomputable def qU:List Expr->Bool
 | [t]=>(oQ t).isSome
 | _=>false
theorem QF {tg:List Expr}(h:qU tg=true):∃ x p,tg=[.Name x p]:=by
 cases tg with
 | nil=>cases h
 | cons t a=>
  cases a with
  | cons _ _=>cases h
  | nil=>
   cases t with
   | Name x p=>exact ⟨x,p,rfl⟩
   | _=>cases h
noncomputable def Ez (S:Sig)(G:Str->RF)(k:Nat)(E:Expr->ME)(T:Expr->MT)(c:Cs)(N:Stmt->MS)(r:Stmt->MR):Stmt->MR
 | .Expr e _=>if eP e then mP S G E c e else bU
 | .Return (some e) _=>mP S G E c e
 | .Assign tg e _=>if qU tg&&eP e then mP S G E c e else bU
 | .If t a b _=>nP (T t) (oS N r a) (oS N r b)
 | .Raise e o _=>if o.isNone then (match uF e with
  | some q=>uG S k E c q.1 q.2
  | none=>bU) else bU
 | _=>bU
noncomputable def uH (S:Sig)(c:Cs):Expr->ME
 | .Name x _=>if jK c x then (match gF x c.N with|some i=>aA i|none=>bS) else bS
 | .Attribute o a _=>(match o with
  | .Name x _=>if jK c x then (match gF x c.N with|some i=>jU a (fun x=>S.cls.lookup x == some a) (aA i)|none=>bS) else bS
  | _=>bS)
 | _=>bS
noncomputable def EA (S:Sig)(c:Cs):Stmt->MS
 | .Assign tg e _=>(match tg with
  | [t]=>(match oQ t with
   | some y=>if jX c y&&eP e then (match gF y c.N with|some i=>aR i (uH S c e)|none=>cJ) else cJ
   | none=>cJ)
  | _=>cJ)
 | _=>cJ
noncomputable def zO:List a2Z->Option (Str×Str×List Stmt)
 | [.ExceptHandler (some t) (some y) (b::bs) _]=>(match t with
  | .Name cn _=>some (cn,y,b::bs)
  | _=>none)
 | _=>none
theorem QH {a:List a2Z}{q:Str×Str×List Stmt}(h:zO a=some q):∃ p c b bs,a=[.ExceptHandler (some (.Name q.1 p)) (some q.2.1) (b::bs) c]/\q.2.2=b::bs:=by
 unfold zO at h
 split at h
 ·split at h
  ·cases h;exact ⟨_,_,_,_,rfl,rfl⟩
  ·cases h
 ·cases h
noncomputable def EB (S:Sig)(c:Cs)(N:Stmt->MS)(r:Stmt->MR)(body:List Stmt)(a:List a2Z):MS:=match zO a with
 | some q=>if glob c q.1&&(S.sup.lookup q.1).isSome&&decide (c.ks.lookup q.2.1=some .local) then (match gF q.2.1 c.N with
  | some i=>kR (jZ N body) (oS N r body) (fun x=>(S.sup.lookup x).map fun b=>b.contains q.1) i (jZ (EA S c) q.2.2)
  | none=>cJ) else cJ
 | none=>cJ
noncomputable def zP (S:Sig)(E:Cs->Expr->ME)(T:Cs->Expr->MT)(c:Cs)(N:Stmt->MS)(r:Stmt->MR):Stmt->MS
 | .Try body hs [] [] _=>EB S c N r body hs
 | st=>zM S E T c N st
noncomputable def iN (S:Sig)(F:Str->MF)(G:Str->RF)(k m:Nat)(c:Cs):Nat->(Stmt->MS)×(Stmt->MR)
 | 0=>(fun _=>cJ,fun _=>bU)
 | n+1=>(zP S (tr S F m).1 (tr S F m).2 c (iN S F G k m c n).1 (iN S F G k m c n).2,Ez S G k ((tr S F m).1 c) ((tr S F m).2 c) c (iN S F G k m c n).1 (iN S F G k m c n).2)
structure Okr (S:Sig)(F:Str->MF)(G:Str->RF)(k:Nat)(c:Cs)(Y:Cx):Prop where
 o:Okx S F k c Y.nox
 ex:Y.ex=[]
 st:Y.stack=Y.env::Y.outer
 fr:∃ L,Y.env.frame=some L
 own:∀ x,Y.fn x=true
 rf:∀ x n,S.fn.lookup x=some n->∃ (f:Addr)(fd:Xc)(ps:List Str),FnOk Y.prog Y.w Y.K Y.mg Y.base (iK Y.prog Y.w) k f fd ps (nQ Y.K n (G x))/\Y.mg x=some (.ref f)/\Ww Y.K (.ref f)=true/\Binds Y.K fd ps []
section
variable {S:Sig}{F:Str->MF}{G:Str->RF}{k:Nat}{c:Cs}{Y:Cx}
theorem zQ (O:Okr S F G k c Y){E:Expr->ME}(n:∀ e,QE Y.nox e (E e))(e:Expr):QRE Y e (mP S G E c e):=by
 unfold mP
 split
 ·split
  ·split
   ·rename_i h
    rw [Vq,Vq,Vq,decide_eq_true_eq] at h
    obtain ⟨⟨⟨a,b⟩,d⟩,_⟩:=h
    obtain ⟨f,o,p,i,j,l,m⟩:=O.rf _ _ b
    exact Nk O.ex i O.o.room (O.o.gl a).1 j l m (hV n _ d) (O.o.gl a).2
   ·exact xT
  ·exact xT
 ·exact xT
theorem QK (O:Okr S F G k c Y){E:Expr->ME}(d:∀ e,QE Y.nox e (E e))(x:Str)(args:List Expr)(p q pos:W4):QR Y (.Raise (some (.Call (.Name x p) args [] q)) none pos) (uG S k E c x args):=by
 unfold uG
 split
 ·rename_i b
  split
  ·rename_i a i
   split
   ·split
    ·rename_i h
     rw [Vq] at h
     obtain ⟨C,f,B,u,v,w,s,j,l,m,n,o,r⟩:=O.o.xc.init x a i
     match k,h.1,O with
     | k+2,_,O=>exact NG (k:=k+1) j l m (n _ _ _ _ k) o r O.o.room O.ex O.o.calm (O.o.gl b).1 (d _) h.2 (O.o.gl b).2
    ·exact iL
   ·exact iL
  ·exact iL
 ·exact iL
theorem qV {N:Stmt->MS}{r:Stmt->MR}(a:∀ s,QS Y.nox s (N s))(b:∀ s,QR Y s (r s)):∀ d:List Stmt,QRB Y d (oS N r d)
 | []=>Ni
 | s::t=>Nh (a s) (b s) (qV a b t)
theorem QL (O:Okr S F G k c Y){E:Expr->ME}{T:Expr->MT}(d:∀ e,QE Y.nox e (E e))(m:∀ e,QT Y.nox e (T e)){N:Stmt->MS}{r:Stmt->MR}(j:∀ s,QS Y.nox s (N s))(l:∀ s,QR Y s (r s))(st:Stmt):QR Y st (Ez S G k E T c N r st):=by
 cases st with
 | Expr e p=>
  show QR Y _ (if eP e then mP S G E c e else bU)
  split
  ·rename_i h;exact Nd (zQ O d _) h
  ·exact iL
 | Return o p=>
  cases o with
  | none=>exact iL
  | some e=>exact Nf (zQ O d _)
 | Assign u e p=>
  show QR Y _ (if qU u&&eP e then mP S G E c e else bU)
  split
  ·rename_i h
   rw [Vq] at h
   obtain ⟨x,p,rfl⟩:=QF h.1
   exact Ng (zQ O d _) h.2
  ·exact iL
 | If t a b p=>exact Nj (m _) (qV j l _) (qV j l _)
 | Raise e o p=>
  cases o with
  | some _=>exact iL
  | none=>
   show QR Y _ (match uF e with
    | some q=>uG S k E c q.1 q.2
    | none=>bU)
   split
   ·rename_i q n
    obtain ⟨x,i⟩:=q
    obtain ⟨v,w,rfl⟩:=QC n
    exact QK O d _ _ _ _ _
   ·exact iL
 | _=>exact iL
theorem QM (O:Okr S F G k c Y)(v:Value)(e:Expr):QE (Y.hnd v) e (uH S c e):=by
 have b:∀ x p i,jK c x=true->gF x c.N=some i->QE (Y.hnd v) (.Name x p) (aA i):=fun x p i h a=>by
  obtain ⟨d,j,l⟩:=O.o.vis h
  exact Cf (X:=Y.hnd v) i (by show Y.N[i]? = some x;rw [show Y.N=c.N from O.o.N];exact kX a) d j l
 unfold uH
 split
 ·split
  ·rename_i h
   split
   ·rename_i i a;exact b _ _ i h a
   ·exact bW
  ·exact bW
 ·split
  ·split
   ·rename_i h
    split
    ·rename_i i a
     exact CZ (b _ _ i h a) rfl fun x m=>O.o.xc.att x _ (beq_iff_eq.mp m)
    ·exact bW
   ·exact bW
  ·exact bW
 ·exact bW
theorem QN (O:Okr S F G k c Y)(v:Value)(st:Stmt):QS (Y.hnd v) st (EA S c st):=by
 cases st with
 | Assign b e p=>
  cases b with
  | nil=>exact c9
  | cons t d=>
   cases d with
   | cons _ _=>exact c9
   | nil=>
    cases t with
    | Name y p=>
     show QS _ _ (if jX c y&&eP e then (match gF y c.N with|some i=>aR i (uH S c e)|none=>cJ) else cJ)
     split
     ·rename_i h
      rw [Vq] at h
      split
      ·rename_i i a
       exact Ck (X:=Y.hnd v) i O.o.nd (QM O v _) h.2 (by show Y.N[i]? = _;rw [show Y.N=c.N from O.o.N];exact kX a) (O.o.own h.1) (.inl (O.own _))
      ·exact c9
     ·exact c9
    | _=>exact c9
 | _=>exact c9
theorem uI {m:Nat}:∀ (n:Nat)(Y:Cx),Okr S F G k c Y->(∀ st,QS Y.nox st ((iN S F G k m c n).1 st))/\∀ st,QR Y st ((iN S F G k m c n).2 st)
 | 0,Y,O=>⟨fun _=>c9,fun _=>iL⟩
 | n+1,Y,O=>by
  have a:=uI (m:=m) n
  refine ⟨fun st=>?_,fun st=>QL O ((mO m).1 c _ O.o) ((mO m).2 c _ O.o) (a Y O).1 (a Y O).2 st⟩
  show QS Y.nox st (zP S (tr S F m).1 (tr S F m).2 c (iN S F G k m c n).1 (iN S F G k m c n).2 st)
  unfold zP
  split
  ·unfold EB
   split
   ·rename_i q w
    obtain ⟨B,H,b,bs,rfl,s⟩:=QH w
    split
    ·rename_i h
     rw [Vq,Vq,decide_eq_true_eq] at h
     obtain ⟨⟨e,o⟩,p⟩:=h
     split
     ·rename_i i u
      obtain ⟨L,r⟩:=O.fr
      refine Nr (X:=Y.nox) O.ex O.st r O.o.nd (by show Y.N[i]? = _;rw [show Y.N=c.N from O.o.N];exact kX u) (by rw [<- p,<- O.o.ks]) (O.o.gl e).1 (O.o.gl e).2 (fun x A y=>?_) (kZ (a Y O).1 _) (fun E=>?_) (fun v=>?_)
      ·obtain ⟨z,j,l⟩:=Vn.mp y
       rw [<- l]
       exact O.o.xc.sub x z _ j o
      ·have d:Okr S F G k c (Y.nox.wish E):=⟨O.o,O.ex,O.st,O.fr,O.own,O.rf⟩
       exact qV (a _ d).1 (a _ d).2 _
      ·rw [s]
       exact kZ (QN O v) (b::bs)
     ·exact c9
    ·exact c9
   ·exact c9
  ·exact Ey O.o O.own (mO m).1 (mO m).2 (a Y O).1 st
end
noncomputable def cZ (st:Stmt):List Str:=(gR st).args.map (·.arg)
noncomputable def gG (st:Stmt):List Str:=cZ st++(bR st).names.filterMap fun y=>if (y.2 == NameKind.local||y.2 == XE)&&!(cZ st).contains y.1 then some y.1 else none
noncomputable def k6 (st:Stmt):Bool:=
 decide ((bR st).kind=.function)&&!(bR st).isCoroutine&&!(bR st).isGenerator&&decide (gG st).Nodup &&
 ((cZ st).all fun x=>decide ((bR st).names.lookup x=some .local)||decide ((bR st).names.lookup x=some .cell))&&((bR st).names.all fun y=>decide (y.2≠.free))
theorem EC {st:Stmt}(h:k6 st=true):FnScope (gG st) (cZ st) (bR st):=by
 unfold k6 at h
 simp only [Vq,decide_eq_true_eq,ZP,WZ,Yb] at h
 obtain ⟨⟨⟨⟨⟨a,b⟩,c⟩,d⟩,e⟩,i⟩:=h
 exact ⟨a,b,c,d,by unfold gG;simp,e,i⟩
noncomputable def oU:Nat:=40
noncomputable def oV:Nat:=40
noncomputable def zR (S:Sig)(F:Str->MF)(G:Str->RF)(k:Nat)(st:Stmt):MF:=wL (gG st).length (jZ (iN S F G k oU ⟨gG st,(bR st).names⟩ oV).1 (dM st))
noncomputable def zS (S:Sig)(F:Str->MF)(G:Str->RF)(k:Nat)(st:Stmt):RF:=xU (gG st).length (oS (iN S F G k oU ⟨gG st,(bR st).names⟩ oV).1 (iN S F G k oU ⟨gG st,(bR st).names⟩ oV).2 (dM st))
noncomputable def oW (S:Sig)(ds:List (Str×Stmt)):Nat->(Str->MF)×(Str->RF)
 | 0=>(fun _ _ _=>none,fun _ _ _=>none)
 | k+1=>(fun x=>match ds.lookup x with
   | none=>fun _ _=>none
   | some st=>zR S (oW S ds k).1 (oW S ds k).2 k st,fun x=>match ds.lookup x with
   | none=>fun _ _=>none
   | some st=>zS S (oW S ds k).1 (oW S ds k).2 k st)
noncomputable def hW (S:Sig)(ds:List (Str×Stmt))(k:Nat):Str->MF:=(oW S ds k).1
noncomputable def k7 (S:Sig)(ds:List (Str×Stmt))(k:Nat):Str->RF:=(oW S ds k).2
structure DefAt (K:Vk)(mg:Str->Option Value)(x:Str)(st:Stmt):Prop where
 ex:∃ f fd,Fun K x x st f fd/\mg x=some (.ref f)/\Binds K fd (cZ st) []
structure TxtOk (P:VQ)(w:V6)(K:Vk)(mg:Str->Option Value)(S:Sig)(ds:List (Str×Stmt)):Prop where
 fns:∀ x n,S.fn.lookup x=some n->∃ st,ds.lookup x=some st/\(cZ st).length=n
 defs:∀ x st,ds.lookup x=some st->DefAt K mg x st/\k6 st=true
 con:∀ x d,S.con.lookup x=some d->∃ v u,mg x=some u/\RelV v u/\∀ π n H,IsD K π n H v d
 tab:∀ x kvs,S.tab.lookup x=some kvs->∃ (p:Addr)(vs:List (a9×V))(ws:List (a9×Value)),mg x=some (.ref p)/\(∀ h:Wj,K.In h->h.DictOf (lJ P w) p ws)/\KV vs ws/\∀ π n H,IsKs K π n H vs kvs
 no:∀ x,S.no.contains x=true->mg x=none
 xc:XcOk S K
theorem ED {P:VQ}{w:V6}{K:Vk}{z:Str->Option Value}{base:Wj}{S:Sig}{ds:List (Str×Stmt)}(T:TxtOk P w K z S ds):∀ (k:Nat)(x:Str)(st:Stmt)(f:Addr)(r:Xc),ds.lookup x=some st->Fun K x x st f r->
  FnOk P w K z base eE k f r (cZ st) (iF K (cZ st).length (hW S ds k x))/\FnOk P w K z base (iK P w) k f r (cZ st) (nQ K (cZ st).length (k7 S ds k x))
 | 0,x,st,f,r,hl,hF=>⟨⟨fun X H Q E h=>h.1,fun A outer s H m us X Q E j he hb hv L=>by
   obtain ⟨_,π,G,μ,d,Y,R,i,J,kc⟩:=L
   cases J⟩,⟨fun X H Q E h=>h.1,fun A outer s H m us X Q E j he hb hv L=>by
   obtain ⟨_,π,G,μ,d,Y,R,i,J,kc⟩:=L
   cases J⟩⟩
 | k+1,x,st,f,r,hl,hF=>by
  have Z:=ED (base:=base) T k
  have e:hW S ds (k+1) x=zR S (hW S ds k) (k7 S ds k) k st:=by
   show (match ds.lookup x with|none=>fun _ _=>none|some st=>zR S (hW S ds k) (k7 S ds k) k st)=_
   rw [hl]
  have e2:k7 S ds (k+1) x=zS S (hW S ds k) (k7 S ds k) k st:=by
   show (match ds.lookup x with|none=>fun _ _=>none|some st=>zS S (hW S ds k) (k7 S ds k) k st)=_
   rw [hl]
  rw [e,e2]
  have v:=EC (T.defs x st hl).2
  have O:∀ (CX:fX)(a:Value)(A:VU)(outer:List Z7)(s:Vp)(H:Hp)(E:XK),Room k (A.deeper (YY x (bR st) s.heap.objs.size f a))->Okr S (hW S ds k) (k7 S ds k) k ⟨gG st,(bR st).names⟩ (dW CX P w K z base (gG st) x (bR st) f a A outer s H E):=fun CX a A outer s H E j=>by
   refine ⟨⟨rfl,v.nd,rfl,v.kind,rfl,j,a2P,fun y n M=>?_,T.con,fun y N q=>⟨T.tab y N q⟩,T.no,T.xc⟩,rfl,rfl,⟨_,rfl⟩,fun _=>rfl,fun y n M=>?_⟩
   ·obtain ⟨b,u,I⟩:=T.fns y n M
    obtain ⟨p,c,l,U,B⟩:=(T.defs y b u).1.ex
    subst I
    exact ⟨p,c,cZ b,(Z y b p c u l).1,U,l.kp,B⟩
   ·obtain ⟨b,u,I⟩:=T.fns y n M
    obtain ⟨p,c,l,U,B⟩:=(T.defs y b u).1.ex
    subst I
    exact ⟨p,c,cZ b,(Z y b p c u l).2,U,l.kp,B⟩
  refine ⟨Mn hF v (by unfold gG;simp) rfl fun a A outer s H E j=>?_,Nl hF v (by unfold gG;simp) rfl fun a A outer s H E j=>?_⟩
  ·exact kZ (uI (m:=oU) oV _ (O eE a A outer s H E j)).1 (dM st)
  ·have o:=O (iK P w) a A outer s H E j
   exact qV (uI (m:=oU) oV _ o).1 (uI (m:=oU) oV _ o).2 (dM st)
theorem QU {P:VQ}{w:V6}{K:Vk}{b:Str->Option Value}{base:Wj}{S:Sig}{ds:List (Str×Stmt)}(T:TxtOk P w K b S ds)(k:Nat)(x:Str)(st:Stmt)(f:Addr)(a:Xc)(d:ds.lookup x=some st)(c:Fun K x x st f a) :
  FnOk P w K b base eE k f a (cZ st) (iF K (cZ st).length (hW S ds k x)):=(ED T k x st f a d c).1
theorem EE:∀ {ns:List Int}{b:Nat},Zt (ns.map Zf)<=b->∀ n∈ns,V4 n<=b
 | [],_,_,n,a=>nomatch a
 | m::ns,b,h,n,a=>by
  have e:Zt ((m::ns).map Zf)=a1o (.int m)+1+Zt (ns.map Zf):=rfl
  have c:a1o (.int m)=V4 m:=rfl
  rw [e,c] at h
  rcases VP.mp a with rfl|a
  ·omega
  ·exact EE (b:=b) (by omega) n a
section
open PySem PySem.W PySem.Calls PyProof.Rows
theorem QV {l:a3k}{n:Nat}{q:VQ}{loose:List Str}{XP:(Str->Option Value)->Wj->Prop}{YP:V6->Wj->Prop}{d:DefRec}
  (Z:l.most=some n)(A:d.params.defaults=[])
  (call:∀ (w:V6)(s₀ b:Vp)(v H:Str->Option Value)(h:Addr)(o:WY)(I u c:Value)(a:Addr)(vs:List Value)(ns:List Int),
   Ground q loose [] XP w s₀ v H b.heap->YP w b.heap->
   b.heap.get? h=some o->o.data=.func (docDef d.name d.params d.body d.scope I u c)->b.heap.CodeRec u d.name->v d.name=some (.ref h)->
   b.heap.get? a=some { cls:=.type "list",data:=.seq vs.toArray }->X6 vs ns->ns.length<=n->(∀ m∈ns,V4 m<=2 ^ 20)->b.gens = #[]->
   ZM (VM l.prog w) a1C (.call (.ref h) ⟨[.ref a],[]⟩) (fun r x=>r=.ok (.ret (.bool true))/\OldK b.heap x.heap/\x.os=b.os/\Z8 x.gens) b) :
  a3P q loose XP YP l.row.toRowW d [] (fun f vs=>a4X f vs):=by
 intro w s₀ b v H G Y h o I u c M kV ho hd z K B T J L as s i hrd E U
 obtain rfl:M=.none:=Dflts.none K A
 obtain rfl:kV=.none:=Dflts.noKw K
 obtain ⟨a,vs,ns,rfl,rfl,p,e,j⟩:=Att.script_of Z s E
 have R:∀ m∈ns,V4 m<=2 ^ 20:=by
  have y:a1d (.list (ns.map Zf))=true:=by
   have:=i
   unfold a4Y at this
   simpa using this
  unfold a1d at y
  rw [Vq] at y
  exact EE (of_decide_eq_true y.2)
 refine enter_call (ZL (call w s₀ b v H h o I u c a vs ns G Y ho (fd_plain hd) z B p e j R T) fun r x hq=>?_)
 obtain ⟨rfl,N,O,Q⟩:=hq
 exact ⟨.inl ⟨.bool true,.bool true,[],rfl,fun _=>rfl,.bool true,Att.post_true l _,fun _=>⟨a1Q,fun _ X=>(nomatch X)⟩⟩,N,O,Q⟩
end
theorem walkM {l:a3k}{q:VQ}{loose:List Str}{XP:(Str->Option Value)->Wj->Prop}{YP:V6->Wj->Prop}{d:DefRec}{K:Params->Vk}{S:Sig}{ds:List (Str×Stmt)}{k:Nat}{st:Stmt}{x:Str}(hn:l.most=some 63)(N:d.params.defaults=[])
  (hr:Room k a1C)(hY:∀ (w:V6)(h:Wj),YP w h->(K w.params).In h)(hl:ds.lookup d.name=some st)(hx:cZ st=[x])
  (T:∀ (w:V6)(E:Str->Option Value)(h:Wj),(K w.params).In h->h.Ns Wh E->TxtOk l.prog w (K w.params) E S ds/\∃ f I,Fun (K w.params) d.name d.name st f I/\E d.name=some (.ref f)/\∀ (s:Vp)(u:Value),a1K s I ⟨[u],[]⟩ [(x,u)])
  (M:∀ b:List Int,b.length<=63->(∀ m∈b,V4 m<=2 ^ 20)->∃ y,hW S ds k d.name [.rol (b.map D.int)] []=some (.bl true,y)) :
  a3P q loose XP YP l.row.toRowW d [] (fun f vs=>a4X f vs):=by
 refine QV hn N fun w Z s₁ E mb fa o pm cd doc a vs b G Y ho hd hcd Q B p c L hg=>?_
 have U:=hY w _ Y
 obtain ⟨hT,f,I,hF,X,hb⟩:=T w E _ U G.T.g
 rw [Q] at X
 cases X
 refine L2.law_call (CX:=eE) (sp:=iF (K w.params) 1 (hW S ds k d.name)) U G.T.g G.T.b G.T.builtins G.T.nolimit hg B p (Wu c (by decide)) hr (fun A hb1 hb2=>?_) hb (fun H hO hS=>?_) fun H e s' z=>z
 ·have:=QU (base:=A) hT k d.name st fa I hl hF
  rw [hx] at this
  exact this
 ·refine ⟨rfl,fun _=>0,[.rol (b.map D.int)],[],.bl true,?_⟩
  obtain ⟨y,hM⟩:=M b c L
  have R:RoL (K w.params) H a (b.map V.int):=by
   rcases hS with (h|h)|h
   ·rcases hO a with z|⟨o,J,z⟩
    ·rw [z] at h;cases h
    ·rw [z] at h;cases h
   ·exact .inl h
   ·exact .inr h
  refine ⟨y,⟨fun i j O=>absurd O (Zv _),fun i O=>absurd O (Zv _),fun i J h=>(by cases h),fun i J h=>(by cases h),fun i J h=>(by cases h)
   ,fun i J h=>(by cases h)
   ,fun i x b ds h=>(by cases h)
   ⟩,.cons (.rol R ?_) .nil,hM,fun π' v H' _ _ hv=>?_⟩
  ·have:∀ b:List Int,IsDs (K w.params) (fun _=>0) ([]:Hm).length H (b.map V.int) (b.map D.int):=fun b=>by
    induction b with
    | nil=>exact .nil
    | cons n r ih=>exact .cons (.int n) ih
   exact this b
  ·cases hv
   rfl
end L3
namespace L3
open PySem L2
theorem jA {a:Type}:∀ {l:List (Str×a)}{x:Str}{b:a},l.lookup x=some b->(x,b)∈l:=fun h=>WG h
theorem QX {S:Sig}{ds:List (Str×Stmt)}(h:(S.fn.all fun p=>match ds.lookup p.1 with|some st=>decide ((cZ st).length=p.2)|none=>false)=true):∀ x n,S.fn.lookup x=some n->∃ st,ds.lookup x=some st/\(cZ st).length=n:=by
 intro x n e
 have:=WZ.mp h (x,n) (jA e)
 dsimp only at this
 split at this
 ·rename_i st a
  exact ⟨st,a,of_decide_eq_true this⟩
 ·cases this
theorem QY {K:Vk}{a:Str->Option Value}{ds:List (Str×Stmt)}(h:∀ p∈ds,DefAt K a p.1 p.2/\k6 p.2=true):∀ x st,ds.lookup x=some st->DefAt K a x st/\k6 st=true:=fun x st e=>h (x,st) (jA e)
theorem QZ {K:Vk}{a:Str->Option Value}{cs:List (Str×D)}(h:∀ p∈cs,∃ v u,a p.1=some u/\RelV v u/\∀ π n H,IsD K π n H v p.2):∀ x d,cs.lookup x=some d->∃ v u,a x=some u/\RelV v u/\∀ π n H,IsD K π n H v d:=fun x d e=>h (x,d) (jA e)
inductive EntsOf (w:V6):List WD->List (a9×Value)->Prop where
 | nil:EntsOf w [] []
 | cons {e:WD}{k:a9}{v:Value}{es:List WD}{kvs:List (a9×Value)}(h:vE k e.key=true)(hh:e.hash=AL w k)(hv:e.val=v)(t:EntsOf w es kvs):EntsOf w (e::es) ((k,v)::kvs)
theorem EntsOf.keys {P:VQ}{w:V6}{es:List WD}{kvs:List (a9×Value)}(x:EntsOf w es kvs):∀ e∈es,∃ k,(lJ P w).is k e.key=true/\e.hash=(lJ P w).hash k:=by
 induction x with
 | nil=>intro e a;exact nomatch a
 | @cons e k v es kvs h c i _ d=>
  intro b a
  rcases VP.mp a with rfl|a
  ·exact ⟨k,h,c⟩
  ·exact d b a
theorem Q0 {a:Str->Option Value}{ns:List Str}(h:∀ x∈ns,a x=none):∀ x,ns.contains x=true->a x=none:=fun x e=>h x (by simpa using e)
noncomputable def uJ:Nat->(Nat->Value)->List Value
 | 0,_=>[]
 | n+1,u=>u 0::uJ n fun i=>u (i+1)
theorem EF:∀ us:List Value,∃ u,us=uJ us.length u
 | []=>⟨fun _=>.none,rfl⟩
 | v::us=>let ⟨u,a⟩:=EF us;⟨fun i=>match i with|0=>v|i+1=>u i,congrArg (v::·) a⟩
noncomputable abbrev EG:Type:=Value->Value->Value->Option Addr->Value->Value->(Nat->Value)->a4W (List (Str×Value))
noncomputable def Q1 (x:Str)(st:Stmt)(m:Value)(c:Addr):WY:=⟨Ws "function",none,.func (Xe x x (gR st) (dM st) (bR st) .none .none .none m none (.ref c) .none),#[]⟩
noncomputable def EH (K:Vk)(d:(Str×Stmt)×Value×Addr×Addr):Option (Option Value)×Option WY×Bool×Bool×Bool×EG:=(Wz K Wh d.1.1,K.lookup d.2.2.2,Zs K (.ref d.2.2.1) d.1.1,Ww K (.ref d.2.2.2),k6 d.1.2,fun kV b c an a ct u=>a1D (Xe d.1.1 d.1.1 (gR d.1.2) (dM d.1.2) (bR d.1.2) .none kV b c an a ct) ⟨uJ (cZ d.1.2).length u,[]⟩)
noncomputable def EI (d:(Str×Stmt)×Value×Addr×Addr):Option (Option Value)×Option WY×Bool×Bool×Bool×EG:=(some (some (.ref d.2.2.2)),some (Q1 d.1.1 d.1.2 d.2.1 d.2.2.1),true,true,true,fun _ _ _ _ _ _ u=>pure ((cZ d.1.2).zip (uJ (cZ d.1.2).length u)))
noncomputable def uK (K:Vk)(d:Str×Stmt):(Str×Stmt)×Value×Addr×Addr:=(d,match Wz K Wh d.1 with
 | some (some (.ref f))=>(match K.lookup f with
  | some ⟨_,_,.func fd,_⟩=>(match fd.code with
   | .ref c=>(fd.pyModule,c,f)
   | _=>(.none,0,0))
  | _=>(.none,0,0))
 | _=>(.none,0,0))
noncomputable def uL (K:Vk)(ds:List (Str×Stmt)):Prop:=ds.map (fun d=>EH K (uK K d))=ds.map fun d=>EI (uK K d)
theorem EJ {K:Vk}{h:Wj}{j:Str->Option Value}(X:K.In h)(G:h.Ns Wh j){ds:List (Str×Stmt)}(q:uL K ds):∀ p∈ds,(DefAt K j p.1 p.2/\k6 p.2=true)/\∃ f n,Fun K p.1 p.1 p.2 f n/\j p.1=some (.ref f)/\∀ us:List Value,us.length=(cZ p.2).length->a1D n ⟨us,[]⟩=pure ((cZ p.2).zip us):=by
 intro i v
 have t:=a3G.mp q i v
 have e:(uK K i).1=i:=rfl
 generalize uK K i=d at t e
 obtain ⟨p,m,c,f⟩:=d
 cases e
 unfold EH EI at t
 obtain ⟨a,t⟩:=a0b t
 obtain ⟨l,t⟩:=a0b t
 obtain ⟨c,t⟩:=a0b t
 obtain ⟨k,t⟩:=a0b t
 obtain ⟨s,b⟩:=a0b t
 have F:=By (st:=p.2) l c k
 have D:=fun kV doc pm an cdv ct (us:List Value)(r:us.length=(cZ p.2).length)=>(by
  obtain ⟨u,o⟩:=EF us
  rw [r] at o
  rw [o]
  exact congrFun (congrFun (congrFun (congrFun (congrFun (congrFun (congrFun b kV) doc) pm) an) cdv) ct) u:a1D (Xe p.1 p.1 (gR p.2) (dM p.2) (bR p.2) .none kV doc pm an cdv ct) ⟨us,[]⟩=pure ((cZ p.2).zip us))
 exact ⟨⟨⟨_,_,F,Y2 X G a,F.binds D⟩,s⟩,_,_,F,Y2 X G a,D _ _ _ _ _ _⟩
theorem Q2 {K:Vk}{h:Wj}{c:Str->Option Value}(X:K.In h)(G:h.Ns Wh c){ds:List (Str×Stmt)}(q:uL K ds){x y:Str}{st:Stmt}(d:ds.lookup x=some st)(e:cZ st=[y]):∃ f a,Fun K x x st f a/\c x=some (.ref f)/\∀ (s:Vp)(u:Value),a1K s a ⟨[u],[]⟩ [(y,u)]:=by
 obtain ⟨f,a,F,m,b⟩:=(EJ X G q (x,st) (jA d)).2
 dsimp only at b
 rw [e] at b
 exact ⟨f,a,F,m,fun s u=>.of_eq (b [u] rfl)⟩
theorem Q3 {K:Vk}{h:Wj}{a:Str->Option Value}(X:K.In h)(G:h.Ns Wh a){ns:List Str}(q:ns.map (Wz K Wh)=ns.map fun _=>some none):∀ x∈ns,a x=none:=fun x b=>PySem.W.mg_none_of X G (a3G.mp q x b)
noncomputable def qW {c d:Type}(f:c->d->Bool):List c->List d->Bool
 | [],[]=>true
 | a::as,b::bs=>f a b&&qW f as bs
 | _,_=>false
noncomputable def qX (K:Vk):Nat->Value->D->Bool
 | 0,_,_=>false
 | k+1,u,d=>match d with
  | .non=>(match u with|.none=>true|_=>false)
  | .bl b=>(match u with|.bool c=>decide (b=c)|_=>false)
  | .int i=>(match u with|.int j _=>decide (i=j)|_=>false)
  | .str x=>(match u with|.str y _=>decide (x=y)|_=>false)
  | .tup ds=>(match u with
   | .ref p=>(match K.lookup p with
    | some ⟨.type t,none,.seq its _,_⟩=>decide (t = "tuple")&&decide (its.size<=1000)&&qW (qX K k) its.toList ds
    | _=>false)
   | _=>false)
  | .rol ds=>(match u with
   | .ref p=>(match K.lookup p with
    | some ⟨.type t,none,.seq its _,_⟩=>decide (t = "list")&&decide (its.size<=1000)&&qW (qX K k) its.toList ds
    | _=>false)
   | _=>false)
  | _=>false
theorem EK {K:Vk}{f:Value->D->Bool}(h:∀ u d,f u d=true->∃ v,RelV v u/\∀ π n H,IsD K π n H v d):∀ us ds,qW f us ds=true->∃ vs,Vals vs us/\∀ π n H,IsDs K π n H vs ds
 | [],[],_=>⟨[],.nil,fun _ _ _=>.nil⟩
 | u::us,d::ds,e=>by
  obtain ⟨a,b⟩:=Yw.mp e
  obtain ⟨v,r,q⟩:=h u d a
  obtain ⟨vs,i,c⟩:=EK h us ds b
  exact ⟨v::vs,.cons r i,fun _ _ _=>.cons (q _ _ _) (c _ _ _)⟩
 | [],_::_,e=>nomatch e
 | _::_,[],e=>nomatch e
theorem EL {K:Vk}:∀ (k:Nat)(u:Value)(d:D),qX K k u d=true->∃ v,RelV v u/\∀ π n H,IsD K π n H v d
 | 0,_,_,e=>nomatch e
 | k+1,u,d,e=>by
  have seq:∀ {p:Addr}{ds:List D}{c:String},(match K.lookup p with|some ⟨.type t,none,.seq h _,_⟩=>decide (t=c)&&decide (h.size<=1000)&&qW (qX K k) h.toList ds|_=>false)=true->∃ j h n m,K.lookup p=some ⟨.type c,none,.seq h n,m⟩/\h.size<=VA/\Vals j h.toList/\∀ π n H,IsDs K π n H j ds:=fun {p ds c} e=>by
   split at e
   ·rename_i t h n m l
    obtain ⟨e,q⟩:=Yw.mp e
    obtain ⟨a,b⟩:=Yw.mp e
    cases of_decide_eq_true a
    obtain ⟨j,r,i⟩:=EK (EL k) _ _ q
    exact ⟨j,h,n,m,l,Wu (of_decide_eq_true b) (by decide),r,i⟩
   ·cases e
  cases d with
  | non=>cases u with
   | none=>exact ⟨.non,rfl,fun _ _ _=>.non⟩
   | _=>cases e
  | bl b=>cases u with
   | bool c=>cases of_decide_eq_true e;exact ⟨.bl b,rfl,fun _ _ _=>.bl _⟩
   | _=>cases e
  | int b=>cases u with
   | int c=>cases of_decide_eq_true e;exact ⟨.int b,⟨_,rfl⟩,fun _ _ _=>.int _⟩
   | _=>cases e
  | str b=>cases u with
   | str c=>cases of_decide_eq_true e;exact ⟨.str b,⟨_,rfl⟩,fun _ _ _=>.str _⟩
   | _=>cases e
  | tup ds=>cases u with
   | ref p=>
    obtain ⟨j,h,n,m,l,o,r,i⟩:=seq e
    exact ⟨.ref p,rfl,fun _ _ _=>.tup (vs:=j) (.inr ⟨_,h,n,l,rfl,rfl,rfl,o,r⟩) (i _ _ _)⟩
   | _=>cases e
  | rol ds=>cases u with
   | ref p=>
    obtain ⟨j,h,n,m,l,o,r,i⟩:=seq e
    exact ⟨.ref p,rfl,fun _ _ _=>.rol (vs:=j) (.inr ⟨_,h,n,l,rfl,rfl,rfl,o,r⟩) (i _ _ _)⟩
   | _=>cases e
  | _=>cases e
noncomputable def EM (K:Vk)(cs:List (Str×D)):Bool:=cs.all fun c=>match Wz K Wh c.1 with|some (some u)=>qX K 8 u c.2|_=>false
theorem Q4 {K:Vk}{h:Wj}{a:Str->Option Value}(X:K.In h)(G:h.Ns Wh a){cs:List (Str×D)}(q:EM K cs=true):∀ p∈cs,∃ v u,a p.1=some u/\RelV v u/\∀ π n H,IsD K π n H v p.2:=fun p b=>by
 have t:=WZ.mp q p b
 split at t
 ·rename_i u c
  obtain ⟨v,r,i⟩:=EL _ _ _ t
  exact ⟨v,u,Y2 X G c,r,i⟩
 ·cases t
end L3
namespace L3
open PySem L2
noncomputable def zT:Stmt->Option (Str×Str)
 | .Expr e _=>(match e with
  | .Call f args kws p5=>(match f,args,kws with
   | .Attribute o m p2,[.Name sf _,.Constant (.str _) _ _],[]=>(match o with
    | .Name bn _=>if (m == "__init__" && (p2.endLine == p5.line))=true then some (bn,sf) else none
    | _=>none)
   | _,_,_=>none)
  | _=>none)
 | _=>none
noncomputable def zU:Stmt->Option (Str×Str×Str)
 | .Assign [.Attribute o a _] (.Name ar _) _=>(match o with
  | .Name sf _=>some (sf,a,ar)
  | _=>none)
 | _=>none
theorem Q5 {st:Stmt}{bn sf:Str}(h:zT st=some (bn,sf)):∃ l c d a e i b j,st=.Expr (.Call (.Attribute (.Name bn d) "__init__" a) [.Name sf e,.Constant (.str l) c i] [] b) j/\(a.endLine == b.line)=true:=by
 unfold zT at h
 split at h
 ·split at h
  ·split at h
   ·split at h
    ·split at h
     ·rename_i hc
      cases h
      rw [Vq,beq_iff_eq] at hc
      rw [hc.1]
      exact ⟨_,_,_,_,_,_,_,_,rfl,hc.2⟩
     ·cases h
    ·cases h
   ·cases h
  ·cases h
 ·cases h
theorem Q6 {st:Stmt}{sf a ar:Str}(h:zU st=some (sf,a,ar)):∃ c d e b,st=.Assign [.Attribute (.Name sf c) a d] (.Name ar e) b:=by
 unfold zU at h
 split at h
 ·split at h
  ·cases h;exact ⟨_,_,_,_,rfl⟩
  ·cases h
 ·cases h
noncomputable def qY (K:Vk)(x bn:Str):Addr×Addr×Addr×Value×Addr:=
 let C:=(hJ K x).getD 0
 let f:=(match K.lookup C with
  | some ⟨_,_,.cls cd,_⟩=>(match Wz K cd.ns "__init__" with
   | some (some (.ref f))=>f
   | _=>0)
  | _=>0)
 let q:=(match K.lookup f with
  | some ⟨_,_,.func fd,_⟩=>(match fd.code with
   | .ref c=>(fd.pyModule,c)
   | _=>(.none,0))
  | _=>(.none,0))
 (C,f,(hJ K bn).getD 0,q.1,q.2)
noncomputable def Q7 (x qual:Str)(st:Stmt)(m:Value)(c:Addr):WY:=⟨Ws "function",none,.func (Xe x qual (gR st) (dM st) (bR st) .none .none .none m none (.ref c) .none),#[]⟩
noncomputable def EO (K:Vk)(x a bn qual:Str)(st:Stmt):Bool:=
 let q:=qY K x bn
 Wz K Wh x == some (some (.ref q.1))&&tB K q.1 q.2.1&&xY K q.2.2.1&&Wz K Wh bn == some (some (.ref q.2.2.1))&&WH K (.ref q.1) "__setattr__" == some (some (.builtin "object.__setattr__")) &&
 WH K (.ref q.1) a == some none&&Ww K (.ref q.1)&&Zs K (.ref q.2.2.2.2) qual&&Ww K (.ref q.2.1)&&k6 st
noncomputable abbrev zV (K:Vk)(x a:Str):Prop:=∃ C f B bn b sf ar,InitK K C f B bn a/\Wz K Wh x=some (some (.ref C))/\Ww K (.ref C)=true/\(∀ P w d base k,FnOk P w K d base eE (k+1) f b [sf,ar] (nU C a))/\Binds K b [sf,ar] []/\∃ c,K.lookup f=some c/\c.cls=.type "function"
theorem Q8 {K:Vk}{x a bn qual sf ar:Str}{st s1 s2:Stmt}(e:EO K x a bn qual st=true)(h:K.lookup (qY K x bn).2.1=some (Q7 "__init__" qual st (qY K x bn).2.2.2.1 (qY K x bn).2.2.2.2)) (Q:dM st=[s1,s2])(h1:zT s1=some (bn,sf))(L:zU s2=some (sf,a,ar))
  (N:gG st=[sf,ar])(O:cZ st=[sf,ar])(R:(bR st).names.lookup bn=some .globalImplicit)(T:((bn == ("__debug__":Str))||(sf == ("__debug__":Str))||(ar == ("__debug__":Str))||(sf == ("__classdict__":Str))||(ar == ("__classdict__":Str)))=false)
  (M:∀ (kV d n:Value)(an:Option Addr)(b ct u v:Value),a1D (Xe "__init__" qual (gR st) (dM st) (bR st) .none kV d n an b ct) ⟨[u,v],[]⟩=pure [(sf,u),(ar,v)]) :
  zV K x a:=by
 unfold EO at e
 generalize qY K x bn=q at e h
 obtain ⟨C,f,B,m,c⟩:=q
 dsimp only at e h
 rw [Vq,Vq,Vq,Vq,Vq,Vq,Vq,Vq,Vq,beq_iff_eq,beq_iff_eq,beq_iff_eq,beq_iff_eq] at e
 obtain ⟨⟨⟨⟨⟨⟨⟨⟨⟨r,s⟩,y⟩,z⟩,A⟩,E⟩,G⟩,H⟩,J⟩,i⟩:=e
 have I:InitK K C f B bn a:=⟨s,y,z,A,E⟩
 have F:=By (st:=st) h H J
 obtain ⟨tx,Y,p1,p2,p3,p4,p5,p6,rfl,l⟩:=Q5 h1
 obtain ⟨p7,p8,p9,U,rfl⟩:=Q6 L
 have o:=EC i
 rw [N,O] at o
 refine ⟨C,f,B,bn,_,sf,ar,I,r,G,fun P w Z p k=>NF F o Q l I R T,F.binds fun kV d n an b ct X j=>?_,_,h,rfl⟩
 match X,j with
 | [u,v],_=>exact M kV d n an b ct u v
theorem Q9 {S:Sig}{K:Vk}(h1:(S.cls.all fun p=>tD K p.2 p.1)=true)(o:(S.sup.all fun p=>S.sup.all fun q=>qB K p.1 q.1 == some (p.2.contains q.1))=true)
  (r:(S.sup.all fun p=>S.sup.all fun q=>match hJ K q.1 with|some C=>tE K (.ref C) p.1 == some (p.2.contains q.1)|none=>false)=true)(s:(S.sup.all fun p=>tE K (.type "ValueError") p.1 == some (p.2.contains "ValueError"))=true)
  (u:(S.sup.all fun p=>(S.cls.lookup p.1).isSome||match hJ K p.1 with|some C=>a3O K C l9 "ValueError.__new__" | none=>false)=true)
  (v:∀ p∈S.cls,zV K p.1 p.2):XcOk S K:=by
 have i:∀ {g:Str×List Str->Str×List Str->Bool},(S.sup.all fun p=>S.sup.all fun q=>g p q)=true->∀ x b c d,S.sup.lookup x=some b->S.sup.lookup c=some d->g (x,b) (c,d)=true:=fun {g} h x b c d m n=>
  WZ.mp (WZ.mp h (x,b) (jA m)) (c,d) (jA n)
 refine ⟨fun x a e=>WZ.mp h1 (x,a) (jA e),fun x b c e hc=>?_,fun x b c e hc=>?_,fun x b e=>?_,fun x b e w=>?_,fun x a e=>v (x,a) (jA e)⟩
 ·obtain ⟨d,l⟩:=W5.mp hc
  exact beq_iff_eq.mp (i o x b c d e l)
 ·obtain ⟨d,l⟩:=W5.mp hc
  have:=i r x b c d e l
  dsimp only at this
  split at this
  ·rename_i C j
   exact ⟨C,j,beq_iff_eq.mp this⟩
  ·cases this
 ·exact beq_iff_eq.mp (WZ.mp s (x,b) (jA e))
 ·have:=WZ.mp u (x,b) (jA e)
  dsimp only at this
  rw [w] at this
  split at this
  ·rename_i C j
   exact ⟨C,by simpa using this,sW j⟩
  ·simp at this
end L3
namespace L3
open PySem L2
noncomputable def W {a:Type}(o:Option a)(Q:a->Prop):Prop:=∃ r,o=some r/\Q r
section
variable {α β:Type}{o:Option α}{Q:α->Prop}
theorem W_some {r:α}{Q:α->Prop}:W (some r) Q↔Q r:=⟨fun ⟨_,h,q⟩=>by cases h;exact q,fun q=>⟨r,rfl,q⟩⟩
theorem W_none {Q:α->Prop}:W none Q↔False:=⟨fun ⟨_,h,_⟩=>(by cases h),fun h=>h.elim⟩
theorem W_bind {g:α->Option β}{Q:β->Prop}:W (o.bind g) Q↔W o fun r=>W (g r) Q:=by
 cases o with
 | none=>exact ⟨fun ⟨_,h,_⟩=>(by cases h),fun ⟨_,h,_⟩=>(by cases h)⟩
 | some a=>simp [W_some]
theorem W_map {g:α->β}{Q:β->Prop}:W (o.map g) Q↔W o fun r=>Q (g r):=by
 cases o with
 | none=>exact ⟨fun ⟨_,h,_⟩=>(by cases h),fun ⟨_,h,_⟩=>(by cases h)⟩
 | some a=>simp [W_some]
theorem bT {a:α->Prop}(h:W o Q)(k:∀ r,Q r->a r):W o a:=let ⟨r,e,q⟩:=h;⟨r,e,k r q⟩
theorem uM {c:Prop} [Decidable c] {a b:Option α}:W (if c then a else b) Q↔if c then W a Q else W b Q:=by split<;>rfl
end
noncomputable def fin:Option (Fl×aH×Hm)->Option (D×Hm):=fun o=>o.bind fun p=>match p.1 with|.rt d=>some (d,p.2.2)|.nx=>some (.non,p.2.2)|_=>none
noncomputable def qZ:Option (Xn×aH×Hm)->Option (Xn×Hm):=fun o=>o.map fun p=>(p.1,p.2.2)
theorem W_fin {o:Option (Fl×aH×Hm)}{Q:D×Hm->Prop}:W (fin o) Q↔W o fun p=>match p.1 with|.rt d=>Q (d,p.2.2)|.nx=>Q (.non,p.2.2)|_=>False:=by
 unfold fin
 rw [W_bind]
 constructor
 ·exact fun h=>bT h fun p q=>by
   obtain ⟨a,c,b⟩:=p
   cases a<;>simpa [W_some,W_none] using q
 ·exact fun h=>bT h fun p q=>by
   obtain ⟨a,c,b⟩:=p
   cases a<;>simpa [W_some,W_none] using q
theorem aV {d b:Hm}(h:d <+: b){a:Nat}{c:C}(e:d[a]? = some c):b[a]? = some c:=by
 obtain ⟨t,rfl⟩:=h
 have i:=(Vx.mp e).1
 rw [We i]
 exact e
theorem bA (a:Hm)(c:C):a <+: a++[c]:=⟨[c],rfl⟩
theorem hX {d b:Hm}(h:d <+: b){a:Nat}(e:d.length<=a)(c:C):d <+: b.set a c:=by
 obtain ⟨t,rfl⟩:=h
 rw [a0f _ _ e]
 exact ⟨_,rfl⟩
theorem bK {a b:MS}{d:aH}{c:Hm} {Q}:W (aI a b d c) Q↔W (a d c) fun p=>match p.1 with|.nx=>W (b p.2.1 p.2.2) Q|_=>Q p:=by
 unfold aI
 rw [W_bind]
 constructor
 ·exact fun h=>bT h fun p q=>by
   obtain ⟨e,d,c⟩:=p
   cases e<;>simpa [W_some,W_none] using q
 ·exact fun h=>bT h fun p q=>by
   obtain ⟨e,d,c⟩:=p
   cases e<;>simpa [W_some,W_none] using q
theorem w_mRet {m:ME}{a:aH}{b:Hm} {Q}:W (aQ m a b) Q↔W (m a b) fun p=>Q (.rt p.1,a,p.2):=W_map
theorem j0 {m:ME}{a:aH}{b:Hm} {Q}:W (dS m a b) Q↔W (m a b) fun p=>Q (.nx,a,p.2):=W_map
theorem bZ {i:Nat}{m:ME}{a:aH}{b:Hm} {Q}:W (aR i m a b) Q↔W (m a b) fun p=>Q (.nx,a.set i (some p.1),p.2):=W_map
theorem cK {b:aH}{a:Hm} {Q}:W (bG b a) Q↔Q (.nx,b,a):=W_some
theorem dB {t:MT}{a b:MS}{c:aH}{d:Hm} {Q}:W (bD t a b c d) Q↔W (t c d) fun p=>if p.1=true then W (a c p.2) Q else W (b c p.2) Q:=by
 unfold bD
 rw [W_bind]
 constructor<;>exact fun h=>bT h fun p q=>by
   obtain ⟨x,d⟩:=p
   cases x<;>simpa using q
theorem zW {t:MT}{a b:ME}{c:aH}{d:Hm} {Q}:W (iG t a b c d) Q↔W (t c d) fun p=>if p.1=true then W (a c p.2) Q else W (b c p.2) Q:=by
 unfold iG
 rw [W_bind]
 constructor<;>exact fun h=>bT h fun p q=>by
   obtain ⟨x,d⟩:=p
   cases x<;>simpa using q
theorem uN {a b:MT}{d:aH}{c:Hm} {Q}:W (fY a b d c) Q↔W (a d c) fun p=>if p.1=true then W (b d p.2) Q else Q (false,p.2):=by
 unfold fY
 rw [W_bind]
 constructor<;>exact fun h=>bT h fun p q=>by
   obtain ⟨x,c⟩:=p
   cases x<;>simpa [W_some] using q
theorem q0 {a b:MT}{d:aH}{c:Hm} {Q}:W (fZ a b d c) Q↔W (a d c) fun p=>if p.1=true then Q (true,p.2) else W (b d p.2) Q:=by
 unfold fZ
 rw [W_bind]
 constructor<;>exact fun h=>bT h fun p q=>by
   obtain ⟨x,c⟩:=p
   cases x<;>simpa [W_some] using q
theorem oX {a:MT}{c:aH}{b:Hm} {Q}:W (gU a c b) Q↔W (a c b) fun p=>Q (!p.1,p.2):=W_map
theorem aU {f:D->D->Hm->Option (D×Hm)}{a b:ME}{c:aH}{d:Hm} {Q}:W (aB f a b c d) Q↔W (a c d) fun p=>W (b c p.2) fun q=>W (f p.1 q.1 q.2) Q:=by
 unfold aB
 rw [W_bind]
 simp only [W_bind]
theorem aS {d:D}{b:aH}{a:Hm} {Q}:W (mC d b a) Q↔Q (d,a):=W_some
theorem aE {d:D}{b:aH}{a:Hm} {Q}:W (aA 0 (some d::b) a) Q↔Q (d,a):=by
 show W (some (d,a)) Q↔_
 exact W_some
theorem aF {i:Nat}{x:Option D}{b:aH}{a:Hm} {Q}:W (aA (i+1) (x::b) a) Q↔W (aA i b a) Q:=by
 unfold aA
 rw [List.getElem?_cons_succ]
theorem aL {b:aH}{a:Hm} {Q}:W (aD b a) Q↔Q ([],a):=W_some
theorem aM {a:ME}{r:MA}{b:aH}{c:Hm} {Q}:W (aC a r b c) Q↔W (a b c) fun p=>W (r b p.2) fun q=>Q (p.1::q.1,q.2):=by
 unfold aC
 simp only [W_bind,W_some]
theorem dP {a:MA}{c:aH}{b:Hm} {Q}:W (bI a c b) Q↔W (a c b) fun p=>p.1.length<=VA/\Q (.tup p.1,p.2):=by
 unfold bI
 rw [W_bind]
 constructor<;>exact fun h=>bT h fun p q=>by
  first
  | (rw [uM] at q;split at q
     ·exact ⟨by assumption,W_some.mp q⟩
     ·exact (W_none.mp q).elim)
  | (rw [if_pos q.1];exact W_some.mpr q.2)
theorem eK {a:MA}{c:aH}{b:Hm} {Q}:W (cL a c b) Q↔W (a c b) fun p=>p.1.length<=VA/\Q (.loc p.2.length,p.2++[.lst p.1]):=by
 unfold cL
 rw [W_bind]
 constructor<;>exact fun h=>bT h fun p q=>by
  first
  | (rw [uM] at q;split at q
     ·exact ⟨by assumption,W_some.mp q⟩
     ·exact (W_none.mp q).elim)
  | (rw [if_pos q.1];exact W_some.mpr q.2)
theorem aX {f:MF}{a:MA}{c:aH}{b:Hm} {Q}:W (aG f a c b) Q↔W (a c b) fun p=>W (f p.1 p.2) Q:=W_bind
theorem cM {m:ME}{c:aH}{a:Hm} {Q}:W (aO m c a) Q↔W (m c a) fun p=>match p.1 with|.bl b=>Q (b,p.2)|_=>False:=by
 unfold aO
 rw [W_bind]
 constructor<;>exact fun h=>bT h fun p q=>by
  obtain ⟨d,a⟩:=p
  cases d<;>simpa [W_some,W_none] using q
theorem iO {m:ME}{c:aH}{a:Hm} {Q}:W (eJ m c a) Q↔W (m c a) fun p=>W (kP p.2 p.1) fun b=>Q (b,p.2):=by
 unfold eJ
 simp only [W_bind,W_map]
theorem Ra {a:ME}{c:aH}{b:Hm} {Q}:W (gA a c b) Q↔W (a c b) fun p=>match p.1 with|.int i=>Q (.int (-i),p.2)|_=>False:=by
 unfold gA
 rw [W_bind]
 constructor<;>exact fun h=>bT h fun p q=>by
  obtain ⟨d,b⟩:=p
  cases d<;>simpa [W_some,W_none,W_map,wU] using q
theorem zX {a:ME}{e:aH}{c:Hm} {Q}:W (kH a e c) Q↔W (a e c) fun p=>match p.1 with|.bl b=>Q (.bl (!b),p.2)|_=>False:=by
 unfold kH
 rw [W_bind]
 constructor<;>exact fun h=>bT h fun p q=>by
  obtain ⟨d,c⟩:=p
  cases d<;>simpa [W_some,W_none] using q
theorem mQ {a b:ME}{i:aH}{e:Hm} {Q}:W (gW a b i e) Q↔W (a i e) fun p=>match p.1 with|.bl c=>if c=true then W (b i p.2) Q else Q (.bl false,p.2)|_=>False:=by
 unfold gW
 rw [W_bind]
 constructor<;>exact fun h=>bT h fun p q=>by
  obtain ⟨d,e⟩:=p
  cases d with
  | bl c=>cases c<;>simpa [W_some] using q
  | _=>simpa [W_none] using q
theorem Rb {a b:ME}{i:aH}{e:Hm} {Q}:W (m8 a b i e) Q↔W (a i e) fun p=>match p.1 with|.bl c=>if c=true then Q (.bl true,p.2) else W (b i p.2) Q|_=>False:=by
 unfold m8
 rw [W_bind]
 constructor<;>exact fun h=>bT h fun p q=>by
  obtain ⟨d,e⟩:=p
  cases d with
  | bl c=>cases c<;>simpa [W_some] using q
  | _=>simpa [W_none] using q
theorem k8 {m:ME}{g:MG}{a:aH}{c:Hm} {Q}:W (fA m g a c) Q↔W (m a c) fun p=>W (g p.1 a p.2) fun b=>Q (.nx,b,p.2):=by
 unfold fA
 simp only [W_bind,W_map]
section
variable {i j:Int}{μ:Hm}{Q:D×Hm->Prop}{a b c d e g:D}
theorem cU:W (bJ (.int i) (.int j) μ) Q↔Q (.int (i+j),μ):=W_some
theorem oY:W (cP (.int i) (.int j) μ) Q↔Q (.int (i - j),μ):=W_some
theorem dC (h:0<j):W (aW (.int i) (.int j) μ) Q↔Q (.int (i % j),μ):=by
 show W ((if 0<j then some (i % j) else none).map fun z=>(D.int z,μ)) Q↔_
 rw [if_pos h]
 exact W_some
theorem Rc:(1073741824:Int)<2 ^ 4000:=by decide +kernel
theorem Rf (h:0<j)(l:j<2 ^ 4000):W (dX (.int i) (.int j) μ) Q↔Q (.int (i / j),μ):=by
 show W ((if 0<j/\j<2 ^ 4000 then some (i / j) else none).map fun z=>(D.int z,μ)) Q↔_
 rw [if_pos ⟨h,l⟩]
 exact W_some
theorem jB (h:0<j)(l:j<1073741824):W (dX (.int i) (.int j) μ) Q↔Q (.int (i / j),μ):=Rf h (Int.lt_trans l Rc)
theorem dU (h:(-(2 ^ 64)<i/\i<2 ^ 64)\/(-(2 ^ 64)<j/\j<2 ^ 64)):W (bH (.int i) (.int j) μ) Q↔Q (.int (i * j),μ):=by
 show W ((if ((-(2 ^ 64)<i/\i<2 ^ 64)\/(-(2 ^ 64)<j/\j<2 ^ 64))\/(i.natAbs<2 ^ 4000/\j.natAbs<2 ^ 4000)\/V4 i+V4 j<=134217728 then some (i * j) else none).map fun z=>(D.int z,μ)) Q↔_
 rw [if_pos (.inl h)]
 exact W_some
theorem eV:W (aT false (.int i) (.int j) μ) Q↔Q (.bl (i == j),μ):=W_some
theorem ER:W (aT true (.int i) (.int j) μ) Q↔Q (.bl (!(i == j)),μ):=W_some
theorem Rg {x y:Bool}:W (aT false (.bl x) (.bl y) μ) Q↔Q (.bl (x == y),μ):=W_some
theorem Rh {x y h l:Int}:W (aT false (.tup [.int x,.int y]) (.tup [.int h,.int l]) μ) Q↔Q (.bl (x == h&&(y == l&&true)),μ):=W_some
theorem w_neP {x y h l:Int}:W (aT true (.tup [.int x,.int y]) (.tup [.int h,.int l]) μ) Q↔Q (.bl (!(x == h&&(y == l&&true))),μ):=W_some
theorem zY:W (iH (.int i) (.int j) μ) Q↔Q (.bl (decide (i<j)),μ):=W_some
theorem ES:W (lR (.int i) (.int j) μ) Q↔Q (.bl (decide (j<i)),μ):=W_some
theorem Ri:W (pV (.int i) (.int j) μ) Q↔Q (.bl (decide (j<=i)),μ):=W_some
theorem gH:W (aJ (.tup [a,b]) (.int 0) μ) Q↔Q (a,μ):=W_some
theorem hZ:W (aJ (.tup [a,b]) (.int 1) μ) Q↔Q (b,μ):=W_some
theorem Rj:W (aJ (.tup [a,b,c,d,e,g]) (.int 0) μ) Q↔Q (a,μ):=W_some
theorem Rk:W (aJ (.tup [a,b,c,d,e,g]) (.int 1) μ) Q↔Q (b,μ):=W_some
theorem Rl:W (aJ (.tup [a,b,c,d,e,g]) (.int 2) μ) Q↔Q (c,μ):=W_some
theorem Rm:W (aJ (.tup [a,b,c,d,e,g]) (.int 3) μ) Q↔Q (d,μ):=W_some
theorem Rn:W (aJ (.tup [a,b,c,d,e,g]) (.int 4) μ) Q↔Q (e,μ):=W_some
theorem Ro:W (aJ (.tup [a,b,c,d,e,g]) (.int 5) μ) Q↔Q (g,μ):=W_some
theorem jC {b:Bool}{Q:Bool->Prop}:W (kP μ (.bl b)) Q↔Q b:=W_some
theorem uO {h:aH}{i j:Nat}{Q:aH->Prop}:W (cX [i,j] (.tup [a,b]) h μ) Q↔Q ((h.set i (some a)).set j (some b)):=W_some
end
theorem mR {b:Hm}{a:Nat}{xs:List D}{i:Int}{d:D}{Q:D×Hm->Prop}(h:b[a]? = some (.lst xs))(c:atI xs i=some d):W (aJ (.loc a) (.int i) b) Q↔Q (d,b):=by
 have:aJ (.loc a) (.int i) b=some (d,b):=by
  simp only [aJ,fK,bF,h,VJ,c,VT]
 rw [this]
 exact W_some
theorem ET {d:Hm}{l:Nat}{a b:D}{c:aH}{i j:Nat}{Q:aH->Prop}(h:d[l]? = some (.lst [a,b])):W (cX [i,j] (.loc l) c d) Q↔Q ((c.set i (some a)).set j (some b)):=by
 have:cX [i,j] (.loc l) c d=some ((c.set i (some a)).set j (some b)):=by
  simp only [cX,bF,h,VJ]
  rfl
 rw [this]
 exact W_some
end L3
namespace L3
open PySem L2
theorem w_iSeq {m:ME}{b:aH}{a:Hm}{Q:gC×Nat×Hm->Prop}:W (cF m b a) Q↔W (m b a) fun p=>W (jP p.2 p.1) fun xs=>Q (jQ p.1,xs.length+1,p.2):=by
 unfold cF
 simp only [W_bind,W_map]
theorem fF {c:MI}{g:MG}{b:MS}{a:aH}{d:Hm} {Q}:W (cQ c g b a d) Q↔W (c a d) fun p=>W (eZ p.1 g b p.2.1 0 a p.2.2) Q:=W_bind
theorem zZ {j:Int}{e:MA}{i:aH}{c:Hm}{Q:gC×Nat×Hm->Prop}:W (lW e i c) Q↔W (e i c) fun p=>match p.1 with|[.int j]=>(-(2 ^ 62)<=j/\j<2 ^ 62)/\Q (f7 0 j.toNat,j.toNat+1,p.2)|_=>False:=by
 unfold lW
 rw [W_bind]
 constructor<;>exact fun h=>bT h fun p q=>by
  obtain ⟨l,c⟩:=p
  match l,q with
  | [],q=>simpa [W_none] using q
  | [d],q=>
   cases d with
   | int j=>
    first
    | (dsimp only at q;rw [uM] at q;split at q
       ·rename_i m;exact ⟨m,W_some.mp q⟩
       ·exact (W_none.mp q).elim)
    | (dsimp only;rw [if_pos q.1];exact W_some.mpr q.2)
   | _=>simpa [W_none] using q
  | a::b::l,q=>simpa [W_none] using q
theorem uP {a:MA}{c:aH}{b:Hm}{Q:gC×Nat×Hm->Prop}:W (kK a c b) Q↔W (a c b) fun p=>match p.1 with|[.int i,.int j]=>(-(2 ^ 62)<=i/\i<2 ^ 62/\-(2 ^ 62)<=j/\j<2 ^ 62)/\Q (f7 i (j - i).toNat,(j - i).toNat+1,p.2)|_=>False:=by
 unfold kK
 rw [W_bind]
 constructor<;>exact fun h=>bT h fun p q=>by
  split at q
  ·rename_i e
   try rw [e]
   first
   | (rw [uM] at q;split at q
      ·rename_i d;exact ⟨d,W_some.mp q⟩
      ·exact (W_none.mp q).elim)
   | ((try dsimp only);rw [if_pos q.1];exact W_some.mpr q.2)
  ·first
   | exact (W_none.mp q).elim
   | exact q.elim
theorem q8 {j:gC}{g:MG}{b:MS}{N:Nat}{Q:Fl×aH×Hm->Prop}(I:Nat->aH->Hm->Prop)
  (go:∀ i c a,i<N->I i c a->∃ d l,j a i=some (some d)/\g d c a=some l/\W (b l a) fun p=>match p.1 with|.nx=>I (i+1) p.2.1 p.2.2|.ct=>I (i+1) p.2.1 p.2.2|.bk=>Q (.nx,p.2.1,p.2.2)|.rt d=>Q (.rt d,p.2.1,p.2.2))
  (e:∀ c a,I N c a->j a N=some none/\Q (.nx,c,a)):∀ (m i:Nat)(c:aH)(a:Hm),i+m=N->I i c a->W (eZ j g b (m+1) i c a) Q
 | 0,i,c,a,h,hI=>by
  have:i=N:=by omega
  subst this
  obtain ⟨r,s⟩:=e c a hI
  unfold eZ
  rw [r]
  exact W_some.mpr s
 | m+1,i,c,a,h,hI=>by
  obtain ⟨d,l,r,s,v⟩:=go i c a (by omega) hI
  unfold eZ
  rw [r]
  simp only [VJ,s]
  rw [W_bind]
  refine bT v fun p q=>?_
  obtain ⟨u,o,n⟩:=p
  cases u with
  | nx=>exact q8 I go e m (i+1) o n (by omega) q
  | ct=>exact q8 I go e m (i+1) o n (by omega) q
  | bk=>exact W_some.mpr q
  | rt d=>exact W_some.mpr q
theorem j4 {a:Nat}{xs:List D}{g:MG}{b:MS}{h:aH}{c:Hm}{Q:Fl×aH×Hm->Prop}(I:Nat->aH->Hm->Prop)(o:I 0 h c)(n:∀ i h c,I i h c->c[a]? = some (.lst xs))
  (go:∀ i d h c,xs[i]? = some d->I i h c->∃ j,g d h c=some j/\W (b j c) fun p=>match p.1 with|.nx=>I (i+1) p.2.1 p.2.2|.ct=>I (i+1) p.2.1 p.2.2|.bk=>Q (.nx,p.2.1,p.2.2)|.rt d=>Q (.rt d,p.2.1,p.2.2))
  (m:∀ h c,I xs.length h c->Q (.nx,h,c)):W (eZ (jQ (.loc a)) g b (xs.length+1) 0 h c) Q:=by
 refine q8 (N:=xs.length) I (fun i h c s l=>?_) (fun h c l=>⟨?_,m h c l⟩) xs.length 0 h c (by omega) o
 ·have e:xs[i]? = some xs[i]:=VH s
  obtain ⟨j,q,r⟩:=go i xs[i] h c e l
  refine ⟨xs[i],j,?_,q,r⟩
  simp only [jQ,jP,bF,n i h c l,VT,e]
 ·simp only [jQ,jP,bF,n _ h c l,VT]
  simp
theorem z7 {lo:Int}{n:Nat}{g:MG}{b:MS}{c:aH}{a:Hm}{Q:Fl×aH×Hm->Prop}(I:Nat->aH->Hm->Prop)(m:I 0 c a)
  (go:∀ (i:Nat) c a,i<n->I i c a->∃ e,g (.int (lo+i)) c a=some e/\W (b e a) fun p=>match p.1 with|.nx=>I (i+1) p.2.1 p.2.2|.ct=>I (i+1) p.2.1 p.2.2|.bk=>Q (.nx,p.2.1,p.2.2)|.rt d=>Q (.rt d,p.2.1,p.2.2))
  (h:∀ c a,I n c a->Q (.nx,c,a)):W (eZ (f7 lo n) g b (n+1) 0 c a) Q:=by
 refine q8 (N:=n) I (fun i c a l j=>?_) (fun c a j=>⟨?_,h c a j⟩) n 0 c a (by omega) m
 ·obtain ⟨e,o,q⟩:=go i c a l j
  exact ⟨_,e,by simp only [f7,if_pos l],o,q⟩
 ·simp only [f7,Xz,if_false]
theorem z8 {c:Hm}{a:Nat}{b:List D}{y:D}(h:c[a]? = some (.lst b))(d:b.length<VA):nD c a y=some (c.set a (.lst (b++[y]))):=by
 unfold nD
 rw [h]
 exact if_pos d
theorem z9 {z:gC}{c:MT}{e:ME}{J:aH}{h:Hm}{xs:List D}{p:D->Bool}{v:D->D}{Q:Hm->Prop}(B:∀ a i,h <+: a->z a i=some xs[i]?)(K:xs.length<=VA)
  (hc:∀ d a,d∈xs->h <+: a->W (c (J++[some d]) a) fun r=>r.1=p d/\a <+: r.2)
  (E:∀ d a,d∈xs->p d=true->h <+: a->W (e (J++[some d]) a) fun r=>r.1=v d/\a <+: r.2)
  (fin:∀ a,h <+: a->a[h.length]? = some (.lst ((xs.filter p).map v))->Q a) :
  ∀ (m i:Nat)(a:Hm),i+m=xs.length->h <+: a->a[h.length]? = some (.lst (((xs.take i).filter p).map v))->W (f9 z pW c e J h.length (m+1) i a) Q
 | 0,i,a,hi,hp,ha=>by
  have:i=xs.length:=by omega
  subst this
  unfold f9
  rw [B a _ hp]
  rw [Y3 (Vv _)]
  simp only [VJ]
  refine W_some.mpr (fin a hp ?_)
  simpa using ha
 | m+1,i,a,hi,hp,ha=>by
  have w:i<xs.length:=by omega
  have L:xs[i]? = some xs[i]:=VH w
  have l:xs[i]∈xs:=Y7 w
  unfold f9
  rw [B a _ hp,L]
  simp only [VJ,pW]
  rw [W_bind]
  refine bT (hc _ a l hp) fun r q=>?_
  obtain ⟨b,A⟩:=r
  obtain ⟨M,x⟩:=q
  dsimp only at M x ⊢
  subst M
  have j:xs.take (i+1)=xs.take i++[xs[i]]:=by rw [Zy,L];rfl
  have o:=aV x ha
  cases n:p xs[i] with
  | false=>
   refine z9 B K hc E fin m (i+1) A (by omega) (hp.trans x) ?_
   rw [o,j,XA]
   simp [n]
  | true=>
   dsimp only
   rw [W_bind]
   refine bT (E _ A l n (hp.trans x)) fun r q=>?_
   obtain ⟨y,I⟩:=r
   obtain ⟨N,H⟩:=q
   dsimp only at N H ⊢
   subst N
   have s:=aV H o
   have u:(((xs.take i).filter p).map v).length<VA:=by
    have O:=WJ p (xs.take i)
    rw [Vm]
    rw [XY] at O
    omega
   rw [z8 s u,VJ]
   have G:h <+: I:=(hp.trans x).trans H
   refine z9 B K hc E fin m (i+1) _ (by omega) (hX G (Vv _) _) ?_
   rw [Wg (Vx.mp s).1,j,XA]
   simp [n]
theorem fR {x:MI}{c:MT}{e:ME}{b:aH}{y:Hm}{xs:List D}{p:D->Bool}{v:D->D}{Q:D×Hm->Prop}
  (hit:W (x b y) fun r=>(∀ a i,r.2.2 <+: a->r.1 a i=some xs[i]?)/\r.2.1=xs.length+1/\xs.length<=VA /\
   (∀ d a,d∈xs->r.2.2 <+: a->W (c (b++[some d]) a) fun s=>s.1=p d/\a <+: s.2)/\(∀ d a,d∈xs->p d=true->r.2.2 <+: a->W (e (b++[some d]) a) fun s=>s.1=v d/\a <+: s.2) /\
   ∀ a,r.2.2 <+: a->a[r.2.2.length]? = some (.lst ((xs.filter p).map v))->Q (.loc r.2.2.length,a)):W (eQ x c e b y) Q:=by
 unfold eQ iI
 rw [W_bind]
 refine bT hit fun r q=>?_
 obtain ⟨z,n,h⟩:=r
 obtain ⟨j,l,m,o,u,w⟩:=q
 dsimp only at j l m o u w ⊢
 subst l
 rw [W_map]
 exact z9 j m o u w xs.length 0 (h++[.lst []]) (by omega) (bA _ _) (by simp)
theorem iP {c:Hm}{a:Nat}{xs:List D}(h:c[a]? = some (.lst xs)):∀ b i,c <+: b->jQ (.loc a) b i=some xs[i]?:=fun b i d=>by
 simp only [jQ,jP,bF,aV d h,VT]
theorem Aa {xs:List D}{b:Hm}:∀ a i,b <+: a->jQ (.tup xs) a i=some xs[i]?:=fun a i c=>rfl
noncomputable def gJ (lo:Int)(n:Nat):List D:=(Wc n).map fun (i:Nat)=>.int (lo+(i:Int))
theorem EU {lo:Int}{n:Nat}{b:Hm}:∀ a i,b <+: a->f7 lo n a i=some (gJ lo n)[i]?:=fun a i _=>by
 unfold f7 gJ
 rw [V0]
 by_cases h:i<n
 ·rw [if_pos h,List.getElem?_range h];rfl
 ·rw [if_neg h,Y3 (by simpa using Yx.mp h)];rfl
noncomputable abbrev P (x y:Int):D:=.tup [.int x,.int y]
noncomputable abbrev PP (p:Int×Int):D:=P p.1 p.2
theorem Ab (n:Nat)(e:Hm)(p q:Int×Int):cD (n+2) e (PP p) (PP q)=some (p == q):=by
 obtain ⟨a,b⟩:=p
 obtain ⟨c,d⟩:=q
 show some (a == c&&(b == d&&true))=some ((a,b) == (c,d))
 rw [a2h]
 rfl
theorem EV (n:Nat)(a:Hm):∀ ps qs:List (Int×Int),gX (cD (n+2) a) (ps.map PP) (qs.map PP)=some (ps == qs)
 | [],[]=>rfl
 | [],_::_=>rfl
 | _::_,[]=>rfl
 | p::ps,q::qs=>by
  rw [VE,VE]
  show (cD (n+2) a (PP p) (PP q)).bind (fun b=>(gX (cD (n+2) a) (ps.map PP) (qs.map PP)).map fun c=>b&&c)=_
  rw [Ab,EV n a ps qs]
  rfl
theorem Rq {c:Hm}{a b:Nat}{ps qs:List (Int×Int)}(h:c[a]? = some (.lst (ps.map PP)))(i:c[b]? = some (.lst (qs.map PP))):cD 8 c (.loc a) (.loc b)=some (ps == qs):=by
 have d:eX c (.loc a)=some (.lst (ps.map PP)):=by simp only [eX,h]
 have e:eX c (.loc b)=some (.lst (qs.map PP)):=by simp only [eX,i]
 show (eX c (.loc a)).bind (fun x=>(eX c (.loc b)).bind fun y=>iX (cD 7 c) x y)=_
 rw [d,e]
 exact EV 5 c ps qs
theorem EW {c:Hm}{a b:Nat}{ps qs:List (Int×Int)}{ne:Bool}{Q:D×Hm->Prop}(d:c[a]? = some (.lst (ps.map PP)))(e:c[b]? = some (.lst (qs.map PP))):W (aT ne (.loc a) (.loc b) c) Q↔Q (.bl (if ne then !(ps == qs) else ps == qs),c):=by
 unfold aT
 rw [Rq d e]
 exact W_some
theorem EX (n:Nat)(a:Hm):∀ ps qs:List Int,gX (cD (n+1) a) (ps.map D.int) (qs.map D.int)=some (ps == qs)
 | [],[]=>rfl
 | [],_::_=>rfl
 | _::_,[]=>rfl
 | p::ps,q::qs=>by
  rw [VE,VE]
  show (cD (n+1) a (.int p) (.int q)).bind (fun b=>(gX (cD (n+1) a) (ps.map D.int) (qs.map D.int)).map fun c=>b&&c)=_
  rw [EX n a ps qs]
  rfl
theorem EY {c:Hm}{a b:Nat}{xs d:List D}{Q:D×Hm->Prop}(e:c[a]? = some (.lst xs))(h:c[b]? = some (.lst d))(i:xs.length+d.length<=VA):W (bJ (.loc a) (.loc b) c) Q↔Q (.loc c.length,c++[.lst (xs++d)]):=by
 simp only [bJ,e,h,if_pos i]
 exact W_some
theorem j5 {f:D->List D->Hm->Option (D×Hm)}{b:ME}{c:MA}{a:aH}{d:Hm}{Q:D×Hm->Prop}(h:W (b a d) fun p=>nM p.2 p.1=true/\W (c a p.2) fun q=>W (f p.1 q.1 q.2) Q):W (dG f b c a d) Q:=by
 unfold dG
 rw [W_bind]
 refine bT h fun p q=>?_
 rw [q.1]
 exact W_bind.mpr q.2
theorem j6 {b:Hm}{a:Nat}{xs:List D}(h:b[a]? = some (.lst xs)):nM b (.loc a)=true:=by
 simp only [nM,h]
theorem oZ {b:Hm}{a:Nat}{xs:List D}{y:D}{Q:D×Hm->Prop}(h:b[a]? = some (.lst xs))(c:xs.length<VA):W (eI (.loc a) [y] b) Q↔Q (.non,b.set a (.lst (xs++[y]))):=by
 simp only [eI,z8 h c,VT]
 exact W_some
theorem Rt {c:Hm}{a b:Nat}{xs d:List D}{Q:D×Hm->Prop}(h:c[a]? = some (.lst xs))(e:c[b]? = some (.lst d))(i:xs.length+d.length<=VA):W (nN (.loc a) [.loc b] c) Q↔Q (.non,c.set a (.lst (xs++d))):=by
 simp only [nN,h,e,if_pos i]
 exact W_some
theorem EZ {a:Hm}{i:Int}{Q:D×Hm->Prop}:W (eY [.int i,.ty "bool"] a) Q↔Q (.bl false,a):=W_some
theorem E4 {a:Hm}{i:Int}{Q:D×Hm->Prop}:W (eY [.int i,.ty "int"] a) Q↔Q (.bl true,a):=W_some
theorem pA {b:Hm}{a:Nat}{xs:List D}{Q:D×Hm->Prop}(h:b[a]? = some (.lst xs)):W (dZ [.loc a] b) Q↔Q (.int xs.length,b):=by
 simp only [dZ,pY,bF,h,VT]
 exact W_some
theorem E6 {a:Hm}{xs:List D}{Q:D×Hm->Prop}:W (dZ [.rol xs] a) Q↔Q (.int xs.length,a):=W_some
theorem d8 {b:Hm}{a:Nat}{xs:List D}{Q:List D->Prop}(h:b[a]? = some (.lst xs)):W (jP b (.loc a)) Q↔Q xs:=by
 simp only [jP,bF,h]
 exact W_some
theorem w_seqT {a:Hm}{xs:List D}{Q:List D->Prop}:W (jP a (.tup xs)) Q↔Q xs:=W_some
theorem uQ {b:aH}{a:Hm}{Q:Option Int×Hm->Prop}:W (jL b a) Q↔Q (none,a):=W_some
theorem uR {m:ME}{b:aH}{a:Hm}{Q:Option Int×Hm->Prop}:W (iW m b a) Q↔W (m b a) fun p=>match p.1 with|.int i=>Q (some i,p.2)|_=>False:=by
 unfold iW
 rw [W_bind]
 constructor<;>exact fun h=>bT h fun p q=>by
  obtain ⟨d,a⟩:=p
  cases d<;>simpa [W_some,W_none] using q
theorem E7 {a:ME}{lo c:MO}{b:aH}{j:Hm}{Q:D×Hm->Prop}(h:W (a b j) fun p=>∃ l,p.1=.loc l/\W (lo b p.2) fun q=>W (c b q.2) fun r=>∃ xs,r.2[l]? = some (.lst xs)/\Q (.loc r.2.length,r.2++[.lst (iV xs q.1 r.1)])):W (lQ a lo c b j) Q:=by
 unfold lQ
 rw [W_bind]
 refine bT h fun p q=>?_
 obtain ⟨d,o⟩:=p
 obtain ⟨l,e,i⟩:=q
 dsimp only at e i ⊢
 subst e
 rw [W_bind]
 refine bT i fun s q=>?_
 rw [W_bind]
 refine bT q fun r q=>?_
 obtain ⟨xs,m,n⟩:=q
 simp only [bF,m,VJ]
 exact W_some.mpr n
theorem bL (a:Hm)(c:C):(a++[c])[a.length]? = some c:=by simp
end L3
namespace L3
open PySem L2
theorem Ru {f g:D->D->Hm->Option (D×Hm)}{a b c:ME}{e:aH}{i:Hm} {Q}:W (jV f g a b c e i) Q↔W (a e i) fun p=>W (b e p.2) fun q=>W (f p.1 q.1 q.2) fun r=>match r.1 with|.bl k=>if k=true then W (c e r.2) fun t=>W (g q.1 t.1 t.2) Q else Q (.bl false,r.2)|_=>False:=by
 unfold jV
 simp only [W_bind]
 constructor<;>exact fun h=>bT h fun p q=>bT q fun m l=>bT l fun r j=>by
  obtain ⟨d,i⟩:=r
  cases d with
  | bl k=>cases k<;>simpa [W_some,W_bind] using j
  | _=>simpa [W_none] using j
section
variable {i j:Int}{μ:Hm}{Q:D×Hm->Prop}
theorem Rv:W (d7 false .non .non μ) Q↔Q (.bl true,μ):=W_some
theorem Fb:W (d7 true .non .non μ) Q↔Q (.bl false,μ):=W_some
theorem Rw {a:Nat}:W (d7 false (.loc a) .non μ) Q↔Q (.bl false,μ):=W_some
theorem Fc {xs:List D}:W (d7 true (.tup xs) .non μ) Q↔Q (.bl true,μ):=W_some
theorem Ac:∀ is:List Int,kL (is.map D.int)=some is
 | []=>rfl
 | i::is=>by
  show (kL (is.map D.int)).map (i::·)=_
  rw [Ac is];rfl
theorem Fd {a:Nat}{is:List Int}(h:μ[a]? = some (.lst (is.map D.int))):W (mF [.loc a] μ) Q↔Q (.int is.sum,μ):=by
 simp only [mF,bF,h,VJ,Ac,VT]
 exact W_some
theorem Fe {a:Nat}{bs:List Bool}(h:μ[a]? = some (.lst (bs.map D.bl))):W (qA [.loc a] μ) Q↔Q (.bl (bs.all id),μ):=by
 have e:∀ bs:List Bool,jS (bs.map D.bl)=some bs:=fun bs=>by
  induction bs with
  | nil=>rfl
  | cons b bs c=>
   show (jS (bs.map D.bl)).map (b::·)=_
   rw [c];rfl
 simp only [qA,bF,h,VJ,e,VT]
 exact W_some
end
theorem Ff {a:ME}{lo c st:MO}{b:aH}{j:Hm}{Q:D×Hm->Prop}(h:W (a b j) fun p=>∃ l,p.1=.loc l/\W (lo b p.2) fun q=>W (c b q.2) fun r=>W (st b r.2) fun t=>t.1≠some 0/\∃ xs,t.2[l]? = some (.lst xs)/\(d9 xs q.1 r.1 t.1).length<=VA/\Q (.loc t.2.length,t.2++[.lst (d9 xs q.1 r.1 t.1)])):W (nZ a lo c st b j) Q:=by
 unfold nZ
 rw [W_bind]
 refine bT h fun p q=>?_
 obtain ⟨d,v⟩:=p
 obtain ⟨l,e,i⟩:=q
 dsimp only at e i ⊢
 subst e
 rw [W_bind]
 refine bT i fun s q=>?_
 rw [W_bind]
 refine bT q fun r q=>?_
 rw [W_bind]
 refine bT q fun t q=>?_
 obtain ⟨m,xs,n,o,u⟩:=q
 rw [if_pos m]
 simp only [d6,n,VJ]
 rw [if_pos o]
 exact W_some.mpr u
theorem Fg {b:MA}{j:aH}{i:Hm}{Q:gC×Nat×Hm->Prop}(h:W (b j i) fun p=>∃ a xs,p.1=[.loc a]/\p.2[a]? = some (.lst xs)/\Q (n6 (.loc a),xs.length+1,p.2)):W (mG b j i) Q:=by
 unfold mG
 rw [W_bind]
 refine bT h fun p q=>?_
 obtain ⟨l,m⟩:=p
 obtain ⟨a,xs,c,d,e⟩:=q
 dsimp only at c d e ⊢
 subst c
 dsimp only
 simp only [d6,d,VT]
 exact W_some.mpr e
theorem Ad {a:Nat}{xs:List D}{g:MG}{b:MS}{h:aH}{c:Hm}{Q:Fl×aH×Hm->Prop}(I:Nat->aH->Hm->Prop)(o:I 0 h c)(n:∀ i h c,I i h c->c[a]? = some (.lst xs))
  (go:∀ (i:Nat) d h c,xs[i]? = some d->I i h c->∃ j,g (.tup [.int i,d]) h c=some j/\W (b j c) fun p=>match p.1 with|.nx=>I (i+1) p.2.1 p.2.2|.ct=>I (i+1) p.2.1 p.2.2|.bk=>Q (.nx,p.2.1,p.2.2)|.rt d=>Q (.rt d,p.2.1,p.2.2))
  (m:∀ h c,I xs.length h c->Q (.nx,h,c)):W (eZ (n6 (.loc a)) g b (xs.length+1) 0 h c) Q:=by
 refine q8 (N:=xs.length) I (fun i h c s l=>?_) (fun h c l=>⟨?_,m h c l⟩) xs.length 0 h c (by omega) o
 ·have e:xs[i]? = some xs[i]:=VH s
  obtain ⟨j,q,r⟩:=go i xs[i] h c e l
  refine ⟨_,j,?_,q,r⟩
  simp only [n6,bF,n i h c l,VT,e]
 ·simp only [n6,bF,n _ h c l,VT]
  simp
theorem Ae {p:gC}{E:BD}{c:MT}{e:ME}{B:aH}{a N:Nat}{Q:Hm->Prop}(I:Nat->List D->Hm->Prop)(G:N<=VA)(n:∀ i j l,I i j l->j.length<=i)
  (go:∀ i j l,i<N->I i j l->l[a]? = some (.lst j)->∃ d x,p l i=some (some d)/\E d l=some x/\W (c (B++x) l) fun r=>(r.1=false->r.2[a]? = some (.lst j)/\I (i+1) j r.2) /\
   (r.1=true->W (e (B++x) r.2) fun s=>s.2[a]? = some (.lst j)/\I (i+1) (j++[s.1]) (s.2.set a (.lst (j++[s.1])))))
  (o:∀ j l,I N j l->l[a]? = some (.lst j)->p l N=some none/\Q l):∀ (m i:Nat)(j:List D)(l:Hm),i+m=N->I i j l->l[a]? = some (.lst j)->W (f9 p E c e B a (m+1) i l) Q
 | 0,i,j,l,h,hI,hg=>by
  have:i=N:=by omega
  subst this
  obtain ⟨w,z⟩:=o j l hI hg
  unfold f9
  rw [w]
  exact W_some.mpr z
 | m+1,i,j,l,h,hI,hg=>by
  obtain ⟨d,x,w,z,H⟩:=go i j l (by omega) hI hg
  unfold f9
  rw [w]
  simp only [VJ,z]
  rw [W_bind]
  refine bT H fun r q=>?_
  obtain ⟨b,A⟩:=r
  cases b with
  | false=>
   obtain ⟨u,v⟩:=q.1 rfl
   exact Ae I G n go o m (i+1) j A (by omega) v u
  | true=>
   dsimp only
   rw [W_bind]
   refine bT (q.2 rfl) fun s q=>?_
   obtain ⟨y,J⟩:=s
   obtain ⟨u,v⟩:=q
   dsimp only at u v ⊢
   have K:=n i j l hI
   rw [z8 u (by omega),VJ]
   refine Ae I G n go o m (i+1) _ _ (by omega) v ?_
   rw [Wg (Vx.mp u).1]
theorem Ry {z:gC}{H:BD}{c:MT}{e:ME}{G:aH}{h:Hm}{xs:List D}{x:D->aH}{p:D->Bool}{v:D->D}{Q:Hm->Prop}(J:∀ a i,h <+: a->z a i=some xs[i]?)(O:xs.length<=VA)(M:∀ d a,d∈xs->H d a=some (x d))
  (hc:∀ d a,d∈xs->h <+: a->W (c (G++x d) a) fun r=>r.1=p d/\a <+: r.2)
  (N:∀ d a,d∈xs->p d=true->h <+: a->W (e (G++x d) a) fun r=>r.1=v d/\a <+: r.2)
  (fin:∀ a,h <+: a->a[h.length]? = some (.lst ((xs.filter p).map v))->Q a):W (f9 z H c e G h.length (xs.length+1) 0 (h++[.lst []])) Q:=by
 refine Ae (N:=xs.length) (fun i A a=>A=((xs.take i).filter p).map v/\h <+: a) O ?_ ?_ ?_ xs.length 0 [] _ (by omega) ⟨by simp,bA _ _⟩ (by simp)
 ·rintro i A a ⟨rfl,_⟩
  rw [Vm]
  refine Wu (WJ _ _) ?_
  rw [XY];omega
 ·rintro i A a I ⟨rfl,m⟩ w
  have K:xs[i]? = some xs[i]:=VH I
  have j:xs[i]∈xs:=Y7 I
  have l:xs.take (i+1)=xs.take i++[xs[i]]:=by rw [Zy,K];rfl
  refine ⟨xs[i],x xs[i],by rw [J a i m,K],M _ _ j,bT (hc _ a j m) fun r q=>?_⟩
  obtain ⟨b,E⟩:=r
  obtain ⟨o,u⟩:=q
  dsimp only at o u ⊢
  refine ⟨fun n=>⟨aV u w,?_,m.trans u⟩,fun n=>?_⟩
  ·rw [l,XA]
   rw [n] at o
   simp [<- o]
  ·rw [n] at o
   refine bT (N _ E j o.symm (m.trans u)) fun s q=>?_
   obtain ⟨y,R⟩:=s
   obtain ⟨L,B⟩:=q
   dsimp only at L B ⊢
   subst L
   refine ⟨aV (u.trans B) w,?_,hX ((m.trans u).trans B) (Vv _) _⟩
   rw [l,XA,Wq]
   simp [<- o]
 ·rintro A a ⟨rfl,m⟩ w
  refine ⟨by rw [J a _ m];simp,fin a m ?_⟩
  rw [Y5] at w
  exact w
theorem Af {h:BD}{z:MI}{c:MT}{e:ME}{b:aH}{A:Hm}{xs:List D}{x:D->aH}{p:D->Bool}{v:D->D}{Q:D×Hm->Prop}
  (hit:W (z b A) fun r=>(∀ a i,r.2.2 <+: a->r.1 a i=some xs[i]?)/\r.2.1=xs.length+1/\xs.length<=VA/\(∀ d a,d∈xs->h d a=some (x d)) /\
   (∀ d a,d∈xs->r.2.2 <+: a->W (c (b++x d) a) fun s=>s.1=p d/\a <+: s.2)/\(∀ d a,d∈xs->p d=true->r.2.2 <+: a->W (e (b++x d) a) fun s=>s.1=v d/\a <+: s.2) /\
   ∀ a,r.2.2 <+: a->a[r.2.2.length]? = some (.lst ((xs.filter p).map v))->Q (.loc r.2.2.length,a)):W (iI h z c e b A) Q:=by
 unfold iI
 rw [W_bind]
 refine bT hit fun r q=>?_
 obtain ⟨B,n,E⟩:=r
 obtain ⟨j,l,m,o,u,w,y⟩:=q
 dsimp only at j l m o u w y ⊢
 subst l
 rw [W_map]
 exact Ry j m o u w y
theorem w_mTrue {b:aH}{a:Hm}{Q:Bool×Hm->Prop}:W (e8 b a) Q↔Q (true,a):=W_some
theorem Ag {o i v:ME}{a:aH}{c:Hm} {Q}:W (iM o i v a c) Q↔W (v a c) fun p=>W (o a p.2) fun q=>W (i a q.2) fun r=>W (qH q.1 r.1 p.1 r.2) fun b=>Q (.nx,a,b):=by
 unfold iM yD
 simp only [W_bind,W_map]
theorem Rz {d:MA}{j:aH}{i:Hm}{Q:gC×Nat×Hm->Prop}(h:W (d j i) fun p=>∃ a b xs c,p.1=[.loc a,.loc b]/\p.2[a]? = some (.lst xs)/\p.2[b]? = some (.lst c)/\Q (qL (.loc a) (.loc b),min xs.length c.length+1,p.2)):W (qM d j i) Q:=by
 unfold qM
 rw [W_bind]
 refine bT h fun p q=>?_
 obtain ⟨a,b,xs,c,e,l,m,q⟩:=q
 rw [e]
 simp only [d6,l,m,VJ,VT]
 exact W_some.mpr q
theorem Fh {b:Hm}{a:Nat}{xs:List D}{Q:D×Hm->Prop}(h:b[a]? = some (.lst xs)):W (oM [.loc a] b) Q↔Q (.tup xs,b):=by
 simp only [oM,bF,h,VT]
 exact W_some
section
variable {μ:Hm}{a:Nat}{kvs:List (List Int×D)}{k:List Int}{d y:D}{ρ:aH}{Q:D×Hm->Prop}
theorem RA:W (qJ ρ μ) Q↔Q (.loc μ.length,μ++[.dT []]):=W_some
theorem iA (h:μ[a]? = some (.dT kvs))(b:eH y=some k)(c:bN kvs k=some d):W (aJ (.loc a) y μ) Q↔Q (d,μ):=by
 simp only [aJ,h,b,VJ,c,VT]
 exact W_some
theorem Ah {b:Bool}(h:μ[a]? = some (.dT kvs))(c:eH y=some k):W (cT b y (.loc a) μ) Q↔Q (.bl (if b then !(bN kvs k).isSome else (bN kvs k).isSome),μ):=by
 have:cT b y (.loc a) μ=some (.bl (if b then !(bN kvs k).isSome else (bN kvs k).isSome),μ):=by
  simp only [cT,h,c,VT]
 rw [this]
 exact W_some
theorem Ai {Q:Hm->Prop}(h:μ[a]? = some (.dT kvs))(b:eH y=some k)(c:kvs.length<VA):W (qH (.loc a) y d μ) Q↔Q (μ.set a (.dT (dA kvs k d))):=by
 simp only [qH,qG,h,b,VJ,if_pos c]
 exact W_some
theorem RB (h:μ[a]? = some (.dT kvs)):W (dZ [.loc a] μ) Q↔Q (.int kvs.length,μ):=by
 simp only [dZ,h]
 exact W_some
theorem Fi (h:μ[a]? = some (.dT kvs)):W (jY [.loc a] μ) Q↔Q (.loc μ.length,μ++[.lst (kvs.map fun k=>D.tup (k.1.map D.int))]):=by
 simp only [jY,h]
 exact W_some
end
theorem RC {b:Hm}{a:Nat}{is:List Int}{Q:D×Hm->Prop}(h:b[a]? = some (.lst (is.map D.int)))(c:is.length<64):W (i8 [.loc a] b) Q↔Q (.loc b.length,b++[.lst ((fP is).map D.int)]):=by
 have:mH [.loc a] b=some (.loc b.length,b++[.lst ((fP is).map D.int)]):=by
  simp only [mH,d6,h,VJ,Ac]
  rw [if_pos c]
 simp only [i8,this]
 exact W_some
theorem RE {z:Str}{i:Int}{c:Nat}{a:Hm}{Q:D×Hm->Prop}(hz:z.length<=VA)(h:atI z.cps.toList i=some c):W (aJ (.str z) (.int i) a) Q↔Q (.str ⟨#[c]⟩,a):=by
 have:aJ (.str z) (.int i) a=some (.str ⟨#[c]⟩,a):=by
  simp only [aJ,fK]
  rw [if_pos hz,h];rfl
 rw [this]
 exact W_some
theorem RG {a:Hm}{b:Bool}{Q:D×Hm->Prop}:W (nF [.bl b] a) Q↔Q (.int (if b then 1 else 0),a):=by
 cases b<;>exact W_some
theorem RH {m c:MS}{r:MR}{sup:Str->Option Bool}{i:Nat}{e b:aH}{d a:Hm}{x:Xn}{Q:Fl×aH×Hm->Prop}(h:r e d=some (x,b,a))(j:sup x.1=some true) :
  W (kR m r sup i c e d) Q↔W (c (b.set i (some (.loc a.length))) (a++[C.exc x.1 (x.2.map (·.1)) (x.2.map (·.2))])) fun q=>Q (q.1,q.2.1.set i none,q.2.2):=by
 unfold kR
 rw [h]
 dsimp only
 rw [if_pos j]
 exact W_map
theorem RI {m c:MS}{r:MR}{sup:Str->Option Bool}{i:Nat}{b:aH}{a:Hm}{Q:Fl×aH×Hm->Prop}(h:r b a=none):W (kR m r sup i c b a) Q↔W (m b a) Q:=by
 unfold kR
 rw [h]
theorem RJ {c:Str}{ok:Str->Bool}{m:ME}{j:aH}{i:Hm}{Q:D×Hm->Prop}:W (jU c ok m j i) Q↔W (m j i) fun p=>∃ a x ns ds d,p.1=.loc a/\p.2[a]? = some (.exc x ns ds)/\ok x=true/\(ns.zip ds).lookup c=some d/\Q (d,p.2):=by
 unfold jU
 rw [W_bind]
 constructor
 ·rintro ⟨p,h,a,b,e⟩
  refine ⟨p,h,?_⟩
  split at b
  ·rename_i l r
   split at b
   ·rename_i x ns ds u
    split at b
    ·rename_i s
     obtain ⟨d,hd,rfl⟩:=Vn.mp b
     exact ⟨l,x,ns,ds,d,r,u,s,hd,e⟩
    ·cases b
   ·cases b
  ·cases b
 ·rintro ⟨p,h,a,x,ns,ds,d,b,e,n,o,q⟩
  refine ⟨p,h,_,?_,q⟩
  rw [b]
  dsimp only
  rw [e]
  dsimp only
  rw [if_pos n,o]
  rfl
theorem w_rCall {r:RF}{b:MA}{a:aH}{c:Hm}{Q:Xn×aH×Hm->Prop}:W (kQ r b a c) Q↔W (b a c) fun p=>W (r p.1 p.2) fun q=>Q (q.1,a,q.2):=by
 unfold kQ
 rw [W_bind]
 exact ⟨fun ⟨p,h,k⟩=>⟨p,h,W_map.mp k⟩,fun ⟨p,h,k⟩=>⟨p,h,W_map.mpr k⟩⟩
theorem w_rRaiseI {x a:Str}{m:ME}{b:aH}{c:Hm}{Q:Xn×aH×Hm->Prop}:W (nV x a m b c) Q↔W (m b c) fun p=>Q ((x,[(a,p.1)]),b,p.2):=by
 unfold nV
 exact W_map
theorem w_rIf {t:MT}{b c:MR}{a:aH}{d:Hm}{Q:Xn×aH×Hm->Prop}:W (nP t b c a d) Q↔W (t a d) fun p=>W (if p.1=true then b a p.2 else c a p.2) Q:=by
 unfold nP
 exact W_bind
theorem uS {m:MS}{a i:MR}{c:aH}{b:Hm}{Q:Xn×aH×Hm->Prop}(h:W (a c b) Q):W (cY m a i c b) Q:=by
 obtain ⟨p,d,e⟩:=h
 refine ⟨p,?_,e⟩
 unfold cY
 rw [d]
theorem RK {m:MS}{c d:MR}{b:aH}{a:Hm}{Q:Xn×aH×Hm->Prop}(h:c b a=none)(k:W (m b a) fun p=>p.1=.nx/\W (d p.2.1 p.2.2) Q):W (cY m c d b a) Q:=by
 obtain ⟨⟨f,o,n⟩,e,i,p,j,l⟩:=k
 cases i
 refine ⟨p,?_,l⟩
 unfold cY
 rw [h,e]
 exact j
theorem Fj {o:Option (Xn×aH×Hm)}{Q:Xn×Hm->Prop}:W (qZ o) Q↔W o fun p=>Q (p.1,p.2.2):=W_map
end L3
namespace Lw
open PySem L2 L3
noncomputable def ds:List (Str×Stmt):=(("is_whole",aN 6)::("is_corner",aN 7)::("is_edge",aN 8)::("is_quarter",aN 9)::("line_of",aN 10)::("beside",aN 11)::("edges_of",aN 12)::("moved_by",aN 13)::("edges_round",aN 14)::("number_by",aN 15)::("mirrored",aN 16)::("is_within",aN 18)::("places_within",aN 19)::("quarters_in",aN 20)::("corners_in",aN 21)::("neighbours_in",aN 22)::("marks_in",aN 23)::("is_good",aN 25)::("creases_at",aN 27)::("gaps_at",aN 28)::("barred",aN 29)::("check_corners",aN 30)::("laying_by",aN 33)::("mirror_in",aN 34)::("led",aN 35)::("then",aN 36)::("laid",aN 38)::("_law_cell",aN 40)::("_law_inner",aN 41)::("_law_line",aN 42)::("_law_beside",aN 43)::("_law_quarters",aN 44)::("_law_led",aN 45)::("_law_over",aN 46)::("_law_value",aN 47)::("_law_grown",aN 48)::("_law_by_lines",aN 49)::("_law_creased",aN 50)::("_law_sheet",aN 51)::("_law_asked",aN 52)::("_law_is_laying",aN 53)::("_law_agree",aN 54)::("_law_right",aN 55)::("law",aN 56)::[])
noncomputable def Fm:D:=(.tup [(.tup [(.int 2),(.int 0)]),(.tup [(.int 1),(.int 1)]),(.tup [(.int 0),(.int 2)]),(.tup [(.int (-1)),(.int 1)]),(.tup [(.int (-2)),(.int 0)]),(.tup [(.int (-1)),(.int (-1))]),(.tup [(.int 0),(.int (-2))]),(.tup [(.int 1),(.int (-1))])])
noncomputable def Fn:D:=(.tup [(.tup [(.int 1),(.int 1)]),(.tup [(.int (-1)),(.int 1)]),(.tup [(.int (-1)),(.int (-1))]),(.tup [(.int 1),(.int (-1))])])
noncomputable def uT:D:=(.tup [(.int 1),(.int 0),(.int 0),(.int 1),(.int 0),(.int 0)])
noncomputable def S:Sig:={ fn:=(("is_whole",1)::("is_corner",1)::("is_edge",1)::("is_quarter",1)::("line_of",1)::("beside",1)::("edges_of",1)::("moved_by",2)::("edges_round",1)::("number_by",2)::("mirrored",2)::("is_within",3)::("places_within",2)::("quarters_in",2)::("corners_in",2)::("neighbours_in",3)::("marks_in",1)::("is_good",1)::("creases_at",2)::("gaps_at",2)::("barred",1)::("check_corners",1)::("laying_by",3)::("mirror_in",1)::("led",2)::("then",2)::("laid",1)::("_law_cell",2)::("_law_inner",2)::("_law_line",1)::("_law_beside",1)::("_law_quarters",2)::("_law_led",2)::("_law_over",2)::("_law_value",2)::("_law_grown",3)::("_law_by_lines",2)::("_law_creased",4)::("_law_sheet",3)::("_law_asked",1)::("_law_is_laying",1)::("_law_agree",3)::("_law_right",2)::("law",1)::[]),con:=[("EIGHT_EDGES",Fm),("FOUR_EDGES",Fn),("STILL",uT)],tab:=[],no:=["all","any","bool","dict","enumerate","int","isinstance","len","list","range","sorted","sum","tuple","zip"],dIt:=[],dEq:=["_law_kept"],dMe:=["_law_found"],cls:=[("Barred","corner")],sup:=[("CreaseError",["CreaseError","ValueError"]),("Barred",["Barred","CreaseError","ValueError"])],rz:=["laid","check_corners"] }
@[irreducible] noncomputable def f (k:Nat)(x:Str):MF:=hW S ds k x
@[irreducible] noncomputable def g (k:Nat)(x:Str):RF:=k7 S ds k x
noncomputable abbrev sup (c x:Str):Option Bool:=(S.sup.lookup x).map fun a=>a.contains c
noncomputable abbrev att (a x:Str):Bool:=S.cls.lookup x == some a
end Lw
namespace Lw
open PySem L2 L3
theorem RM (k:Nat)(a:D)(b:Hm):f (k+1) "is_whole" [a] b=fin ((aQ (gW (aG eY (aC (aA 0) (aC (mC (.ty "int")) aD))) (kH (aG eY (aC (aA 0) (aC (mC (.ty "bool")) aD)))))) [some a] b):=by
 kernel_rfl
theorem RN (k:Nat)(a:D)(b:Hm):f (k+1) "is_corner" [a] b=fin ((aQ (gW (aB (aT false) (aB aW (aB aJ (aA 0) (mC (.int 0))) (mC (.int 2))) (mC (.int 0))) (aB (aT false) (aB aW (aB aJ (aA 0) (mC (.int 0))) (mC (.int 4))) (aB aW (aB aJ (aA 0) (mC (.int 1))) (mC (.int 4)))))) [some a] b):=by
 kernel_rfl
theorem RO (k:Nat)(a:D)(b:Hm):f (k+1) "is_edge" [a] b=fin ((aI (bD (aO (aB (aT false) (aB aW (aB aJ (aA 0) (mC (.int 0))) (mC (.int 2))) (mC (.int 1)))) (aQ (aB (aT false) (aB aW (aB aJ (aA 0) (mC (.int 1))) (mC (.int 2))) (mC (.int 1)))) bG) (aQ (gW (aB (aT false) (aB aW (aB aJ (aA 0) (mC (.int 1))) (mC (.int 2))) (mC (.int 0))) (aB (aT true) (aB aW (aB aJ (aA 0) (mC (.int 0))) (mC (.int 4))) (aB aW (aB aJ (aA 0) (mC (.int 1))) (mC (.int 4))))))) [some a] b):=by
 kernel_rfl
theorem RP (k:Nat)(a:D)(b:Hm):f (k+1) "is_quarter" [a] b=fin ((aI (bD (aO (aB (aT false) (aB aW (aB aJ (aA 0) (mC (.int 0))) (mC (.int 2))) (mC (.int 1)))) (aQ (aB (aT false) (aB aW (aB aJ (aA 0) (mC (.int 1))) (mC (.int 4))) (mC (.int 2)))) bG) (aQ (gW (aB (aT false) (aB aW (aB aJ (aA 0) (mC (.int 0))) (mC (.int 4))) (mC (.int 2))) (aB (aT false) (aB aW (aB aJ (aA 0) (mC (.int 1))) (mC (.int 2))) (mC (.int 1)))))) [some a] b):=by
 kernel_rfl
theorem RQ (k:Nat)(a:D)(b:Hm):f (k+1) "line_of" [a] b=fin ((aI (bD (aO (aB (aT false) (aB aW (aB aJ (aA 0) (mC (.int 0))) (mC (.int 2))) (mC (.int 1)))) (aQ (iG (aO (aB (aT false) (aB aW (aB aJ (aA 0) (mC (.int 0))) (mC (.int 4))) (aB aW (aB aJ (aA 0) (mC (.int 1))) (mC (.int 4))))) (mC (.str "falling")) (mC (.str "rising")))) bG) (aQ (iG (aO (aB (aT false) (aB aW (aB aJ (aA 0) (mC (.int 1))) (mC (.int 4))) (mC (.int 0)))) (mC (.str "level")) (mC (.str "upright"))))) [some a] b):=by
 kernel_rfl
theorem RS (k:Nat)(a:D)(b:Hm):f (k+1) "beside" [a] b=fin ((aI (aR 1 (aB aJ (aA 0) (mC (.int 0)))) (aI (aR 2 (aB aJ (aA 0) (mC (.int 1)))) (aQ (cL (aC (bI (aC (aB cP (aA 1) (mC (.int 1))) (aC (aA 2) aD))) (aC (bI (aC (aA 1) (aC (aB cP (aA 2) (mC (.int 1))) aD))) (aC (bI (aC (aA 1) (aC (aB bJ (aA 2) (mC (.int 1))) aD))) (aC (bI (aC (aB bJ (aA 1) (mC (.int 1))) (aC (aA 2) aD))) aD)))))))) [some a,none,none] b):=by
 kernel_rfl
theorem RT (k:Nat)(a:D)(b:Hm):f (k+1) "edges_of" [a] b=fin ((aQ (eQ (cF (aG (f k "beside") (aC (aA 0) aD))) (eJ (aG (f k "is_edge") (aC (aA 1) aD))) (aA 1))) [some a] b):=by
 kernel_rfl
theorem RU (k:Nat)(a b:D)(c:Hm):f (k+1) "moved_by" [a,b] c=fin ((aQ (eQ (cF (aA 1)) e8 (bI (aC (aB bJ (aB aJ (aA 0) (mC (.int 0))) (aB aJ (aA 2) (mC (.int 0)))) (aC (aB bJ (aB aJ (aA 0) (mC (.int 1))) (aB aJ (aA 2) (mC (.int 1)))) aD))))) [some a,some b] c):=by
 kernel_rfl
theorem RV (k:Nat)(a:D)(b:Hm):f (k+1) "edges_round" [a] b=fin ((aQ (aG (f k "moved_by") (aC (aA 0) (aC (iG (aO (aB (aT false) (aB aW (aB aJ (aA 0) (mC (.int 0))) (mC (.int 4))) (mC (.int 0)))) (mC Fm) (mC Fn)) aD)))) [some a] b):=by
 kernel_rfl
theorem RW (k:Nat)(a b:D)(c:Hm):f (k+1) "number_by" [a,b] c=fin ((aI (bD (aO (aB (aT false) (aA 0) (mC (.str "level")))) (aQ (aB aJ (aA 1) (mC (.int 1)))) bG) (aI (bD (aO (aB (aT false) (aA 0) (mC (.str "upright")))) (aQ (aB aJ (aA 1) (mC (.int 0)))) bG) (aI (bD (aO (aB (aT false) (aA 0) (mC (.str "falling")))) (aQ (aB cP (aB aJ (aA 1) (mC (.int 0))) (aB aJ (aA 1) (mC (.int 1))))) bG) (aQ (aB bJ (aB aJ (aA 1) (mC (.int 0))) (aB aJ (aA 1) (mC (.int 1)))))))) [some a,some b] c):=by
 kernel_rfl
theorem RX (k:Nat)(a b:D)(c:Hm):f (k+1) "mirrored" [a,b] c=fin ((aI (aR 2 (aB aJ (aA 0) (mC (.int 0)))) (aI (aR 3 (aB aJ (aA 0) (mC (.int 1)))) (aI (aR 4 (aG (f k "line_of") (aC (aA 1) aD))) (aI (aR 5 (aG (f k "number_by") (aC (aA 4) (aC (aA 1) aD)))) (aI (bD (aO (aB (aT false) (aA 4) (mC (.str "level")))) (aQ (bI (aC (aA 2) (aC (aB cP (aB bH (mC (.int 2)) (aA 5)) (aA 3)) aD)))) bG) (aI (bD (aO (aB (aT false) (aA 4) (mC (.str "upright")))) (aQ (bI (aC (aB cP (aB bH (mC (.int 2)) (aA 5)) (aA 2)) (aC (aA 3) aD)))) bG) (aI (bD (aO (aB (aT false) (aA 4) (mC (.str "falling")))) (aQ (bI (aC (aB bJ (aA 3) (aA 5)) (aC (aB cP (aA 2) (aA 5)) aD)))) bG) (aQ (bI (aC (aB cP (aA 5) (aA 3)) (aC (aB cP (aA 5) (aA 2)) aD))))))))))) [some a,some b,none,none,none,none] c):=by
 kernel_rfl
theorem RY (k:Nat)(a b c:D)(d:Hm):f (k+1) "is_within" [a,b,c] d=fin ((aQ (gW (jV iH iH (mC (.int 0)) (aB aJ (aA 2) (mC (.int 0))) (aB bH (mC (.int 4)) (aA 0))) (jV iH iH (mC (.int 0)) (aB aJ (aA 2) (mC (.int 1))) (aB bH (mC (.int 4)) (aA 1))))) [some a,some b,some c] d):=by
 kernel_rfl
theorem RZ (k:Nat)(a b:D)(c:Hm):f (k+1) "places_within" [a,b] c=fin ((aI (aR 2 (cL aD)) (aI (cQ (kK (aC (mC (.int 1)) (aC (aB bH (mC (.int 4)) (aA 0)) aD))) (dF 3) (dS (dG nN (aA 2) (aC (eQ (kK (aC (mC (.int 1)) (aC (aB bH (mC (.int 4)) (aA 1)) aD))) e8 (bI (aC (aA 3) (aC (aA 4) aD)))) aD)))) (aQ (aA 2)))) [some a,some b,none,none] c):=by
 kernel_rfl
theorem R0 (k:Nat)(a b:D)(c:Hm):f (k+1) "quarters_in" [a,b] c=fin ((aQ (eQ (cF (aG (f k "places_within") (aC (aA 0) (aC (aA 1) aD)))) (eJ (aG (f k "is_quarter") (aC (aA 2) aD))) (aA 2))) [some a,some b] c):=by
 kernel_rfl
theorem R6 (k:Nat)(a b:D)(c:Hm):f (k+1) "corners_in" [a,b] c=fin ((aQ (eQ (cF (aG (f k "places_within") (aC (aA 0) (aC (aA 1) aD)))) (eJ (aG (f k "is_corner") (aC (aA 2) aD))) (aA 2))) [some a,some b] c):=by
 kernel_rfl
theorem R8 (k:Nat)(a b c:D)(d:Hm):f (k+1) "neighbours_in" [a,b,c] d=fin ((aQ (eQ (cF (aG (f k "edges_of") (aC (aA 2) aD))) (eJ (aG (f k "is_within") (aC (aA 0) (aC (aA 1) (aC (aA 3) aD))))) (bI (aC (aA 3) (aC (aG (f k "mirrored") (aC (aA 2) (aC (aA 3) aD))) aD))))) [some a,some b,some c] d):=by
 kernel_rfl
theorem Fo (k:Nat)(a:D)(b:Hm):f (k+1) "marks_in" [a] b=fin ((aQ (aG mJ (aC (aB aJ (aA 0) (mC (.int 2))) aD))) [some a] b):=by
 kernel_rfl
theorem Sa (k:Nat)(a:D)(b:Hm):f (k+1) "is_good" [a] b=fin ((aI (bD (fZ (aO (aB lR (aG dZ (aC (aA 0) aD)) (mC (.int 8)))) (aO (aB (aT false) (aB aW (aG dZ (aC (aA 0) aD)) (mC (.int 2))) (mC (.int 1))))) (aQ (mC (.bl false))) bG) (aI (bD (gU (eJ (aG qA (aC (eQ (cF (aA 0)) e8 (gW (aG (f k "is_whole") (aC (aA 1) aD)) (aB pV (aA 1) (mC (.int 1))))) aD)))) (aQ (mC (.bl false))) bG) (aQ (aB (aT false) (aG mF (aC (nZ (aA 0) jL jL (iW (mC (.int 2)))) aD)) (aG mF (aC (nZ (aA 0) (iW (mC (.int 1))) jL (iW (mC (.int 2)))) aD)))))) [some a] b):=by
 kernel_rfl
theorem Sb (k:Nat)(a b:D)(c:Hm):f (k+1) "creases_at" [a,b] c=fin ((aI (aR 2 (aG (f k "marks_in") (aC (aA 0) aD))) (aQ (eQ (cF (aG (f k "edges_round") (aC (aA 1) aD))) (aO (aB (cT false) (aA 3) (aA 2))) (aA 3)))) [some a,some b,none] c):=by
 kernel_rfl
theorem Se (k:Nat)(a b:D)(c:Hm):f (k+1) "gaps_at" [a,b] c=fin ((aI (aR 2 (aG (f k "edges_round") (aC (aA 1) aD))) (aI (aR 3 (aG (f k "creases_at") (aC (aA 0) (aC (aA 1) aD)))) (aI (aR 4 (eQ (cF (aA 3)) e8 (dG n8 (aA 2) (aC (aA 7) aD)))) (aI (aR 5 (aB bJ (lQ (aA 4) (iW (mC (.int 1))) jL) (eQ (cF (lQ (aA 4) jL (iW (mC (.int 1))))) e8 (aB bJ (aA 7) (aG dZ (aC (aA 2) aD)))))) (aI (aR 6 (aB dX (mC (.int 8)) (aG dZ (aC (aA 2) aD)))) (aQ (iI (pX 2) (qM (aC (aA 4) (aC (aA 5) aD))) e8 (aB bH (aB cP (aA 8) (aA 7)) (aA 6))))))))) [some a,some b,none,none,none,none,none] c):=by
 kernel_rfl
theorem Sf (k:Nat)(a:D)(b:Hm):f (k+1) "barred" [a] b=fin ((aI (cQ (cF (aG (f k "corners_in") (aC (aB aJ (aA 0) (mC (.int 0))) (aC (aB aJ (aA 0) (mC (.int 1))) aD)))) (dF 1) (bD (gU (eJ (aG (f k "is_good") (aC (aG (f k "gaps_at") (aC (aA 0) (aC (aA 1) aD))) aD)))) (aQ (aA 1)) bG)) (aQ (mC .non))) [some a,none] b):=by
 kernel_rfl
theorem Sg (k:Nat)(a:D)(b:Hm):f (k+1) "check_corners" [a] b=fin ((aI (aR 1 (aG (f k "barred") (aC (aA 0) aD))) (bD (aO (aB (d7 true) (aA 1) (mC .non))) cJ bG)) [some a,none] b):=by
 kernel_rfl
theorem Fp (k:Nat)(a:D)(b:Hm):g (k+3) "check_corners" [a] b=qZ ((cY (aR 1 (aG (f (k+2) "barred") (aC (aA 0) aD))) bU (cY (bD (aO (aB (d7 true) (aA 1) (mC .non))) cJ bG) (nP (aO (aB (d7 true) (aA 1) (mC .non))) (cY cJ (nV "Barred" "corner" (aA 1)) bU) bU) bU)) [some a,none] b):=by
 kernel_rfl
theorem Sh (k:Nat)(a b c:D)(d:Hm):f (k+1) "laying_by" [a,b,c] d=fin ((aQ (bI (aC (aB cP (aB aJ (aA 1) (mC (.int 0))) (aB aJ (aA 0) (mC (.int 0)))) (aC (aB cP (aB aJ (aA 2) (mC (.int 0))) (aB aJ (aA 0) (mC (.int 0)))) (aC (aB cP (aB aJ (aA 1) (mC (.int 1))) (aB aJ (aA 0) (mC (.int 1)))) (aC (aB cP (aB aJ (aA 2) (mC (.int 1))) (aB aJ (aA 0) (mC (.int 1)))) (aC (aB aJ (aA 0) (mC (.int 0))) (aC (aB aJ (aA 0) (mC (.int 1))) aD)))))))) [some a,some b,some c] d):=by
 kernel_rfl
theorem Si (k:Nat)(a:D)(b:Hm):f (k+1) "mirror_in" [a] b=fin ((aQ (aG (f k "laying_by") (aC (aG (f k "mirrored") (aC (bI (aC (mC (.int 0)) (aC (mC (.int 0)) aD))) (aC (aA 0) aD))) (aC (aG (f k "mirrored") (aC (bI (aC (mC (.int 1)) (aC (mC (.int 0)) aD))) (aC (aA 0) aD))) (aC (aG (f k "mirrored") (aC (bI (aC (mC (.int 0)) (aC (mC (.int 1)) aD))) (aC (aA 0) aD))) aD))))) [some a] b):=by
 kernel_rfl
theorem Sj (k:Nat)(a b:D)(c:Hm):f (k+1) "led" [a,b] c=fin ((aI (aR 2 (aB aJ (aA 1) (mC (.int 0)))) (aI (aR 3 (aB aJ (aA 1) (mC (.int 1)))) (aQ (bI (aC (aB bJ (aB bJ (aB bH (aB aJ (aA 0) (mC (.int 0))) (aA 2)) (aB bH (aB aJ (aA 0) (mC (.int 1))) (aA 3))) (aB aJ (aA 0) (mC (.int 4)))) (aC (aB bJ (aB bJ (aB bH (aB aJ (aA 0) (mC (.int 2))) (aA 2)) (aB bH (aB aJ (aA 0) (mC (.int 3))) (aA 3))) (aB aJ (aA 0) (mC (.int 5)))) aD)))))) [some a,some b,none,none] c):=by
 kernel_rfl
theorem Sk (k:Nat)(a b:D)(c:Hm):f (k+1) "then" [a,b] c=fin ((aQ (aG (f k "laying_by") (aC (aG (f k "led") (aC (aA 1) (aC (aG (f k "led") (aC (aA 0) (aC (bI (aC (mC (.int 0)) (aC (mC (.int 0)) aD))) aD))) aD))) (aC (aG (f k "led") (aC (aA 1) (aC (aG (f k "led") (aC (aA 0) (aC (bI (aC (mC (.int 1)) (aC (mC (.int 0)) aD))) aD))) aD))) (aC (aG (f k "led") (aC (aA 1) (aC (aG (f k "led") (aC (aA 0) (aC (bI (aC (mC (.int 0)) (aC (mC (.int 1)) aD))) aD))) aD))) aD))))) [some a,some b] c):=by
 kernel_rfl
theorem Sm (k:Nat)(a:D)(b:Hm):f (k+1) "laid" [a] b=fin ((aI (dS (aG (f k "check_corners") (aC (aA 0) aD))) (aI (aR 1 (aG (f k "marks_in") (aC (aA 0) aD))) (aI (aR 2 (aB aJ (aG (f k "quarters_in") (aC (aB aJ (aA 0) (mC (.int 0))) (aC (aB aJ (aA 0) (mC (.int 1))) aD))) (mC (.int 0)))) (aI (aR 3 (mL (aA 2) (mC uT))) (aI (aR 4 (cL (aC (aA 2) aD))) (aI (nO oR (eJ (aA 4)) (aI (aR 5 (dG kN (aA 4) aD)) (cQ (cF (aG (f k "neighbours_in") (aC (aB aJ (aA 0) (mC (.int 0))) (aC (aB aJ (aA 0) (mC (.int 1))) (aC (aA 5) aD))))) (cX [6,7]) (bD (aO (aB (cT true) (aA 7) (aA 3))) (aI (iM (aA 3) (aA 7) (iG (aO (aB (cT false) (aA 6) (aA 1))) (aG (f k "then") (aC (aG (f k "mirror_in") (aC (aA 6) aD)) (aC (aB aJ (aA 3) (aA 5)) aD))) (aB aJ (aA 3) (aA 5)))) (dS (dG eI (aA 4) (aC (aA 7) aD)))) bG)))) (aQ (mK (aA 3))))))))) [some a,none,none,none,none,none,none,none] b):=by
 kernel_rfl
theorem Fq (k:Nat)(a:D)(b:Hm):g (k+3) "laid" [a] b=qZ ((cY (dS (aG (f (k+2) "check_corners") (aC (aA 0) aD))) (kQ (g (k+2) "check_corners") (aC (aA 0) aD)) (cY (aR 1 (aG (f (k+2) "marks_in") (aC (aA 0) aD))) bU (cY (aR 2 (aB aJ (aG (f (k+2) "quarters_in") (aC (aB aJ (aA 0) (mC (.int 0))) (aC (aB aJ (aA 0) (mC (.int 1))) aD))) (mC (.int 0)))) bU (cY (aR 3 (mL (aA 2) (mC uT))) bU (cY (aR 4 (cL (aC (aA 2) aD))) bU (cY (nO oR (eJ (aA 4)) (aI (aR 5 (dG kN (aA 4) aD)) (cQ (cF (aG (f (k+2) "neighbours_in") (aC (aB aJ (aA 0) (mC (.int 0))) (aC (aB aJ (aA 0) (mC (.int 1))) (aC (aA 5) aD))))) (cX [6,7]) (bD (aO (aB (cT true) (aA 7) (aA 3))) (aI (iM (aA 3) (aA 7) (iG (aO (aB (cT false) (aA 6) (aA 1))) (aG (f (k+2) "then") (aC (aG (f (k+2) "mirror_in") (aC (aA 6) aD)) (aC (aB aJ (aA 3) (aA 5)) aD))) (aB aJ (aA 3) (aA 5)))) (dS (dG eI (aA 4) (aC (aA 7) aD)))) bG)))) bU (cY (aQ (mK (aA 3))) bU bU))))))) [some a,none,none,none,none,none,none,none] b):=by
 kernel_rfl
theorem Sn (k:Nat)(a b:D)(c:Hm):f (k+1) "_law_cell" [a,b] c=fin ((aI (bD (aO (aB iH (aA 1) (aG dZ (aC (aA 0) aD)))) (aQ (aB aJ (aA 0) (aA 1))) bG) (aI (bD (aO (aB (aT false) (aA 0) (cL aD))) (aQ (aB aW (aB bH (aB bH (aA 1) (aA 1)) (mC (.int 48271))) (mC (.int 2147483647)))) bG) (aI (aR 2 (aB aW (aB bH (aB bJ (aB aW (aB aJ (aA 0) (aB aW (aA 1) (aG dZ (aC (aA 0) aD)))) (mC (.int 2147483629))) (aB bH (aB bH (aA 1) (aA 1)) (mC (.int 69623)))) (mC (.int 48271))) (mC (.int 2147483647)))) (aQ (aB aW (aB bH (aA 2) (aA 2)) (mC (.int 2147483629))))))) [some a,some b,none] c):=by
 kernel_rfl
theorem So (k:Nat)(a b:D)(c:Hm):f (k+1) "_law_inner" [a,b] c=fin ((aI (aR 2 (cL aD)) (aI (cQ (kK (aC (mC (.int 1)) (aC (aB bH (mC (.int 4)) (aA 0)) aD))) (dF 3) (cQ (kK (aC (mC (.int 1)) (aC (aB bH (mC (.int 4)) (aA 1)) aD))) (dF 4) (bD (fZ (fY (aO (aB (aT false) (aB aW (aA 3) (mC (.int 2))) (mC (.int 1)))) (aO (aB (aT false) (aB aW (aA 4) (mC (.int 2))) (mC (.int 1))))) (fY (aO (aB (aT false) (aB aW (aA 3) (mC (.int 2))) (mC (.int 0)))) (aO (aB (aT false) (aB bJ (aB aW (aA 3) (mC (.int 4))) (aB aW (aA 4) (mC (.int 4)))) (mC (.int 2)))))) (dS (dG eI (aA 2) (aC (bI (aC (aA 3) (aC (aA 4) aD))) aD))) bG))) (aQ (aA 2)))) [some a,some b,none,none,none] c):=by
 kernel_rfl
theorem Sq (k:Nat)(a:D)(b:Hm):f (k+1) "_law_line" [a] b=fin ((aI (fA (aA 0) (cX [1,2])) (aI (bD (aO (aB (aT false) (aB aW (aA 2) (mC (.int 4))) (mC (.int 0)))) (aQ (bI (aC (mC (.int 0)) (aC (aA 2) aD)))) bG) (aI (bD (aO (aB (aT false) (aB aW (aA 1) (mC (.int 4))) (mC (.int 0)))) (aQ (bI (aC (mC (.int 1)) (aC (aA 1) aD)))) bG) (aI (bD (aO (aB (aT false) (aB aW (aA 1) (mC (.int 4))) (aB aW (aA 2) (mC (.int 4))))) (aQ (bI (aC (mC (.int 2)) (aC (aB cP (aA 1) (aA 2)) aD)))) bG) (aQ (bI (aC (mC (.int 3)) (aC (aB bJ (aA 1) (aA 2)) aD)))))))) [some a,none,none] b):=by
 kernel_rfl
theorem Fs (k:Nat)(a:D)(b:Hm):f (k+1) "_law_beside" [a] b=fin ((aI (fA (aA 0) (cX [1,2])) (aI (bD (aO (aB (aT false) (aB aW (aA 2) (mC (.int 4))) (mC (.int 0)))) (aQ (cL (aC (bI (aC (aA 1) (aC (aB cP (aA 2) (mC (.int 1))) aD))) (aC (bI (aC (aA 1) (aC (aB bJ (aA 2) (mC (.int 1))) aD))) aD)))) bG) (aI (bD (aO (aB (aT false) (aB aW (aA 1) (mC (.int 4))) (mC (.int 0)))) (aQ (cL (aC (bI (aC (aB cP (aA 1) (mC (.int 1))) (aC (aA 2) aD))) (aC (bI (aC (aB bJ (aA 1) (mC (.int 1))) (aC (aA 2) aD))) aD)))) bG) (aQ (aG i8 (aC (cL (aC (bI (aC (aB cP (aB bJ (aA 1) (mC (.int 2))) (aB aW (aA 1) (mC (.int 4)))) (aC (aA 2) aD))) (aC (bI (aC (aA 1) (aC (aB cP (aB bJ (aA 2) (mC (.int 2))) (aB aW (aA 2) (mC (.int 4)))) aD))) aD))) aD)))))) [some a,none,none] b):=by
 kernel_rfl
theorem Ss (k:Nat)(a b:D)(c:Hm):f (k+1) "_law_quarters" [a,b] c=fin ((aI (aR 2 (cL aD)) (aI (cQ (lW (aC (aB bH (mC (.int 4)) (aA 0)) aD)) (dF 3) (cQ (lW (aC (aB bH (mC (.int 4)) (aA 1)) aD)) (dF 4) (bD (fZ (fY (aO (aB (aT false) (aB aW (aA 3) (mC (.int 4))) (mC (.int 2)))) (aO (aB (aT false) (aB aW (aA 4) (mC (.int 2))) (mC (.int 1))))) (fY (aO (aB (aT false) (aB aW (aA 3) (mC (.int 2))) (mC (.int 1)))) (aO (aB (aT false) (aB aW (aA 4) (mC (.int 4))) (mC (.int 2)))))) (dS (dG eI (aA 2) (aC (bI (aC (aA 3) (aC (aA 4) aD))) aD))) bG))) (aQ (aA 2)))) [some a,some b,none,none,none] c):=by
 kernel_rfl
theorem Ft (k:Nat)(a b:D)(c:Hm):f (k+1) "_law_led" [a,b] c=fin ((aI (fA (aA 0) (cX [2,3,4,5,6,7])) (aQ (bI (aC (aB bJ (aB bJ (aB bH (aA 2) (aB aJ (aA 1) (mC (.int 0)))) (aB bH (aA 3) (aB aJ (aA 1) (mC (.int 1))))) (aA 6)) (aC (aB bJ (aB bJ (aB bH (aA 4) (aB aJ (aA 1) (mC (.int 0)))) (aB bH (aA 5) (aB aJ (aA 1) (mC (.int 1))))) (aA 7)) aD))))) [some a,some b,none,none,none,none,none,none] c):=by
 kernel_rfl
theorem Fu (k:Nat)(a b:D)(c:Hm):f (k+1) "_law_over" [a,b] c=fin ((aI (fA (aA 0) (cX [2,3,4,5,6,7])) (aI (fA (aA 1) (cX [8,9])) (aI (bD (aO (aB (aT false) (aA 8) (mC (.int 0)))) (aQ (bI (aC (aA 2) (aC (aA 3) (aC (gA (aA 4)) (aC (gA (aA 5)) (aC (aA 6) (aC (aB cP (aB bH (mC (.int 2)) (aA 9)) (aA 7)) aD)))))))) bG) (aI (bD (aO (aB (aT false) (aA 8) (mC (.int 1)))) (aQ (bI (aC (gA (aA 2)) (aC (gA (aA 3)) (aC (aA 4) (aC (aA 5) (aC (aB cP (aB bH (mC (.int 2)) (aA 9)) (aA 6)) (aC (aA 7) aD)))))))) bG) (aI (bD (aO (aB (aT false) (aA 8) (mC (.int 2)))) (aQ (bI (aC (aA 4) (aC (aA 5) (aC (aA 2) (aC (aA 3) (aC (aB bJ (aA 7) (aA 9)) (aC (aB cP (aA 6) (aA 9)) aD)))))))) bG) (aQ (bI (aC (gA (aA 4)) (aC (gA (aA 5)) (aC (gA (aA 2)) (aC (gA (aA 3)) (aC (aB cP (aA 9) (aA 7)) (aC (aB cP (aA 9) (aA 6)) aD))))))))))))) [some a,some b,none,none,none,none,none,none,none,none] c):=by
 kernel_rfl
theorem Su (k:Nat)(a b:D)(c:Hm):f (k+1) "_law_value" [a,b] c=fin ((aQ (aB aJ (cL (aC (aB aJ (aA 0) (mC (.int 1))) (aC (aB aJ (aA 0) (mC (.int 0))) (aC (aB cP (aB aJ (aA 0) (mC (.int 0))) (aB aJ (aA 0) (mC (.int 1)))) (aC (aB bJ (aB aJ (aA 0) (mC (.int 0))) (aB aJ (aA 0) (mC (.int 1)))) aD))))) (aA 1))) [some a,some b] c):=by
 kernel_rfl
theorem Sv (k:Nat)(a b c:D)(d:Hm):f (k+1) "_law_grown" [a,b,c] d=fin ((aI (aR 3 qJ) (aI (cQ (cF (aG (f k "_law_quarters") (aC (aA 0) (aC (aA 1) aD)))) (dF 4) (iM (aA 3) (aA 4) (bI (aC (mC (.int 1)) (aC (mC (.int 0)) (aC (mC (.int 0)) (aC (mC (.int 1)) (aC (mC (.int 0)) (aC (mC (.int 0)) aD))))))))) (aI (cQ (cF (aA 2)) (dF 5) (aI (aR 6 (aB aW (aA 5) (mC (.int 4)))) (aI (aR 7 (aB aJ (aG jY (aC (aA 3) aD)) (aB aW (aB dX (aA 5) (mC (.int 16))) (aG dZ (aC (aA 3) aD))))) (aI (aR 8 (aB bJ (aB bH (aB dX (aG (f k "_law_value") (aC (aG (f k "_law_led") (aC (aB aJ (aA 3) (aA 7)) (aC (aA 7) aD))) (aC (aA 6) aD))) (mC (.int 4))) (mC (.int 4))) (aB bH (aB aW (aB dX (aA 5) (mC (.int 4))) (mC (.int 2))) (mC (.int 4))))) (cQ (cF (aG jY (aC (aA 3) aD))) (dF 4) (aI (aR 9 (aB lR (aG (f k "_law_value") (aC (aG (f k "_law_led") (aC (aB aJ (aA 3) (aA 4)) (aC (aA 4) aD))) (aC (aA 6) aD))) (aA 8))) (bD (aO (aB (aT false) (aA 9) (aB (aT false) (aB aW (aB dX (aA 5) (mC (.int 8))) (mC (.int 2))) (mC (.int 1))))) (iM (aA 3) (aA 4) (aG (f k "_law_over") (aC (aB aJ (aA 3) (aA 4)) (aC (bI (aC (aA 6) (aC (aA 8) aD))) aD)))) bG))))))) (aQ (aA 3))))) [some a,some b,some c,none,none,none,none,none,none,none] d):=by
 kernel_rfl
theorem Sw (k:Nat)(a b:D)(c:Hm):f (k+1) "_law_by_lines" [a,b] c=fin ((aI (aR 2 (cL aD)) (aI (cQ (cF (aA 0)) (dF 3) (aI (fA (aG (f k "_law_line") (aC (aA 3) aD)) (cX [4,5])) (bD (aO (aB (aT false) (aB aW (aB dX (aA 1) (aB bJ (aB bJ (aB bH (mC (.int 5)) (aA 4)) (aB aW (aB dX (aA 5) (mC (.int 4))) (mC (.int 5)))) (mC (.int 2)))) (aB aJ (cL (aC (mC (.int 3)) (aC (mC (.int 3)) (aC (mC (.int 4)) (aC (mC (.int 4)) aD))))) (aA 4))) (mC (.int 0)))) (dS (dG eI (aA 2) (aC (aA 3) aD))) bG))) (aQ (aA 2)))) [some a,some b,none,none,none,none] c):=by
 kernel_rfl
theorem Sx (k:Nat)(a b c d:D)(e:Hm):f (k+1) "_law_creased" [a,b,c,d] e=fin ((aI (aR 4 (aG (f k "_law_inner") (aC (aA 1) (aC (aA 2) aD)))) (aI (aR 5 (aB aJ (aA 3) (aB aW (aG (f k "_law_cell") (aC (aA 0) (aC (mC (.int 1)) aD))) (aG dZ (aC (aA 3) aD))))) (aI (aR 6 (aG (f k "_law_cell") (aC (aA 0) (aC (mC (.int 2)) aD)))) (aI (bD (aO (aB (aT false) (aA 5) (mC (.int 3)))) (aQ (aG (f k "_law_by_lines") (aC (aA 4) (aC (aA 6) aD)))) bG) (aI (bD (aO (aB (aT false) (aA 5) (mC (.int 4)))) (aI (aR 7 (cL aD)) (aI (cQ (mG (aC (aA 4) aD)) (cX [8,9]) (aI (aR 10 (aB bJ (aB bH (aA 6) (aB bJ (aB bH (mC (.int 2)) (aA 8)) (mC (.int 1)))) (aB bH (aG (f k "_law_cell") (aC (aA 0) (aC (aB bJ (mC (.int 3)) (aB aW (aA 8) (mC (.int 5)))) aD))) (aB bJ (aB bH (aA 8) (aA 8)) (mC (.int 5)))))) (bD (aO (aB iH (aB aW (aB aW (aA 10) (mC (.int 10007))) (mC (.int 7))) (aB aW (aB dX (aG (f k "_law_cell") (aC (aA 0) (aC (mC (.int 1)) aD))) (mC (.int 5))) (mC (.int 8))))) (dS (dG eI (aA 7) (aC (aA 9) aD))) bG))) (aQ (aA 7)))) bG) (aI (aR 11 (aG (f k "_law_grown") (aC (aA 1) (aC (aA 2) (aC (eQ (lW (aC (aB aW (aA 6) (mC (.int 6))) aD)) e8 (aG (f k "_law_cell") (aC (aA 0) (aC (aB bJ (mC (.int 3)) (aA 15)) aD)))) aD))))) (aI (aR 12 (cL aD)) (aI (cQ (cF (aA 4)) (dF 9) (aI (fA (aG (f k "_law_beside") (aC (aA 9) aD)) (cX [13,14])) (bD (aO (aB (aT true) (aB aJ (aA 11) (aA 13)) (aB aJ (aA 11) (aA 14)))) (dS (dG eI (aA 12) (aC (aA 9) aD))) bG))) (aI (bD (fY (aO (aB (aT false) (aA 5) (mC (.int 1)))) (aO (aB (aT true) (aA 4) (cL aD)))) (aI (aR 9 (aB aJ (aA 4) (aB aW (aB dX (aA 6) (mC (.int 6))) (aG dZ (aC (aA 4) aD))))) (aR 12 (aG i8 (aC (aB bJ (eQ (cF (aA 12)) (aO (aB (aT true) (aA 15) (aA 9))) (aA 15)) (aB bH (cL (aC (aA 9) aD)) (aG nF (aC (aB (cT true) (aA 9) (aA 12)) aD)))) aD)))) bG) (aQ (aA 12))))))))))) [some a,some b,some c,some d,none,none,none,none,none,none,none,none,none,none,none] e):=by
 kernel_rfl
theorem Sy (k:Nat)(a b c:D)(d:Hm):f (k+1) "_law_sheet" [a,b,c] d=fin ((aI (aR 3 (aB bJ (mC (.int 1)) (aB aW (aG (f k "_law_cell") (aC (aA 0) (aC (mC (.int 0)) aD))) (aA 1)))) (aI (aR 4 (aB bJ (mC (.int 1)) (aB aW (aB dX (aG (f k "_law_cell") (aC (aA 0) (aC (mC (.int 0)) aD))) (aA 1)) (aA 1)))) (aI (aR 5 (cL aD)) (aI (cQ (mG (aC (aG (f k "_law_creased") (aC (aA 0) (aC (aA 3) (aC (aA 4) (aC (aA 2) aD))))) aD)) (cX [6,7]) (aI (aR 8 (aB bJ (aB bH (aG (f k "_law_cell") (aC (aA 0) (aC (aB bJ (mC (.int 9)) (aB aW (aA 6) (mC (.int 9)))) aD))) (aB bJ (aB bH (mC (.int 2)) (aA 6)) (mC (.int 3)))) (aB bH (aA 6) (aA 6)))) (dS (dG eI (aA 5) (aC (bI (aC (aA 7) (aC (aB aJ (mC (.str "hvo")) (aB aW (aB aW (aA 8) (mC (.int 10007))) (mC (.int 3)))) aD))) aD))))) (aQ (bI (aC (aA 3) (aC (aA 4) (aC (aG oM (aC (aA 5) aD)) aD))))))))) [some a,some b,some c,none,none,none,none,none,none] d):=by
 kernel_rfl
theorem Fv (k:Nat)(a:D)(b:Hm):f (k+1) "_law_asked" [a] b=fin ((aI (aR 1 (mC .non)) (aI (aR 2 (mC .non)) (aI (kR (aR 1 (aG (f k "laid") (aC (aA 0) aD))) (cY (aR 1 (aG (f k "laid") (aC (aA 0) aD))) (kQ (g k "laid") (aC (aA 0) aD)) bU) (sup "Barred") 3 (aR 2 (jU "corner" (att "corner") (aA 3)))) (aQ (bI (aC (aA 1) (aC (aA 2) aD))))))) [some a,none,none,none] b):=by
 kernel_rfl
theorem Sz (k:Nat)(a:D)(b:Hm):f (k+1) "_law_is_laying" [a] b=fin ((aI (bD (fZ (gU (eJ (aG eY (aC (aA 0) (aC (mC (.ty "tuple")) aD))))) (aO (aB (aT true) (aG dZ (aC (aA 0) aD)) (mC (.int 6))))) (aQ (mC (.bl false))) bG) (aQ (kH (aG sR (aC (eQ (cF (aA 0)) e8 (m8 (aG eY (aC (aA 1) (aC (mC (.ty "bool")) aD))) (kH (aG eY (aC (aA 1) (aC (mC (.ty "int")) aD)))))) aD))))) [some a] b):=by
 kernel_rfl
theorem SA (k:Nat)(a b c:D)(d:Hm):f (k+1) "_law_agree" [a,b,c] d=fin ((aI (aR 3 (iI (pX 2) (cF (cL (aC (bI (aC (mC (.int 0)) (aC (mC (.int 0)) aD))) (aC (bI (aC (mC (.int 1)) (aC (mC (.int 2)) aD))) (aC (bI (aC (mC (.int 3)) (aC (gA (mC (.int 1))) aD))) aD))))) e8 (bI (aC (aB bJ (aB aJ (aA 2) (mC (.int 0))) (aA 6)) (aC (aB bJ (aB aJ (aA 2) (mC (.int 1))) (aA 7)) aD))))) (aI (cQ (cF (aA 3)) (dF 4) (aI (aR 5 (aG (f k "_law_led") (aC (aG (f k "_law_over") (aC (bI (aC (mC (.int 1)) (aC (mC (.int 0)) (aC (mC (.int 0)) (aC (mC (.int 1)) (aC (mC (.int 0)) (aC (mC (.int 0)) aD))))))) (aC (aG (f k "_law_line") (aC (aA 2) aD)) aD))) (aC (aA 4) aD)))) (bD (aO (aB (aT true) (aG (f k "_law_led") (aC (aA 0) (aC (aA 4) aD))) (aG (f k "_law_led") (aC (aA 1) (aC (aA 5) aD))))) (aQ (mC (.bl false))) bG))) (aQ (mC (.bl true))))) [some a,some b,some c,none,none,none] d):=by
 kernel_rfl
theorem SD (k:Nat)(a b:D)(c:Hm):f (k+1) "_law_right" [a,b] c=fin ((aI (aR 2 (aG (f k "_law_quarters") (aC (aB aJ (aA 1) (mC (.int 0))) (aC (aB aJ (aA 1) (mC (.int 1))) aD)))) (aI (bD (fZ (gU (eJ (aG eY (aC (aA 0) (aC (mC (.ty "dict")) aD))))) (fZ (aO (aB (aT true) (aG oN (aC (aA 0) aD)) (aA 2))) (aO (aB (aT true) (aB aJ (aA 0) (aB aJ (aA 2) (mC (.int 0)))) (bI (aC (mC (.int 1)) (aC (mC (.int 0)) (aC (mC (.int 0)) (aC (mC (.int 1)) (aC (mC (.int 0)) (aC (mC (.int 0)) aD))))))))))) (aQ (mC (.bl false))) bG) (aI (bD (gU (eJ (aG qA (aC (eQ (cF (aA 2)) e8 (aG (f k "_law_is_laying") (aC (aB aJ (aA 0) (aA 7)) aD))) aD)))) (aQ (mC (.bl false))) bG) (aI (aR 4 (iI (pX 2) (cF (aB aJ (aA 1) (mC (.int 2)))) e8 (aA 7))) (aI (cQ (cF (aG (f k "_law_inner") (aC (aB aJ (aA 1) (mC (.int 0))) (aC (aB aJ (aA 1) (mC (.int 1))) aD)))) (dF 3) (aI (fA (aG (f k "_law_beside") (aC (aA 3) aD)) (cX [5,6])) (aI (bD (fY (aO (aB (cT false) (aA 3) (aA 4))) (gU (eJ (aG (f k "_law_agree") (aC (aB aJ (aA 0) (aA 5)) (aC (aB aJ (aA 0) (aA 6)) (aC (aA 3) aD))))))) (aQ (mC (.bl false))) bG) (bD (fY (aO (aB (cT true) (aA 3) (aA 4))) (aO (aB (aT true) (aB aJ (aA 0) (aA 5)) (aB aJ (aA 0) (aA 6))))) (aQ (mC (.bl false))) bG)))) (aQ (mC (.bl true)))))))) [some a,some b,none,none,none,none,none] c):=by
 kernel_rfl
theorem SE (k:Nat)(a:D)(b:Hm):f (k+1) "law" [a] b=fin ((aI (aR 1 (aG (f k "_law_sheet") (aC (aA 0) (aC (mC (.int 3)) (aC (cL (aC (mC (.int 0)) (aC (mC (.int 1)) (aC (mC (.int 0)) (aC (mC (.int 3)) (aC (mC (.int 0)) aD)))))) aD))))) (aI (aR 2 (aG (f k "barred") (aC (aA 1) aD))) (aI (fA (aG (f k "_law_asked") (aC (aA 1) aD)) (cX [3,4])) (aI (bD (aO (aB (d7 true) (aA 2) (mC .non))) (aQ (gW (aB (d7 false) (aA 3) (mC .non)) (aB (aT false) (aA 4) (aA 2)))) bG) (aI (bD (fZ (aO (aB (d7 false) (aA 3) (mC .non))) (gU (eJ (aG (f k "_law_right") (aC (aA 3) (aC (aA 1) aD)))))) (aQ (mC (.bl false))) bG) (aI (aR 5 (aG oO (aC (aA 3) aD))) (aI (dS (oH oJ (aA 3) aD)) (aQ (aB (hU false) (aG (f k "laid") (aC (aA 1) aD)) (aA 5)))))))))) [some a,none,none,none,none,none] b):=by
 kernel_rfl
end Lw
namespace Lw
open PySem L2 L3
theorem Fw {z:Int}{a:Hm}{Q:D×Hm->Prop}:W (bH (.int 2) (.int z) a) Q↔Q (.int (2 * z),a):=dU (.inl ⟨by decide,by decide⟩)
theorem mS {z:Int}{a:Hm}{Q:D×Hm->Prop}:W (bH (.int 4) (.int z) a) Q↔Q (.int (4 * z),a):=dU (.inl ⟨by decide,by decide⟩)
theorem pB {z:Int}{a:Hm}{Q:D×Hm->Prop}:W (aW (.int z) (.int 2) a) Q↔Q (.int (z % 2),a):=dC (by decide)
theorem jD {z:Int}{a:Hm}{Q:D×Hm->Prop}:W (aW (.int z) (.int 4) a) Q↔Q (.int (z % 4),a):=dC (by decide)
theorem SG {z:Int}{a:Hm}{Q:D×Hm->Prop}:W (aW (.int z) (.int 6) a) Q↔Q (.int (z % 6),a):=dC (by decide)
theorem SJ:(2:Nat)<=VA:=by decide
theorem fS {a b:D}:([a,b]:List D).length<=VA:=SJ
theorem Fx {z:Int}{a:Hm}{Q:D×Hm->Prop}:W (aW (.int z) (.int 5) a) Q↔Q (.int (z % 5),a):=dC (by decide)
theorem SK {z:Int}{a:Hm}{Q:D×Hm->Prop}:W (aW (.int z) (.int 9) a) Q↔Q (.int (z % 9),a):=dC (by decide)
noncomputable def kB:D->Int
 | .int i=>i
 | _=>0
theorem Fy {lo:Int}{n:Nat}{d:D}(h:d∈gJ lo n):∃ j:Nat,j<n/\d=.int (lo+(j:Int)):=by
 unfold gJ at h
 obtain ⟨j,a,rfl⟩:=VY.mp h
 exact ⟨j,WT.mp a,rfl⟩
theorem iQ {t:MT}{A B C:MS}{c:aH}{d a:Hm}{b:Bool}{Q:D×Hm->Prop}(h:t c d=some (b,a))(h1:b=true->W (fin (aI A C c a)) Q)(i:b=false->W (fin (aI B C c a)) Q):W (fin (aI (bD t A B) C c d)) Q:=by
 cases b
 ·have e:aI (bD t A B) C c d=aI B C c a:=by unfold aI bD;rw [h];rfl
  rw [e];exact i rfl
 ·have e:aI (bD t A B) C c d=aI A C c a:=by unfold aI bD;rw [h];rfl
  rw [e];exact h1 rfl
theorem jE {a C:MS}{e c:aH}{d b:Hm}{Q:D×Hm->Prop}(h:a e d=some (.nx,c,b))(k:W (fin (C c b)) Q):W (fin (aI a C e d)) Q:=by
 unfold aI
 rw [h]
 exact k
theorem Fz {i:Nat}{m:ME}{b:aH}{c a:Hm}{d:D}(h:m b c=some (d,a)):aR i m b c=some (.nx,b.set i (some d),a):=by
 unfold aR
 rw [h]
 rfl
theorem Aj {a:Type}{o:Option a}{r:a}{Q:a->Prop}(h:W o fun x=>x=r):W o Q↔Q r:=by
 obtain ⟨_,h,rfl⟩:=h
 rw [h]
 exact W_some
theorem FA {a:Type}{o:Option a}{r:a}(h:∀ Q:a->Prop,W o Q↔Q r):o=some r:=by
 obtain ⟨_,e,b⟩:=(h fun x=>x=r).mpr rfl
 rw [e,b]
theorem FC {g:MF}{b:MA}{d:aH}{c a:Hm}{ds:List D}{Q:D×Hm->Prop}(h:b d c=some (ds,a))(k:W (g ds a) Q):W (aG g b d c) Q:=by
 unfold aG
 rw [h]
 exact k
noncomputable def q9 (x y:Int):Str:=if x % 2=1 then (if x % 4=y % 4 then "falling" else "rising") else if y % 4=0 then "level" else "upright"
theorem SM (k:Nat)(x y:Int)(a:Hm)(Q:D×Hm->Prop):W (f (k+1) "line_of" [P x y] a) Q↔Q (.str (q9 x y),a):=by
 rw [RQ,W_fin]
 simp only [bK,w_mRet,cK,dB,zW,aU,aS,aE,cM,gH,hZ,eV,dC (show (0:Int)<2 by decide),dC (show (0:Int)<4 by decide)]
 unfold q9
 split<;>split<;>simp_all
noncomputable def Ak (x y:Int)(a b:Int):Int:=if x % 2=1 then (if x % 4=y % 4 then a - b else a+b) else if y % 4=0 then b else a
theorem SN (k:Nat)(x y a b:Int)(c:Hm)(Q:D×Hm->Prop):W (f (k+1) "number_by" [.str (q9 x y),P a b] c) Q↔Q (.int (Ak x y a b),c):=by
 refine Aj ?_
 rw [RW]
 unfold q9 Ak
 split<;>split<;>exact ⟨_,rfl,rfl⟩
noncomputable def cE (p e:Int×Int):Int×Int:=
 if e.1 % 2=1 then (if e.1 % 4=e.2 % 4 then (p.2+(e.1 - e.2),p.1 - (e.1 - e.2)) else (e.1+e.2 - p.2,e.1+e.2 - p.1)) else if e.2 % 4=0 then (p.1,2 * e.2 - p.2) else (2 * e.1 - p.1,p.2)
theorem FD (k:Nat)(x y a b:Int)(c:Hm)(Q:D×Hm->Prop):W (f (k+2) "mirrored" [P x y,P a b] c) Q↔Q (PP (cE (x,y) (a,b)),c):=by
 refine Aj ?_
 rw [RX]
 refine jE rfl (jE rfl (jE (Fz (FA (SM k a b c))) (jE (Fz (FA (SN k a b a b c))) ?_)))
 unfold q9 Ak cE
 split<;>split<;>exact ⟨_,rfl,rfl⟩
theorem FE (p:Int×Int)(a b:Int):cE (cE p (a,b)) (a,b)=p:=by
 obtain ⟨x,y⟩:=p
 unfold cE
 dsimp only
 split<;>split<;>(refine WS ?_ ?_<;>dsimp only<;>omega)
noncomputable def cV:D->Int×Int
 | .tup [.int x,.int y]=>(x,y)
 | _=>(0,0)
theorem pC (p:Int×Int->Bool)(l:List (Int×Int)):((l.map PP).filter fun d=>p (cV d)).map (fun d=>d)=(l.filter p).map PP:=by
 rw [a4R]
 induction l with
 | nil=>rfl
 | cons a l b=>
  have e:(a4n PP (a::l)).filter (fun d=>p (cV d))=if p a then PP a::(l.map PP).filter (fun d=>p (cV d)) else (l.map PP).filter fun d=>p (cV d):=by
   rw [VE,Z1];rfl
  rw [e,b,Z1]
  split<;>rfl
theorem k9 {d:D}{l:List (Int×Int)}(h:d∈l.map PP):∃ x y,d=P x y:=by
 obtain ⟨p,_,rfl⟩:=VY.mp h
 exact ⟨p.1,p.2,rfl⟩
theorem rA {n:Nat}{i:Int}(a:0<=i)(h:i<n):lN n i=some i.toNat:=by
 unfold lN;rw [if_pos a,if_pos h]
theorem Al {a:List Int}{i:Int}(b:0<=i)(h:i<a.length):atI (a.map D.int) i=some (.int (a.getD i.toNat 0)):=by
 unfold atI
 rw [Vm,rA b h,VJ,V0]
 have c:i.toNat<a.length:=by omega
 simp [Wo,c]
theorem FF {xs:List D}{i:Int}{d:D}{a:Hm}{Q:D×Hm->Prop}(h:atI xs i=some d):W (aJ (.rol xs) (.int i) a) Q↔Q (d,a):=by
 have:aJ (.rol xs) (.int i) a=some (d,a):=by
  simp only [aJ,fK,bF,VJ,h,VT]
 rw [this]
 exact W_some
noncomputable def mT:List Int->Int
 | []=>0
 | g::r=>g - mT r
noncomputable def iB (a:List Int):Bool:=decide (a.length<=8)&&decide (a.length % 2=0)&&a.all (fun g=>decide (1<=g))&&mT a == 0
theorem SO (k:Nat)(i:Int)(a:Hm)(Q:D×Hm->Prop):W (f (k+1) "is_whole" [.int i] a) Q↔Q (.bl true,a):=by
 rw [RM,W_fin]
 simp only [w_mRet,mQ,zX,aX,aM,aL,aE,aS,EZ,E4]
 simp
theorem SQ:∀ i:List Int,i.length<=8->i.length % 2=0->∃ es j:List Int,d9 (i.map D.int) none none (some 2)=es.map D.int/\d9 (i.map D.int) (some 1) none (some 2)=j.map D.int/\es.sum - j.sum=mT i/\es.length<=8/\j.length<=8
 | [],_,_=>⟨[],[],rfl,rfl,rfl,by decide,by decide⟩
 | [_],_,h=>by simp at h
 | [a,b],_,_=>⟨[a],[b],by kernel_rfl,by kernel_rfl,by simp [mT]<;>omega,by simp,by simp⟩
 | [_,_,_],_,h=>by simp at h
 | [a,b,c,d],_,_=>⟨[a,c],[b,d],by kernel_rfl,by kernel_rfl,by simp [mT]<;>omega,by simp,by simp⟩
 | [_,_,_,_,_],_,h=>by simp at h
 | [a,b,c,d,e,g],_,_=>⟨[a,c,e],[b,d,g],by kernel_rfl,by kernel_rfl,by simp [mT]<;>omega,by simp,by simp⟩
 | [_,_,_,_,_,_,_],_,h=>by simp at h
 | [a,b,c,d,e,g,x,y],_,_=>⟨[a,c,e,x],[b,d,g,y],by kernel_rfl,by kernel_rfl,by simp [mT]<;>omega,by simp,by simp⟩
 | _::_::_::_::_::_::_::_::_::_,h,_=>absurd h (by simp)
theorem Am {d:D}{a:List Int}(h:d∈a.map D.int):∃ g∈a,d=.int g:=by
 obtain ⟨g,b,rfl⟩:=VY.mp h
 exact ⟨g,b,rfl⟩
theorem mU {a:Type}(l:List a):l.filter (fun _=>true)=l:=by simp
theorem SR (k:Nat)(a:Nat)(b:List Int)(hz:b.length<=1000)(o:Hm)(Q:D×Hm->Prop)(i:o[a]? = some (.lst (b.map D.int)))(H:∀ c,o <+: c->Q (.bl (iB b),c)):W (f (k+2) "is_good" [.loc a] o) Q:=by
 rw [Sa,W_fin]
 simp only [bK,dB,q0,cM,aU,aX,aM,aL,aE,aS]
 refine (pA i).mpr ?_
 simp only [ES,Vm]
 by_cases r:(8:Int)<b.length
 ·have e:iB b=false:=by
   unfold iB;rw [decide_eq_false (show ¬ b.length<=8 by omega)];rfl
  simp only [r,decide_true,if_true,w_mRet,aS]
  rw [<- e]
  exact H _ (VF _)
 ·simp only [r,decide_false,Vy,if_false]
  refine (pA i).mpr ?_
  simp only [pB,eV,Vm]
  by_cases v:(b.length:Int) % 2=1
  ·have e:iB b=false:=by
    unfold iB;rw [decide_eq_false (show ¬ b.length % 2=0 by omega)];simp
   simp only [v,beq_self_eq_true,if_true,w_mRet,aS]
   rw [<- e]
   exact H _ (VF _)
  ·have w:((b.length:Int) % 2 == 1)=false:=by simpa using v
   simp only [w,Vy,if_false,cK,oX,iO,aX,aM,aL]
   refine fR (xs:=b.map D.int) (p:=fun _=>true) (v:=fun d=>.bl (decide (1<=kB d))) ?_
   simp only [w_iSeq,aE]
   refine (d8 i).mpr ?_
   refine ⟨iP i,rfl,by rw [Vm,VS];omega,fun d c hd y=>w_mTrue.mpr ⟨rfl,VF _⟩,fun d c hd _ y=>?_,fun q h p=>?_⟩
   ·obtain ⟨g,_,rfl⟩:=Am hd
    simp only [VZ,V2,mQ,aX,aM,aL,aE,aF,SO,if_true,aU,aS,Ri]
    exact ⟨rfl,VF _⟩
   ·have m:q[o.length]? = some (.lst ((b.map fun g=>decide (1<=g)).map D.bl)):=by
     rw [p,mU,VN,VN]
     rfl
    refine (Fe m).mpr ?_
    have l:(b.map fun g=>decide (1<=g)).all id=b.all fun g=>decide (1<=g):=by
     rw [a2u];rfl
    rw [l]
    simp only [jC]
    cases s:b.all fun g=>decide (1<=g) with
    | false=>
     have e:iB b=false:=by
      unfold iB;rw [s];simp
     simp only [XB,if_true,w_mRet,aS]
     rw [<- e]
     exact H _ h
    | true=>
     simp only [W6,Vy,if_false,cK,w_mRet,aU,aX,aM,aL]
     obtain ⟨x,z,u,n,A,B,E⟩:=SQ b (by omega) (by omega)
     have j:=aV h i
     refine Ff ?_
     simp only [aE]
     refine ⟨a,rfl,?_⟩
     simp only [uQ,uR,aS]
     refine ⟨by decide,_,j,?_,?_⟩
     ·rw [u,Vm,VS];omega
     rw [u]
     refine (Fd (bL _ _)).mpr ?_
     refine Ff ?_
     simp only [aE]
     refine ⟨a,rfl,?_⟩
     simp only [uQ,uR,aS]
     refine ⟨by decide,_,aV (bA _ _) j,?_,?_⟩
     ·rw [n,Vm,VS];omega
     rw [n]
     refine (Fd (bL _ _)).mpr ?_
     refine (eV).mpr ?_
     have e:iB b=(x.sum == z.sum):=by
      unfold iB
      rw [s,decide_eq_true (show b.length<=8 by omega),decide_eq_true (show b.length % 2=0 by omega)]
      simp only [a4C]
      rw [Zo,beq_iff_eq,beq_iff_eq]
      omega
     rw [<- e]
     exact H _ (h.trans ((bA _ _).trans (bA _ _)))
noncomputable def mV (h:Int)(x:Int):List (Int×Int):=(Wc (4 * h - 1).toNat).map fun (j:Nat)=>(x,1+(j:Int))
noncomputable def lA (h:Int)(n:Nat):List (Int×Int):=(Wc n).flatMap fun (i:Nat)=>mV h (1+(i:Int))
noncomputable def cR (w h:Int):List (Int×Int):=lA h (4 * w - 1).toNat
theorem FG (h:Int)(n:Nat):lA h (n+1)=lA h n++mV h (1+(n:Int)):=by
 unfold lA;rw [a1u,a2X];simp
theorem FH (h x:Int):(mV h x).length=(4 * h - 1).toNat:=by unfold mV;simp
theorem An (h:Int):∀ n:Nat,(lA h n).length=n * (4 * h - 1).toNat
 | 0=>by simp [lA]
 | n+1=>by rw [FG,VR,An h n,FH,a0Z]
theorem FI {h:Int}(b:h<=6){n:Nat}(a:n<=23):n * (4 * h - 1).toNat<=529:=by
 have:n * (4 * h - 1).toNat<=23 * 23:=a1Z a (by omega)
 omega
theorem SS (h x:Int):((gJ 1 (4 * h - 1).toNat).filter fun _=>true).map (fun d=>P x (kB d))=(mV h x).map PP:=by
 unfold gJ mV
 rw [show ∀ l:List D,l.filter (fun _=>true)=l from fun l=>by simp,VN,VN]
 rfl
theorem FJ (k:Nat)(w h:Int)(hw:1<=w/\w<=6)(u:1<=h/\h<=6)(e:Hm)(Q:D×Hm->Prop)(H:∀ a b,e <+: b->b[a]? = some (.lst ((cR w h).map PP))->e.length<=a->Q (.loc a,b)):W (f (k+1) "places_within" [.int w,.int h] e) Q:=by
 rw [RZ,W_fin]
 simp only [bK,bZ,eK,aL]
 refine ⟨Wn _,?_⟩
 simp only [Vs,Vt,fF,uP,aM,aL,aS,aU,aE,aF,mS]
 refine ⟨by omega,?_⟩
 refine z7 (lo:=1) (fun i r b=>e <+: b/\b[e.length]? = some (.lst ((lA h i).map PP))/\∃ o,r=[some (.int w),some (.int h),some (.loc e.length),o]) ⟨bA _ _,bL _ _,none,rfl⟩ ?_ ?_
 ·rintro i r q x ⟨p,l,o,rfl⟩
  refine ⟨_,rfl,?_⟩
  simp only [Vs,Vt,j0]
  refine j5 ?_
  simp only [aE,aF]
  refine ⟨j6 l,?_⟩
  simp only [aM,aL]
  refine fR (xs:=gJ 1 (4 * h - 1).toNat) (p:=fun _=>true) (v:=fun d=>P (1+(i:Int)) (kB d)) ?_
  simp only [uP,aM,aL,aS,aU,aE,aF,mS]
  refine ⟨by omega,EU,by simp [gJ],by rw [VS];simp [gJ];omega,?_,?_,?_⟩
  ·intro d b hd p
   exact w_mTrue.mpr ⟨rfl,VF _⟩
  ·intro d b hd _ p
   obtain ⟨j,y,rfl⟩:=Fy hd
   simp only [VZ,V2,dP,aM,aL,aE,aF,fS,true_and]
   exact ⟨rfl,VF _⟩
  ·intro v c m
   rw [SS] at m
   have n:((lA h i).map PP).length+((mV h (1+(i:Int))).map PP).length<=VA:=by
    have s:=FI (h:=h) u.2 (n:=i+1) (by omega)
    rw [a0Z] at s
    rw [Vm,Vm,An,FH,VS]
    omega
   refine (Rt (aV c l) m n).mpr ?_
   refine ⟨hX (p.trans c) (Vv _) _,?_,_,rfl⟩
   rw [Wg (Vx.mp (aV c l)).1,FG,Wq]
 ·rintro r q ⟨p,l,o,rfl⟩
  simp only [w_mRet,aE,aF]
  exact H _ _ p l (Vv _)
theorem FK {w h:Int}(hw:w<=6)(a:h<=6):(cR w h).length<=529:=by
 unfold cR
 rw [An]
 exact FI a (by omega)
noncomputable def mv (x y:Int)(l:List (Int×Int)):List (Int×Int):=l.map fun s=>(x+s.1,y+s.2)
theorem FL (k:Nat)(x y:Int)(l:List (Int×Int))(j:l.length<=63)(e:Hm)(Q:D×Hm->Prop)(h:∀ a b,e <+: b->b[a]? = some (.lst ((mv x y l).map PP))->e.length<=a->Q (.loc a,b)):W (f (k+1) "moved_by" [P x y,.tup (l.map PP)] e) Q:=by
 rw [RU,W_fin]
 simp only [w_mRet]
 refine fR (xs:=l.map PP) (p:=fun _=>true) (v:=fun d=>PP (x+(cV d).1,y+(cV d).2)) ?_
 simp only [w_iSeq,aE,aF]
 refine w_seqT.mpr ?_
 refine ⟨Aa,rfl,by rw [Vm,VS];omega,fun d b hd c=>W_some.mpr ⟨rfl,VF _⟩,fun d b hd _ c=>?_,fun b c i=>?_⟩
 ·obtain ⟨u,v,rfl⟩:=k9 hd
  simp only [VZ,V2,dP,aU,aS,aM,aL,aE,aF,gH,hZ,cU,fS,true_and]
  exact ⟨rfl,VF _⟩
 ·refine h _ _ c ?_ (Vv _)
  rw [i,List.filter_eq_self.mpr (fun _ _=>rfl),VN]
  unfold mv
  rw [VN]
  rfl
noncomputable def E8:List (Int×Int):=[(2,0),(1,1),(0,2),(-1,1),(-2,0),(-1,-1),(0,-2),(1,-1)]
noncomputable def F4:List (Int×Int):=[(1,1),(-1,1),(-1,-1),(1,-1)]
noncomputable def cN (x:Int):List (Int×Int):=if x % 4=0 then E8 else F4
theorem FN (k:Nat)(x y:Int)(c:Hm)(Q:D×Hm->Prop)(h:∀ a b,c <+: b->b[a]? = some (.lst ((mv x y (cN x)).map PP))->c.length<=a->Q (.loc a,b)):W (f (k+2) "edges_round" [P x y] c) Q:=by
 rw [RV,W_fin]
 simp only [w_mRet,aX,aM,aL,aE,zW,cM,aU,aS,gH,jD,eV]
 unfold cN at h
 by_cases e:x % 4=0
 ·rw [if_pos e] at h
  rw [e]
  exact FL k x y E8 (by decide) c _ h
 ·rw [if_neg e] at h
  rw [if_neg (by simpa using e)]
  exact FL k x y F4 (by decide) c _ h
theorem FP (a:Hm)(q:Int×Int):∀ ps:List (Int×Int),jR a (PP q) (ps.map PP)=some (ps.any fun p=>p == q)
 | []=>rfl
 | p::ps=>by
  rw [VE]
  show (cD 8 a (PP p) (PP q)).bind (fun b=>(jR a (PP q) (ps.map PP)).map fun c=>b||c)=_
  rw [Ab 6,FP a q ps]
  rfl
theorem SU {a:Hm}{b:Nat}{ns:List Int}{Q:D×Hm->Prop}(e:a[b]? = some (.lst [])):W (aT false (.rol (ns.map D.int)) (.loc b) a) Q↔Q (.bl (ns == []),a):=by
 have c:eX a (.rol (ns.map D.int))=some (.lst (ns.map D.int)):=rfl
 have d:eX a (.loc b)=some (.lst (([]:List Int).map D.int)):=by simp only [eX,e];rfl
 have:cD 8 a (.rol (ns.map D.int)) (.loc b)=some (ns == []):=by
  show (eX a (.rol (ns.map D.int))).bind (fun x=>(eX a (.loc b)).bind fun y=>iX (cD 7 a) x y)=_
  rw [c,d]
  exact EX 6 a ns []
 unfold aT
 rw [this]
 exact W_some
noncomputable def dQ (ns:List Int)(i:Int):Int:=if i<ns.length then ns.getD i.toNat 0 else if ns=[] then i * i * 48271 % 2147483647 else
 ((ns.getD (i % ns.length).toNat 0 % 2147483629+i * i * 69623) * 48271 % 2147483647) * ((ns.getD (i % ns.length).toNat 0 % 2147483629+i * i * 69623) * 48271 % 2147483647) % 2147483629
theorem FQ {i:Int}(a:0<=i/\i<=100):0<=i * i/\i * i<=10000:=by
 refine ⟨Int.mul_nonneg a.1 a.1,?_⟩
 have:=Int.mul_le_mul a.2 a.2 a.1 (by decide)
 omega
theorem lB (k:Nat)(ns:List Int)(i:Int)(c:0<=i/\i<=100)(j:Hm)(Q:D×Hm->Prop)(H:∀ b,j <+: b->Q (.int (dQ ns i),b)):W (f (k+1) "_law_cell" [.rol (ns.map D.int),.int i] j) Q:=by
 rw [Sn,W_fin]
 have n:=FQ c
 simp only [bK,dB,cM,aU,aX,aM,aL,aE,aF,aS,E6,zY,Vm]
 by_cases h:i<ns.length
 ·simp only [h,decide_true,if_true,w_mRet,aU,aE,aF]
  rw [FF (Al c.1 h)]
  have e:dQ ns i=ns.getD i.toNat 0:=by unfold dQ;rw [if_pos h]
  rw [<- e]
  exact H _ (VF _)
 ·simp only [h,decide_false,Vy,if_false,cK,bK,dB,cM,aU,aE,eK,aL]
  refine ⟨Wn _,?_⟩
  refine (SU (bL _ _)).mpr ?_
  by_cases a:ns=[]
  ·have e:(ns == [])=true:=by rw [a];rfl
   simp only [e,if_true,w_mRet,aU,aE,aF,aS]
   refine (dU (.inl (by omega))).mpr ((dU (.inr (by omega))).mpr ((dC (by decide)).mpr ?_))
   have e:dQ ns i=i * i * 48271 % 2147483647:=by unfold dQ;rw [if_neg h,if_pos a]
   rw [<- e]
   exact H _ (bA _ _)
  ·have e:(ns == [])=false:=by
    cases ns with
    | nil=>exact absurd rfl a
    | cons=>rfl
   have m:0<ns.length:=YF.mpr a
   simp only [e,Vy,if_false,cK,bK,bZ,w_mRet,aU,aE,aF,aS,aX,aM,aL,E6,Vm]
   refine (dC (by omega)).mpr ?_
   have d:0<=i % (ns.length:Int)/\i % (ns.length:Int)<ns.length:=⟨WK _ (by omega),Wx _ (by omega)⟩
   rw [FF (Al d.1 d.2)]
   have e:dQ ns i=((ns.getD (i % ns.length).toNat 0 % 2147483629+i * i * 69623) * 48271 % 2147483647) * ((ns.getD (i % ns.length).toNat 0 % 2147483629+i * i * 69623) * 48271 % 2147483647) % 2147483629:=by
    unfold dQ;rw [if_neg h,if_neg a]
   refine (dC (by decide)).mpr ((dU (.inl (by omega))).mpr ((dU (.inr (by omega))).mpr ?_))
   simp only [cU]
   refine (dU (.inr (by omega))).mpr ((dC (by decide)).mpr ?_)
   simp only [Vs,Vt,aE,aF]
   generalize hy:(ns.getD (i % ns.length).toNat 0 % 2147483629+i * i * 69623) * 48271 % 2147483647=y at e
   have l:0<=y/\y<2147483647:=by
    rw [<- hy];exact ⟨WK _ (by decide),Wx _ (by decide)⟩
   refine (dU (.inl (by omega))).mpr ((dC (by decide)).mpr ?_)
   rw [<- e]
   exact H _ (bA _ _)
noncomputable def gM (lo:Int)(n m:Nat):List (Int×Int):=(Wc n).flatMap fun (i:Nat)=>(Wc m).map fun (j:Nat)=>(lo+(i:Int),lo+(j:Int))
noncomputable def iR (lo x:Int)(m:Nat):List (Int×Int):=(Wc m).map fun (j:Nat)=>(x,lo+(j:Int))
theorem FR (lo:Int)(n m:Nat):gM lo (n+1) m=gM lo n m++iR lo (lo+(n:Int)) m:=by
 unfold gM iR;rw [a1u,a2X];simp
theorem FT (lo x:Int)(m:Nat):iR lo x (m+1)=iR lo x m++[(x,lo+(m:Int))]:=by
 unfold iR;rw [a1u,Wq];rfl
theorem FU (lo x:Int)(m:Nat):(iR lo x m).length=m:=by unfold iR;simp
theorem FV (lo:Int)(m:Nat):∀ n:Nat,(gM lo n m).length=n * m
 | 0=>by simp [gM]
 | n+1=>by rw [FR,VR,FV lo m n,FU,a0Z]
theorem FW {d:Hm}{a:Nat}{c b:C}:(d.set a c).set a b=d.set a b:=List.set_set ..
theorem iC {d:Hm}{a:Nat}{c b:C}(h:d[a]? = some c):(d.set a b)[a]? = some b:=by
 rw [Wg (Vx.mp h).1]
theorem Ao (a:Hm)(c b:C):(a++[c]).set a.length b=a++[b]:=by
 rw [a0f _ _ (Vv _)];simp
theorem FX {b:Hm}{a:Nat}{c:C}(h:b[a]? = some c):b.set a c=b:=by
 obtain ⟨d,rfl⟩:=Vx.mp h
 exact List.set_getElem_self d
noncomputable abbrev FY:MS:=dS (dG eI (aA 2) (aC (bI (aC (aA 3) (aC (aA 4) aD))) aD))
theorem SV (T:MT)(c:Int->Int->Bool)(e h:D)(a:Nat)(x:Int)(u:∀ y b Q,W (T [some e,some h,some (.loc a),some (.int x),some (.int y)] b) Q↔Q (c x y,b))(lo:Int)(m:Nat)(ps:List (Int×Int))(v:ps.length+m<=1000)(b:Hm)(j:b[a]? = some (.lst (ps.map PP)))(o:Option D)(Q:Fl×aH×Hm->Prop)
  (d:∀ o,Q (.nx,[some e,some h,some (.loc a),some (.int x),o],b.set a (.lst ((ps++(iR lo x m).filter fun p=>c p.1 p.2).map PP)))):W (eZ (f7 lo m) (dF 4) (bD T FY bG) (m+1) 0 [some e,some h,some (.loc a),some (.int x),o] b) Q:=by
 refine z7 (fun i q l=>i<=m/\l=b.set a (.lst ((ps++(iR lo x i).filter fun p=>c p.1 p.2).map PP))/\∃ o,q=[some e,some h,some (.loc a),some (.int x),o]) ⟨Wn _,?_,o,rfl⟩ ?_ ?_
 ·simp only [iR,a4c,Z6,a4e,Zm]
  exact (FX j).symm
 ·rintro i q n s ⟨_,rfl,o,rfl⟩
  refine ⟨_,rfl,?_⟩
  simp only [Vs,Vt,dB]
  rw [u]
  cases r:c x (lo+(i:Int)) with
  | false=>
   simp only [Vy,if_false,cK]
   refine ⟨s,?_,_,rfl⟩
   rw [FT,XA]
   simp [r]
  | true=>
   simp only [if_true,j0]
   refine j5 ?_
   simp only [aE,aF]
   refine ⟨j6 (iC j),?_⟩
   simp only [aM,aL,dP,aE,aF,fS,true_and]
   refine (oZ (iC j) ?_).mpr ?_
   ·have:=WJ (fun p=>c p.1 p.2) (iR lo x i)
    rw [FU] at this
    rw [Vm,VR,VS]
    omega
   refine ⟨s,?_,_,rfl⟩
   rw [FW,FT,XA]
   simp [r,PP,P]
 ·rintro q n ⟨_,rfl,o,rfl⟩
  exact d o
theorem FZ (T:MT)(h:Int->Int->Bool)(d e:D)(a:Nat)(v:MI)(lo:Int)(m:Nat)(hit:∀ o1 c b Q,W (v [some d,some e,some (.loc a),o1,c] b) Q↔Q (f7 lo m,m+1,b))(z:∀ x y b Q,W (T [some d,some e,some (.loc a),some (.int x),some (.int y)] b) Q↔Q (h x y,b))(n:Nat)(B:n * m+m<=900)(b:Hm)(s:b[a]? = some (.lst []))(Q:Fl×aH×Hm->Prop)
  (j:∀ o1 c,Q (.nx,[some d,some e,some (.loc a),o1,c],b.set a (.lst (((gM lo n m).filter fun p=>h p.1 p.2).map PP)))):W (eZ (f7 lo n) (dF 3) (cQ v (dF 4) (bD T FY bG)) (n+1) 0 [some d,some e,some (.loc a),none,none] b) Q:=by
 refine z7 (fun i r l=>i<=n/\l=b.set a (.lst (((gM lo i m).filter fun p=>h p.1 p.2).map PP))/\∃ o1 c,r=[some d,some e,some (.loc a),o1,c]) ⟨Wn _,?_,none,none,rfl⟩ ?_ ?_
 ·simp only [gM,a4c,List.flatMap_nil,a4e,Z6]
  exact (FX s).symm
 ·rintro i r q u ⟨_,rfl,o1,c,rfl⟩
  refine ⟨_,rfl,?_⟩
  simp only [Vs,Vt,fF]
  rw [hit]
  refine SV T h d e a _ (z _) lo m _ ?_ _ (iC s) _ _ fun o=>?_
  ·have w:=WJ (fun p=>h p.1 p.2) (gM lo i m)
   rw [FV] at w
   have A:i * m<=n * m:=Nat.mul_le_mul_right _ (Y1 u)
   omega
  ·refine ⟨u,?_,_,_,rfl⟩
   rw [FW,FR,XA]
 ·rintro r q ⟨_,rfl,o1,c,rfl⟩
  exact j o1 c
noncomputable def fT (x y:Int):Bool:=(x % 2 == 1&&y % 2 == 1)||(x % 2 == 0&&x % 4+y % 4 == 2)
noncomputable def Ap (x y:Int):Bool:=(x % 4 == 2&&y % 2 == 1)||(x % 2 == 1&&y % 4 == 2)
noncomputable def eA (w h:Int):List (Int×Int):=(gM 1 (4 * w - 1).toNat (4 * h - 1).toNat).filter fun p=>fT p.1 p.2
noncomputable def bE (w h:Int):List (Int×Int):=(gM 0 (4 * w).toNat (4 * h).toNat).filter fun p=>Ap p.1 p.2
theorem F0 {w h:Int}(hw:1<=w/\w<=3)(e:1<=h/\h<=3):(4 * w).toNat * (4 * h).toNat+(4 * h).toNat<=900/\(4 * w - 1).toNat * (4 * h - 1).toNat+(4 * h - 1).toNat<=900:=by
 have a:(4 * w).toNat<=12:=by omega
 have b:(4 * h).toNat<=12:=by omega
 have c:=a1Z a b
 have d:(4 * w - 1).toNat * (4 * h - 1).toNat<=12 * 12:=a1Z (by omega) (by omega)
 omega
theorem F1 (k:Nat)(w h:Int)(hw:1<=w/\w<=3)(b:1<=h/\h<=3)(a:Hm)(Q:D×Hm->Prop)(H:Q (.loc a.length,a++[.lst ((eA w h).map PP)])):W (f (k+1) "_law_inner" [.int w,.int h] a) Q:=by
 rw [So,W_fin]
 simp only [bK,bZ,eK,aL]
 refine ⟨Wn _,?_⟩
 simp only [Vs,Vt,fF,uP,aM,aL,aS,aU,aE,aF,mS]
 refine ⟨by omega,?_⟩
 refine FZ _ fT _ _ _ _ 1 (4 * h - 1).toNat (fun o1 c a Q=>?_) (fun x y a Q=>?_) (4 * w - 1).toNat (F0 hw b).2 _ (bL _ _) _ fun o1 c=>?_
 ·simp only [uP,aM,aL,aS,aU,aE,aF,mS]
  exact and_iff_right (by omega)
 ·simp only [q0,uN,cM,aU,aE,aF,aS,pB,jD,eV,cU]
  unfold fT
  cases x % 2 == 1<;>cases y % 2 == 1<;>cases x % 2 == 0<;>cases x % 4+y % 4 == 2<;>simp
 ·simp only [w_mRet,aE,aF]
  rw [Ao]
  exact H
theorem F2 (k:Nat)(w h:Int)(hw:1<=w/\w<=3)(b:1<=h/\h<=3)(a:Hm)(Q:D×Hm->Prop)(H:Q (.loc a.length,a++[.lst ((bE w h).map PP)])):W (f (k+1) "_law_quarters" [.int w,.int h] a) Q:=by
 rw [Ss,W_fin]
 simp only [bK,bZ,eK,aL]
 refine ⟨Wn _,?_⟩
 simp only [Vs,Vt,fF]
 rw [zZ (j:=0)]
 simp only [aM,aL,aS,aU,aE,aF,mS]
 refine ⟨by omega,?_⟩
 refine FZ _ Ap _ _ _ _ 0 (4 * h).toNat (fun o1 c a Q=>?_) (fun x y a Q=>?_) (4 * w).toNat (F0 hw b).1 _ (bL _ _) _ fun o1 c=>?_
 ·rw [zZ (j:=0)]
  simp only [aM,aL,aS,aU,aE,aF,mS]
  exact and_iff_right (by omega)
 ·simp only [q0,uN,cM,aU,aE,aF,aS,pB,jD,eV,cU]
  unfold Ap
  cases x % 4 == 2<;>cases y % 2 == 1<;>cases x % 2 == 1<;>cases y % 4 == 2<;>simp
 ·simp only [w_mRet,aE,aF]
  rw [Ao]
  exact H
theorem uU:(6:Nat)<=VA:=by decide
theorem F3 {o:aH}{h i j l m n:Nat}{a b c d e g:D}{p:Hm}{Q:aH->Prop}:W (cX [h,i,j,l,m,n] (.tup [a,b,c,d,e,g]) o p) Q↔Q ((((((o.set h (some a)).set i (some b)).set j (some c)).set l (some d)).set m (some e)).set n (some g)):=W_some
noncomputable def d4 (x y:Int):Int×Int:=if y % 4=0 then (0,y) else if x % 4=0 then (1,x) else if x % 4=y % 4 then (2,x - y) else (3,x+y)
theorem F5 (k:Nat)(x y:Int)(c:Hm)(Q:D×Hm->Prop):W (f (k+1) "_law_line" [P x y] c) Q↔Q (PP (d4 x y),c):=by
 refine Aj ?_
 rw [Sq]
 unfold d4
 refine jE rfl (iQ rfl (fun h=>?_) fun h=>iQ rfl (fun a=>?_) fun a=>iQ rfl (fun b=>?_) fun b=>?_)
 ·rw [if_pos (by simpa using h)];exact ⟨_,rfl,rfl⟩
 ·rw [if_neg (by simpa using h),if_pos (by simpa using a)];exact ⟨_,rfl,rfl⟩
 ·rw [if_neg (by simpa using h),if_neg (by simpa using a),if_pos (by simpa using b)];exact ⟨_,rfl,rfl⟩
 ·rw [if_neg (by simpa using h),if_neg (by simpa using a),if_neg (by simpa using b)];exact ⟨_,rfl,rfl⟩
noncomputable def j7 (d:D):Prop:=∃ a b c d' e g:Int,d=.tup [.int a,.int b,.int c,.int d',.int e,.int g]
theorem SW (k:Nat)(d:D)(hd:j7 d)(x y:Int)(j:0<=x/\x<=100)(l:0<=y/\y<=100)(h:Hm)(Q:D×Hm->Prop)(H:∀ u v,Q (P u v,h)):W (f (k+1) "_law_led" [d,P x y] h) Q:=by
 obtain ⟨a,b,c,i,e,g,rfl⟩:=hd
 rw [Ft,W_fin]
 simp only [bK,k8,aE,F3,Vs,Vt,w_mRet,dP,aM,aL,aU,aF,aS,gH,hZ]
 refine (dU (.inr (by omega))).mpr ((dU (.inr (by omega))).mpr ?_)
 simp only [cU]
 refine (dU (.inr (by omega))).mpr ((dU (.inr (by omega))).mpr ?_)
 simp only [cU,fS,true_and]
 exact H _ _
theorem SX (k:Nat)(d:D)(hd:j7 d)(u n:Int)(h:Hm)(Q:D×Hm->Prop)(H:∀ d',j7 d'->Q (d',h)):W (f (k+1) "_law_over" [d,P u n] h) Q:=by
 obtain ⟨a,b,c,d',e,g,rfl⟩:=hd
 rw [Fu]
 refine jE rfl (jE rfl (iQ rfl (fun _=>⟨_,rfl,?_⟩) fun _=>iQ rfl (fun _=>⟨_,rfl,?_⟩) fun _=>iQ rfl (fun _=>⟨_,rfl,?_⟩) fun _=>⟨_,rfl,?_⟩))<;>exact H _ ⟨_,_,_,_,_,_,rfl⟩
theorem SY {a b c d:Int}{i:Int}(h:0<=i/\i<4):∃ v:Int,atI [D.int a,.int b,.int c,.int d] i=some (.int v):=by
 have:i=0\/i=1\/i=2\/i=3:=by omega
 rcases this with rfl|rfl|rfl|rfl
 ·exact ⟨a,rfl⟩
 ·exact ⟨b,rfl⟩
 ·exact ⟨c,rfl⟩
 ·exact ⟨d,rfl⟩
theorem S0 (k:Nat)(x y u:Int)(b:0<=u/\u<4)(a:Hm)(Q:D×Hm->Prop)(H:∀ (v:Int) μ',a <+: μ'->Q (.int v,μ')):W (f (k+1) "_law_value" [P x y,.int u] a) Q:=by
 rw [Su,W_fin]
 simp only [w_mRet,aU,eK,aM,aL,aE,aF,aS,gH,hZ,oY,cU]
 refine ⟨by show (4:Nat)<=VA;decide,?_⟩
 obtain ⟨v,c⟩:=SY (a:=y) (b:=x) (c:=x - y) (d:=x+y) b
 refine (mR (bL _ _) c).mpr ?_
 exact H _ _ (bA _ _)
noncomputable def lC (p l:Int×Int):Int×Int:=if l.1=0 then (p.1,2 * l.2 - p.2) else if l.1=1 then (2 * l.2 - p.1,p.2) else if l.1=2 then (p.2+l.2,p.1 - l.2) else (l.2 - p.2,l.2 - p.1)
noncomputable def bP (p:Int×Int):List Int:=[p.1,p.2]
theorem F6:∀ ps:List (Int×Int),qC (ps.map PP)=some (ps.map bP)
 | []=>rfl
 | p::ps=>by
  rw [VE]
  show (eH (PP p)).bind (fun k=>(qC (ps.map PP)).map (k::·))=_
  rw [F6 ps]
  rfl
theorem S1 {ps:List (Int×Int)}(h:ps≠[]):kL (ps.map PP)=none:=by
 cases ps with
 | nil=>exact absurd rfl h
 | cons p ps=>rfl
theorem uV {a:Type}(l:List a)(d:a):(Wc l.length).map (fun i=>l.getD i d)=l:=by
 refine a3T (by simp) fun i c b=>?_
 simp [Wo,b]
theorem Aq {b:Hm}{a:Nat}{ps:List (Int×Int)}{Q:D×Hm->Prop}(h:b[a]? = some (.lst (ps.map PP)))(r:ps.length<64)(H:∀ qs:List (Int×Int),qs.Perm ps->Q (.loc b.length,b++[.lst (qs.map PP)])):W (i8 [.loc a] b) Q:=by
 by_cases c:ps=[]
 ·subst c
  have e:fP []=[]:=by simp [fP]
  refine (RC (is:=[]) h (by decide)).mpr ?_
  rw [e]
  exact H [] (.refl _)
 have o:0<ps.length:=YF.mpr c
 have l:mH [.loc a] b=none:=by
  simp only [mH,d6,h,VJ]
  rw [S1 c];rfl
 have j:=jT (nW (ps.map bP)) o
 have m:(cB (nW (ps.map bP)) ps.length).map (fun i=>(ps.map PP).getD i .non)=((cB (nW (ps.map bP)) ps.length).map fun i=>ps.getD i (0,0)).map PP:=by
  rw [VN]
  refine YE fun i d=>?_
  have d:i<ps.length:=WT.mp (j.mem_iff.mp d)
  simp [Wo,d]
 have n:qD [.loc a] b=some (.loc b.length,b++[.lst (((cB (nW (ps.map bP)) ps.length).map fun i=>ps.getD i (0,0)).map PP)]):=by
  simp only [qD,d6,h,VJ,F6]
  rw [if_pos ⟨by rw [Vm];omega,by rw [Vm];omega,fun t q=>by obtain ⟨p,_,rfl⟩:=VY.mp q;simp [bP]⟩,Vm,m]
 simp only [i8,l,n]
 refine W_some.mpr (H _ ?_)
 have:=j.map fun i=>ps.getD i (0,0)
 rw [uV] at this
 exact this
noncomputable def d5 (x y:Int):List (Int×Int):=if y % 4=0 then [(x,y - 1),(x,y+1)] else if x % 4=0 then [(x - 1,y),(x+1,y)] else [(x+2 - x % 4,y),(x,y+2 - y % 4)]
theorem S2 (k:Nat)(x y:Int)(j:Hm)(Q:D×Hm->Prop)(H:∀ b d e a,j <+: a->a[b]? = some (.lst [PP d,PP e])->d∈d5 x y->e∈d5 x y->Q (.loc b,a)):W (f (k+1) "_law_beside" [P x y] j) Q:=by
 rw [Fs]
 unfold d5 at H
 refine jE rfl (iQ rfl (fun h=>⟨_,rfl,?_⟩) fun h=>iQ rfl (fun i=>⟨_,rfl,?_⟩) fun i=>W_fin.mpr (w_mRet.mpr ?_))
 ·rw [if_pos (by simpa using h)] at H
  exact H _ (x,y - 1) (x,y+1) _ (bA _ _) (bL _ _) (by simp) (by simp)
 ·rw [if_neg (by simpa using h),if_pos (by simpa using i)] at H
  exact H _ (x - 1,y) (x+1,y) _ (bA _ _) (bL _ _) (by simp) (by simp)
 ·rw [if_neg (by simpa using h),if_neg (by simpa using i)] at H
  refine FC rfl (Aq (ps:=[(x+2 - x % 4,y),(x,y+2 - y % 4)]) (bL _ _) (by simp) fun l c=>?_)
  match l,c,c.length_eq with
  | [d,e],c,_=>
   exact H _ d e _ ((bA _ _).trans (bA _ _)) (bL _ _) (c.mem_iff.mp (by simp)) (c.mem_iff.mp (by simp))
theorem S3 {i:Int}(h:0<=i/\i<4):∃ v:Int,atI [D.int 3,.int 3,.int 4,.int 4] i=some (.int v)/\0<v:=by
 have:i=0\/i=1\/i=2\/i=3:=by omega
 rcases this with rfl|rfl|rfl|rfl
 ·exact ⟨3,rfl,by decide⟩
 ·exact ⟨3,rfl,by decide⟩
 ·exact ⟨4,rfl,by decide⟩
 ·exact ⟨4,rfl,by decide⟩
theorem S4 (x y:Int):0<=(d4 x y).1/\(d4 x y).1<4:=by
 unfold d4
 split
 ·exact ⟨by simp,by simp⟩
 ·split
  ·exact ⟨by simp,by simp⟩
  ·split<;>exact ⟨by simp,by simp⟩
theorem pD {es:List (Int×Int)}{i:Nat}{d:D}(h:(es.map PP)[i]? = some d):∃ p,es[i]? = some p/\d=PP p:=by
 rw [V0] at h
 obtain ⟨p,a,b⟩:=Vn.mp h
 exact ⟨p,a,b.symm⟩
theorem S5 (k:Nat)(a:Nat)(es:List (Int×Int))(N:es.length<=1000)(n:Int)(o:Hm)(I:o[a]? = some (.lst (es.map PP)))(Q:D×Hm->Prop)(H:∀ b (fs:List (Int×Int)) c,o <+: c->c[b]? = some (.lst (fs.map PP))->fs.length<=es.length->Q (.loc b,c)):W (f (k+2) "_law_by_lines" [.loc a,.int n] o) Q:=by
 rw [Sw,W_fin]
 simp only [bK,bZ,eK,aL]
 refine ⟨Wn _,?_⟩
 simp only [Vs,Vt,fF,w_iSeq,aE]
 refine (d8 (aV (bA _ _) I)).mpr ?_
 refine j4 (fun i r c=>o <+: c/\∃ fs B E G,c[o.length]? = some (.lst ((fs:List (Int×Int)).map PP))/\fs.length<=i/\i<=es.length/\r=[some (.loc a),some (.int n),some (.loc o.length),B,E,G]) ⟨bA _ _,[],none,none,none,bL _ _,Vv _,Wn _,rfl⟩ (fun i r c h=>aV h.1 I) ?_ ?_
 ·rintro i d r j hd ⟨z,fs,B,E,G,s,q,_,rfl⟩
  obtain ⟨⟨x,y⟩,L,rfl⟩:=pD hd
  have J:i<es.length:=(Vx.mp L).1
  refine ⟨_,rfl,?_⟩
  simp only [Vs,Vt,bK,k8,aX,aM,aL,aE,aF]
  refine (F5 k x y _ _).mpr ?_
  have w:=S4 x y
  generalize d4 x y=l at w
  obtain ⟨u,m⟩:=l
  dsimp only at w
  simp only [PP,P,uO,Vs,Vt,dB,cM,aU,aE,aF,aS]
  refine (dU (.inl (by decide))).mpr ((jB (by decide) (by decide)).mpr ?_)
  simp only [Fx,cU]
  have M:0<=m / 4 % 5/\m / 4 % 5<5:=⟨WK _ (by decide),Wx _ (by decide)⟩
  refine (jB (by omega) (by omega)).mpr ?_
  simp only [eK,aM,aL,aS]
  refine ⟨by decide,?_⟩
  obtain ⟨v,K,A⟩:=S3 w
  refine (mR (bL _ _) K).mpr ((dC A).mpr ?_)
  simp only [eV]
  have p:=z.trans (bA j (C.lst [D.int 3,D.int 3,D.int 4,D.int 4]))
  have e:=aV (bA j (C.lst [D.int 3,D.int 3,D.int 4,D.int 4])) s
  split
  ·simp only [j0]
   refine j5 ?_
   simp only [aE,aF]
   refine ⟨j6 e,?_⟩
   simp only [aM,aL,aE,aF]
   refine (oZ e (by rw [Vm,VS];omega)).mpr ?_
   refine ⟨hX p (Vv _) _,fs++[(x,y)],_,_,_,?_,by rw [VR];exact Zd q,J,rfl⟩
   rw [iC e,Wq]
   rfl
  ·simp only [cK]
   exact ⟨p,fs,_,_,_,e,a1a q,J,rfl⟩
 ·rintro r j ⟨z,fs,B,E,G,s,q,_,rfl⟩
  simp only [w_mRet,aE,aF]
  exact H _ _ _ z s (by simpa using q)
theorem pE (kvs:List (List Int×D))(k:List Int):(bN kvs k).isSome=kvs.any fun p=>decide (p.1=k):=by
 unfold bN
 rw [ZE,Zo,List.find?_isSome,List.any_eq_true]
theorem F7 {kvs:List (List Int×D)}{k:List Int}{d:D}(h:bN kvs k=some d):(k,d)∈kvs:=by
 unfold bN at h
 obtain ⟨p,a,rfl⟩:=Vn.mp h
 have b:=a4d a
 have c:=ZI a
 simp only [decide_eq_true_eq] at b
 rw [<- b]
 exact c
theorem Ar (kvs:List (List Int×D))(k k':List Int)(d:D):(bN (dA kvs k d) k').isSome=(decide (k=k')||(bN kvs k').isSome):=by
 unfold dA
 split
 ·rename_i h
  have e:(kvs.map fun p=>if p.1=k then (p.1,d) else p).any (fun p=>decide (p.1=k'))=kvs.any fun p=>decide (p.1=k'):=by
   rw [a0S]
   congr 1
   funext p
   simp only [Function.comp]
   split<;>rfl
  rw [pE,e,pE kvs k']
  by_cases z:k=k'
  ·subst z
   rw [pE] at h
   rw [h];simp
  ·simp [z]
 ·rw [pE,List.any_append,pE]
  simp only [XQ,List.any_nil,a2g]
  exact Bool.or_comm _ _
theorem S6 {kvs:List (List Int×D)}{k:List Int}{d:D}(h:(bN kvs k).isSome=true):(dA kvs k d).length=kvs.length:=by
 unfold dA;rw [if_pos h,Vm]
noncomputable def OkD (qs:List (Int×Int))(kvs:List (List Int×D)):Prop:=∀ p∈kvs,(∃ q∈qs,p.1=bP q)/\j7 p.2
theorem OkD.put {qs:List (Int×Int)}{kvs:List (List Int×D)}(h:OkD qs kvs){q:Int×Int}(c:q∈qs){d:D}(hd:j7 d):OkD qs (dA kvs (bP q) d):=by
 intro p a
 unfold dA at a
 split at a
 ·obtain ⟨e,i,b⟩:=VY.mp a
  by_cases z:e.1=bP q
  ·rw [if_pos z] at b
   rw [<- b]
   exact ⟨⟨q,c,z⟩,hd⟩
  ·rw [if_neg z] at b
   rw [<- b]
   exact h e i
 ·rcases WU.mp a with a|a
  ·exact h p a
  ·rw [WR.mp a]
   exact ⟨⟨q,c,rfl⟩,hd⟩
theorem OkD.val {qs:List (Int×Int)}{kvs:List (List Int×D)}(h:OkD qs kvs){k:List Int}(a:(bN kvs k).isSome=true):∃ d,bN kvs k=some d/\j7 d:=by
 obtain ⟨d,hd⟩:=W5.mp a
 exact ⟨d,hd,(h _ (F7 hd)).2⟩
theorem S7 {lo:Int}{n m:Nat}{p:Int×Int}(h:p∈gM lo n m):(lo<=p.1/\p.1<lo+n)/\(lo<=p.2/\p.2<lo+m):=by
 unfold gM at h
 obtain ⟨i,a,h⟩:=List.mem_flatMap.mp h
 obtain ⟨j,b,rfl⟩:=VY.mp h
 have:=WT.mp a
 have:=WT.mp b
 dsimp only
 omega
theorem S8 {w h:Int}(hw:1<=w/\w<=3)(b:1<=h/\h<=3){q:Int×Int}(a:q∈bE w h):(0<=q.1/\q.1<=100)/\(0<=q.2/\q.2<=100):=by
 have:=S7 (X9.mp a).1
 omega
theorem cA {w:Int}(h:1<=w/\w<=3):w∈[(1:Int),2,3]:=by
 have:w=1\/w=2\/w=3:=by omega
 rcases this with rfl|rfl|rfl<;>decide
theorem rB:∀ w∈[(1:Int),2,3],∀ h∈[(1:Int),2,3],(bE w h≠[]/\(bE w h).length<=36)/\(eA w h).length<=48/\∀ p∈eA w h,∀ q∈d5 p.1 p.2,q∈bE w h:=by decide +kernel
noncomputable def GrI (qs:List (Int×Int))(b a:Hm):Prop:=b <+: a/\∃ kvs,a[b.length]? = some (.dT kvs)/\OkD qs kvs/\kvs.length<=100/\∀ q∈qs,(bN kvs (bP q)).isSome=true
theorem GrI.more {qs:List (Int×Int)}{d a b:Hm}(h:GrI qs d a)(p:a <+: b):GrI qs d b:=
 let ⟨e,c,i,j⟩:=h
 ⟨e.trans p,c,aV p i,j⟩
theorem eB (q:Int×Int):eH (PP q)=some (bP q):=rfl
theorem F8 {qs:List (Int×Int)}{kvs:List (List Int×D)}(h:OkD qs kvs){i:Nat}{d:D}(hd:(kvs.map fun k=>D.tup (k.1.map D.int))[i]? = some d):∃ q∈qs,d=PP q:=by
 rw [V0] at hd
 obtain ⟨p,a,rfl⟩:=Vn.mp hd
 obtain ⟨⟨q,b,e⟩,_⟩:=h p (V8 a)
 exact ⟨q,b,by rw [e];rfl⟩
theorem F9 (k:Nat){w h:Int}(hw:1<=w/\w<=3)(n:1<=h/\h<=3){q:Int×Int}(b:q∈bE w h){u:Int}(o:0<=u/\u<4){e a:Hm}(G:GrI (bE w h) e a)(Q:D×Hm->Prop)(H:∀ (v:Int) μ'',a <+: μ''->Q (.int v,μ'')) :
  W (aJ (.loc e.length) (PP q) a) fun p=>W (f (k+1) "_law_led" [p.1,PP q] p.2) fun r=>W (f (k+1) "_law_value" [r.1,.int u] r.2) Q:=by
 obtain ⟨_,s,m,j,_,l⟩:=G
 obtain ⟨d,hd,i⟩:=j.val (l q b)
 refine (iA m (eB q) hd).mpr ?_
 have c:=S8 hw n b
 refine SW k d i q.1 q.2 c.1 c.2 _ _ fun x y=>?_
 exact S0 k x y u o _ _ H
theorem S9 {qs:List (Int×Int)}{b a:Hm}{kvs:List (List Int×D)}(m:b <+: a)(j:a[b.length]? = some (.dT kvs))(i:OkD qs kvs)(l:kvs.length<=100)(c:∀ q∈qs,(bN kvs (bP q)).isSome=true){q:Int×Int}(e:q∈qs){d:D}(hd:j7 d):GrI qs b (a.set b.length (.dT (dA kvs (bP q) d))):=
 ⟨hX m (Vv _) _,_,iC j,i.put e hd,by rw [S6 (c q e)];exact l,fun n h=>by rw [Ar,c n h,Zw]⟩
theorem lD {d:Hm}{a b:Nat}{c:C}(h:a≠b):(d.set a c)[b]? = d[b]?:=by
 rw [a0P];simp [h]
noncomputable def Au (k:Nat):MS:=aI (aR 9 (aB lR (aG (f k "_law_value") (aC (aG (f k "_law_led") (aC (aB aJ (aA 3) (aA 4)) (aC (aA 4) aD))) (aC (aA 6) aD))) (aA 8))) (bD (aO (aB (aT false) (aA 9) (aB (aT false) (aB aW (aB dX (aA 5) (mC (.int 8))) (mC (.int 2))) (mC (.int 1))))) (iM (aA 3) (aA 4) (aG (f k "_law_over") (aC (aB aJ (aA 3) (aA 4)) (aC (bI (aC (aA 6) (aC (aA 8) aD))) aD)))) bG)
noncomputable def Av (k:Nat):MS:=aI (aR 6 (aB aW (aA 5) (mC (.int 4)))) (aI (aR 7 (aB aJ (aG jY (aC (aA 3) aD)) (aB aW (aB dX (aA 5) (mC (.int 16))) (aG dZ (aC (aA 3) aD))))) (aI (aR 8 (aB bJ (aB bH (aB dX (aG (f k "_law_value") (aC (aG (f k "_law_led") (aC (aB aJ (aA 3) (aA 7)) (aC (aA 7) aD))) (aC (aA 6) aD))) (mC (.int 4))) (mC (.int 4))) (aB bH (aB aW (aB dX (aA 5) (mC (.int 4))) (mC (.int 2))) (mC (.int 4))))) (cQ (cF (aG jY (aC (aA 3) aD))) (dF 4) (Au k))))
noncomputable def Ga:MS:=iM (aA 3) (aA 4) (bI (aC (mC (.int 1)) (aC (mC (.int 0)) (aC (mC (.int 0)) (aC (mC (.int 1)) (aC (mC (.int 0)) (aC (mC (.int 0)) aD)))))))
noncomputable def Gb (k:Nat):MS:=aI (cQ (cF (aA 2)) (dF 5) (Av k)) (aQ (aA 3))
noncomputable def Gd (k:Nat):MS:=aI (aR 3 qJ) (aI (cQ (cF (aG (f k "_law_quarters") (aC (aA 0) (aC (aA 1) aD)))) (dF 4) Ga) (Gb k))
noncomputable abbrev GR (w h:Int)(b m:Nat)(a c d e i j:Option D):aH:=[some (.int w),some (.int h),some (.loc b),some (.loc m),a,c,d,e,i,j]
theorem Ta (k:Nat){w h:Int}(hw:1<=w/\w<=3)(K:1<=h/\h<=3){b:Nat}{n N:Int}{q:Int×Int}{G y:Option D}{o j:Hm}(x:q∈bE w h)(A:GrI (bE w h) o j){c:Nat}{L:List D}(s:j[c]? = some (.lst L))(Q:Fl×aH×Hm->Prop)
  (H:∀ i y,GrI (bE w h) o i->i[c]? = some (.lst L)->Q (.nx,GR w h b o.length (some (PP q)) (some (.int n)) (some (.int (n % 4))) G (some (.int N)) y,i)):W (Au (k+1) (GR w h b o.length (some (PP q)) (some (.int n)) (some (.int (n % 4))) G (some (.int N)) y) j) Q:=by
 have M:0<=n % 4/\n % 4<4:=⟨WK _ (by decide),Wx _ (by decide)⟩
 unfold Au
 rw [bK]
 simp only [bZ,aU,aX,aM,aL,aE,aF]
 refine F9 k hw K x M A _ fun T O I=>?_
 simp only [ES,Vs,Vt,dB,cM,aU,aE,aF,aS]
 refine (jB (by decide) (by decide)).mpr ((dC (by decide)).mpr ?_)
 simp only [eV,Rg]
 have B:=A.more I
 have e:=aV I s
 split
 ·obtain ⟨v,E,a,l,u,m⟩:=id B
  simp only [Ag,aX,aM,aL,aU,aE,aF]
  obtain ⟨d,r,J⟩:=l.val (m q x)
  refine (iA a (eB q) r).mpr ?_
  simp only [dP,aM,aL,aE,aF,fS,true_and]
  refine SX k d J (n % 4) N _ _ fun R p=>?_
  refine (Ai a (eB q) (by rw [VS];omega)).mpr ?_
  refine H _ _ (S9 v a l u m x p) ?_
  rw [lD]
  ·exact e
  ·intro z
   rw [z,e] at a
   cases a
 ·simp only [cK]
  exact H _ _ B e
theorem Tc (k:Nat){w h:Int}(hw:1<=w/\w<=3)(hh:1<=h/\h<=3)(ne:bE w h≠[]){b:Nat}{n:Int}{o M O R l:Option D}{r e:Hm}(X:GrI (bE w h) r e)(Q:Fl×aH×Hm->Prop)
  (H:∀ c o M O R l,GrI (bE w h) r c->Q (.nx,GR w h b r.length o (some (.int n)) M O R l,c)):W (Av (k+1) (GR w h b r.length o (some (.int n)) M O R l) e) Q:=by
 have hu:0<=n % 4/\n % 4<4:=⟨WK _ (by decide),Wx _ (by decide)⟩
 unfold Av
 rw [bK]
 simp only [bZ,aU,aE,aF,aS,jD,Vs,Vt]
 rw [bK]
 simp only [bZ,aU,aE,aF,aS,aX,aM,aL]
 obtain ⟨J,a,A,hO,hl,Z⟩:=id X
 have I:0<a.length:=by
  obtain ⟨q,K⟩:=List.exists_mem_of_ne_nil _ ne
  obtain ⟨d,hd⟩:=W5.mp (Z q K)
  exact List.length_pos_of_mem (F7 hd)
 refine (Fi A).mpr ?_
 refine (jB (by decide) (by decide)).mpr ((RB (aV (bA _ _) A)).mpr ((dC (by omega)).mpr ?_))
 have G:0<=n / 16 % (a.length:Int)/\n / 16 % (a.length:Int)<a.length:=⟨WK _ (by omega),Wx _ (by omega)⟩
 obtain ⟨Y,m⟩:∃ Y,(a.map fun k=>D.tup (k.1.map D.int))[(n / 16 % (a.length:Int)).toNat]? = some Y:=⟨_,VH (by rw [Vm];omega)⟩
 obtain ⟨qn,L,rfl⟩:=F8 hO m
 have s:atI (a.map fun k=>D.tup (k.1.map D.int)) (n / 16 % (a.length:Int))=some (PP qn):=by
  unfold atI
  rw [rA G.1 (by rw [Vm];exact G.2),VJ]
  exact m
 refine (mR (bL _ _) s).mpr ?_
 have y:=X.more (bA e (C.lst (a.map fun k=>D.tup (k.1.map D.int))))
 generalize e++[C.lst (a.map fun k=>D.tup (k.1.map D.int))]=μ2' at y
 clear s m G I A hl Z J
 simp only [Vs,Vt]
 rw [bK]
 simp only [bZ,aU,aE,aF,aS,aX,aM,aL]
 refine F9 k hw hh L hu y _ fun v T p3=>?_
 refine (jB (by decide) (by decide)).mpr ((dU (.inr (by decide))).mpr ((jB (by decide) (by decide)).mpr ((dC (by decide)).mpr ((dU (.inr (by decide))).mpr ?_))))
 simp only [cU]
 have p:=y.more p3
 generalize v / 4 * 4+n / 4 % 2 * 4=N
 obtain ⟨_,u,B,z,_⟩:=id p
 simp only [Vs,Vt,fF,w_iSeq,aX,aM,aL,aE,aF]
 refine (Fi B).mpr ((d8 (bL _ _)).mpr ?_)
 refine j4 (fun i x c=>GrI (bE w h) r c/\c[T.length]? = some (.lst (u.map fun k=>D.tup (k.1.map D.int)))/\∃ o l,x=GR w h b r.length o (some (.int n)) (some (.int (n % 4))) (some (PP qn)) (some (.int N)) l) ⟨p.more (bA _ _),bL _ _,_,_,rfl⟩ (fun i x c hI=>hI.2.1) ?_ ?_
 ·rintro j d x U hd ⟨p,E,o,l,rfl⟩
  obtain ⟨q,K,rfl⟩:=F8 z hd
  exact ⟨_,rfl,Ta k hw hh K p E _ fun c l g1 g2=>⟨g1,g2,_,_,rfl⟩⟩
 ·rintro x U ⟨p,_,o,l,rfl⟩
  exact H _ _ _ _ _ _ p
theorem Td (k:Nat){w h:Int}(hw:1<=w/\w<=3)(N:1<=h/\h<=3)(b:Nat)(fs:List Int)(e:Hm)(M:e[b]? = some (.lst (fs.map D.int)))(Q:D×Hm->Prop)(H:∀ a,GrI (bE w h) e a->Q (.loc e.length,a)):W (f (k+2) "_law_grown" [.int w,.int h,.loc b] e) Q:=by
 have F:=rB w (cA hw) h (cA N)
 rw [show f (k+2) "_law_grown" [.int w,.int h,.loc b] e=fin (Gd (k+1) [some (.int w),some (.int h),some (.loc b),none,none,none,none,none,none,none] e) from Sv ..,W_fin]
 unfold Gd
 rw [bK]
 simp only [bZ,RA,Vs,Vt]
 rw [bK]
 simp only [fF,w_iSeq,aX,aM,aL,aE,aF]
 refine F2 k w h hw N _ _ ?_
 refine (d8 (bL _ _)).mpr ?_
 have Z:b<e.length:=(Vx.mp M).1
 have U:(e++[C.dT []]).length=e.length+1:=by simp
 refine j4 (xs:=(bE w h).map PP) (fun i l a=>e <+: a/\a[(e++[C.dT []]).length]? = some (.lst ((bE w h).map PP))/\∃ c m,a[e.length]? = some (.dT c)/\OkD (bE w h) c/\c.length<=i/\i<=(bE w h).length/\(∀ q∈(bE w h).take i,(bN c (bP q)).isSome=true)/\l=[some (.int w),some (.int h),some (.loc b),some (.loc e.length),m,none,none,none,none,none])
  ⟨(bA _ _).trans (bA _ _),bL _ _,[],none,aV (bA _ _) (bL _ _),fun p v=>(by cases v),Vv _,Wn _,fun q r=>(by simp at r),rfl⟩ (fun i l a L=>L.2.1) ?_ ?_
 ·rintro i d l x hd ⟨v,o,c,m,s,y,A,u,z,rfl⟩
  obtain ⟨q,r,rfl⟩:=pD hd
  have O:q∈bE w h:=V8 r
  have hi:i<(bE w h).length:=(Vx.mp r).1
  refine ⟨_,rfl,?_⟩
  unfold Ga
  simp only [Vs,Vt,Ag,dP,aM,aL,aS,aE,aF]
  refine ⟨uU,?_⟩
  refine (Ai s (eB q) (by have:=F.1.2;rw [VS];omega)).mpr ?_
  refine ⟨hX v (Vv _) _,?_,_,_,iC s,y.put O ⟨_,_,_,_,_,_,rfl⟩,?_,hi,?_,rfl⟩
  ·rw [lD (by omega)]
   exact o
  ·exact Wu (OB _ _ _) (Zd A)
  ·intro X j
   rw [Ar]
   rw [Zy,r] at j
   rcases WU.mp j with j|j
   ·rw [z X j,Zw]
   ·have:X=q:=by simpa using j
    subst this
    simp
 ·rintro l x ⟨v,o,c,m,s,y,A,u,z,rfl⟩
  have G:GrI (bE w h) e x:=⟨v,c,s,y,by have:=F.1.2;rw [Vm] at A;omega,fun q r=>z q (by rw [Vm,Y5];exact r)⟩
  clear o z y s A u c
  unfold Gb
  rw [bK]
  simp only [fF,w_iSeq,aE,aF]
  refine (d8 (aV G.1 M)).mpr ?_
  refine j4 (xs:=fs.map D.int) (fun i l a=>GrI (bE w h) e a/\∃ m R B E I J,l=GR w h b e.length m R B E I J) ⟨G,_,_,_,_,_,_,rfl⟩ (fun i l a L=>aV L.1.1 M) ?_ ?_
  ·rintro i d l T hd ⟨K,m,R,B,E,I,J,rfl⟩
   obtain ⟨n,_,rfl⟩:=Am (V8 hd)
   exact ⟨_,rfl,Tc k hw N F.1.1 K _ fun a m B E I J Y=>⟨Y,_,_,_,_,_,_,rfl⟩⟩
  ·rintro l T ⟨K,m,R,B,E,I,J,rfl⟩
   simp only [w_mRet,aE,aF]
   exact H _ K
theorem Te {d d':D}(h:j7 d)(h':j7 d'){a:Hm}{Q:D×Hm->Prop}(H:∀ b,Q (.bl b,a)):W (aT true d d' a) Q:=by
 obtain ⟨c,e,i,j,l,m,rfl⟩:=h
 obtain ⟨n,o,p,q,r,s,rfl⟩:=h'
 exact W_some.mpr (H _)
theorem uW {b:Bool}{c:Hm}{a:Nat}{ps:List (Int×Int)}{q:Int×Int}{Q:D×Hm->Prop}(h:c[a]? = some (.lst (ps.map PP))):W (cT b (PP q) (.loc a) c) Q↔Q (.bl (if b then !(ps.any fun p=>p == q) else ps.any fun p=>p == q),c):=by
 have e:cT b (PP q) (.loc a) c=some (.bl (if b then !(ps.any fun p=>p == q) else ps.any fun p=>p == q),c):=by
  simp only [cT,h]
  unfold lZ
  have e:bF c (.loc a)=some (ps.map PP):=by simp only [bF,h]
  rw [e]
  show (jR c (PP q) (ps.map PP)).map _=_
  rw [FP]
  rfl
 rw [e]
 exact W_some
theorem Tf {b:Hm}{a:Nat}{x:D}{k:Bool}{Q:D×Hm->Prop}(h:b[a]? = some (.lst [x])):W (bH (.loc a) (.int (if k then 1 else 0)) b) Q↔Q (.loc b.length,b++[.lst (if k then [x] else [])]):=by
 have:bH (.loc a) (.int (if k then 1 else 0)) b=some (.loc b.length,b++[.lst (if k then [x] else [])]):=by
  cases k with
  | true=>
   simp only [bH,h,if_true]
   rw [if_pos ⟨by decide,by decide,by show (1:Nat)<=VA;decide⟩]
   rfl
  | false=>
   simp only [bH,h,Vy,if_false]
   rw [if_pos ⟨by decide,by decide,by show (0:Nat)<=VA;decide⟩]
   rfl
 rw [this]
 exact W_some
noncomputable abbrev RD (ns:List Int)(w h:Int)(c e:Nat)(v n:Int)(l m o a b d i j:Option D):aH:=[some (.rol (ns.map D.int)),some (.int w),some (.int h),some (.loc c),some (.loc e),some (.int v),some (.int n),l,m,o,a,b,d,i,j]
theorem Tg (k:Nat)(ns:List Int)(w h:Int)(c e:Nat)(v n:Int)(es:List (Int×Int))(K:es.length<=48)(m:Hm)(B:m[e]? = some (.lst (es.map PP)))(Q:Fl×aH×Hm->Prop)
  (H:∀ b (fs:List (Int×Int)) o a,m <+: a->a[b]? = some (.lst (fs.map PP))->fs.length<=49->Q (.rt (.loc b),o,a)) :
  W (aI (aR 7 (cL aD)) (aI (cQ (mG (aC (aA 4) aD)) (cX [8,9]) (aI (aR 10 (aB bJ (aB bH (aA 6) (aB bJ (aB bH (mC (.int 2)) (aA 8)) (mC (.int 1)))) (aB bH (aG (f (k+1) "_law_cell") (aC (aA 0) (aC (aB bJ (mC (.int 3)) (aB aW (aA 8) (mC (.int 5)))) aD))) (aB bJ (aB bH (aA 8) (aA 8)) (mC (.int 5)))))) (bD (aO (aB iH (aB aW (aB aW (aA 10) (mC (.int 10007))) (mC (.int 7))) (aB aW (aB dX (aG (f (k+1) "_law_cell") (aC (aA 0) (aC (mC (.int 1)) aD))) (mC (.int 5))) (mC (.int 8))))) (dS (dG eI (aA 7) (aC (aA 9) aD))) bG))) (aQ (aA 7))) (RD ns w h c e v n none none none none none none none none) m) Q:=by
 simp only [bK,bZ,eK,aL,Vs,Vt]
 refine ⟨Wn _,?_⟩
 simp only [fF]
 refine Fg ?_
 simp only [aM,aL,aE,aF]
 refine ⟨e,es.map PP,rfl,aV (bA _ _) B,?_⟩
 refine Ad (fun i o a=>m <+: a/\∃ fs y z l,a[m.length]? = some (.lst ((fs:List (Int×Int)).map PP))/\fs.length<=i/\i<=es.length/\o=RD ns w h c e v n (some (.loc m.length)) y z l none none none none) ⟨bA _ _,[],none,none,none,bL _ _,Vv _,Wn _,rfl⟩ (fun i o a J=>aV J.1 B) ?_ ?_
 ·rintro i d o A hd ⟨x,fs,y,z,l,s,r,_,rfl⟩
  obtain ⟨q,L,rfl⟩:=pD hd
  have E:i<es.length:=(Vx.mp L).1
  refine ⟨RD ns w h c e v n (some (.loc m.length)) (some (.int i)) (some (PP q)) l none none none none,rfl,?_⟩
  have O:0<=(i:Int) % 5/\(i:Int) % 5<5:=⟨WK _ (by decide),Wx _ (by decide)⟩
  have R:=FQ (i:=(i:Int)) (by omega)
  simp only [RD,Vs,Vt,bK,bZ,aU,aE,aF,aS,Fw,cU]
  refine (dU (.inr (by omega))).mpr ?_
  simp only [aX,aM,aL,aE,aF,aU,aS,Fx,cU]
  refine lB k ns _ (by omega) _ _ fun M G=>?_
  have u:-(2 ^ 64)<(i:Int)/\(i:Int)<2 ^ 64:=by omega
  refine (dU (.inl u)).mpr ?_
  simp only [cU]
  refine (dU (.inr (by omega))).mpr ?_
  simp only [cU,Vs,Vt,dB,cM,aU,aE,aF,aS]
  refine (dC (by decide)).mpr ((dC (by decide)).mpr ?_)
  simp only [aX,aM,aL,aE,aF,aS]
  refine lB k ns _ (by decide) _ _ fun N I=>?_
  refine (jB (by decide) (by decide)).mpr ((dC (by decide)).mpr ?_)
  simp only [zY]
  have p:=x.trans (G.trans I)
  have j:=aV (G.trans I) s
  split
  ·simp only [j0]
   refine j5 ?_
   simp only [aE,aF]
   refine ⟨j6 j,?_⟩
   simp only [aM,aL,aE,aF]
   refine (oZ j (by rw [Vm,VS];omega)).mpr ?_
   refine ⟨hX p (Vv _) _,fs++[q],_,_,_,?_,by rw [VR];exact Zd r,E,rfl⟩
   rw [iC j,Wq]
   rfl
  ·simp only [cK]
   exact ⟨p,fs,_,_,_,j,a1a r,E,rfl⟩
 ·rintro o A ⟨x,fs,y,z,l,s,r,_,rfl⟩
  simp only [w_mRet,aE,aF]
  exact H _ fs _ _ x s (by rw [Vm] at r;omega)
theorem Th (k:Nat)(ns:List Int){w h:Int}(hw:1<=w/\w<=3)(hh:1<=h/\h<=3)(c e:Nat)(v n:Int)(p o:Hm)(G:GrI (bE w h) p o)(N:o[e]? = some (.lst ((eA w h).map PP)))(R:MS)(Q:Fl×aH×Hm->Prop)
  (H:∀ (fs:List (Int×Int)) s j l a,o <+: a->a[o.length]? = some (.lst (fs.map PP))->fs.length<=48->W (R (RD ns w h c e v n none none s none (some (.loc p.length)) (some (.loc o.length)) j l) a) Q) :
  W (aI (aR 12 (cL aD)) (aI (cQ (cF (aA 4)) (dF 9) (aI (fA (aG (f (k+1) "_law_beside") (aC (aA 9) aD)) (cX [13,14])) (bD (aO (aB (aT true) (aB aJ (aA 11) (aA 13)) (aB aJ (aA 11) (aA 14)))) (dS (dG eI (aA 12) (aC (aA 9) aD))) bG))) R) (RD ns w h c e v n none none none none (some (.loc p.length)) none none none) o) Q:=by
 have F:=rB w (cA hw) h (cA hh)
 simp only [RD,bK,bZ,eK,aL,Vs,Vt]
 refine ⟨Wn _,?_⟩
 simp only [fF,w_iSeq,aE,aF]
 refine (d8 (aV (bA _ _) N)).mpr ?_
 refine j4 (fun i A a=>o <+: a/\∃ fs s j l,a[o.length]? = some (.lst ((fs:List (Int×Int)).map PP))/\fs.length<=i/\i<=(eA w h).length/\A=RD ns w h c e v n none none s none (some (.loc p.length)) (some (.loc o.length)) j l) ⟨bA _ _,[],none,none,none,bL _ _,Vv _,Wn _,rfl⟩ (fun i A a hI=>aV hI.1 N) ?_ ?_
 ·rintro i d A K hd ⟨z,fs,s,j,l,B,u,_,rfl⟩
  obtain ⟨⟨x,y⟩,U,rfl⟩:=pD hd
  have O:i<(eA w h).length:=(Vx.mp U).1
  refine ⟨_,rfl,?_⟩
  simp only [RD,Vs,Vt,bK,k8,aX,aM,aL,aE,aF]
  refine S2 k x y _ _ fun b I J μ2 E hb h1 h2=>?_
  refine (ET hb).mpr ?_
  simp only [Vs,Vt,dB,cM,aU,aE,aF]
  have q:=V8 U
  have m1:=F.2.2 (x,y) q I h1
  have m2:=F.2.2 (x,y) q J h2
  obtain ⟨_,kvs,T,L,_,M⟩:=(G.more z).more E
  obtain ⟨d1,Y,s1⟩:=L.val (M I m1)
  obtain ⟨d2,Z,s2⟩:=L.val (M J m2)
  refine (iA T (eB I) Y).mpr ((iA T (eB J) Z).mpr (Te s1 s2 fun X=>?_))
  have r:=z.trans E
  have m:=aV E B
  cases X with
  | true=>
   simp only [if_true,j0]
   refine j5 ?_
   simp only [aE,aF]
   refine ⟨j6 m,?_⟩
   simp only [aM,aL,aE,aF]
   refine (oZ m (by have:=F.2.1;rw [Vm,VS];omega)).mpr ?_
   refine ⟨hX r (Vv _) _,fs++[(x,y)],_,_,_,?_,by rw [VR];exact Zd u,O,rfl⟩
   rw [iC m,Wq]
   rfl
  | false=>
   simp only [Vy,if_false,cK]
   exact ⟨r,fs,_,_,_,m,a1a u,O,rfl⟩
 ·rintro A K ⟨z,fs,s,j,l,B,u,_,rfl⟩
  exact H fs _ _ _ _ z B (by have:=F.2.1;rw [Vm] at u;omega)
theorem Ti {es:List (Int×Int)}{i:Int}(h:0<=i/\i<es.length):∃ p,atI (es.map PP) i=some (PP p):=by
 have a:i.toNat<es.length:=by omega
 refine ⟨es[i.toNat],?_⟩
 unfold atI
 rw [rA h.1 (by rw [Vm];exact h.2),VJ,V0,VH a]
 rfl
theorem Tj (ns:List Int)(w h:Int)(c e b:Nat)(v n:Int)(X g A E:Option D)(es fs:List (Int×Int))(U:es.length<=48)(r:fs.length<=48)(j:Hm)(J:j[e]? = some (.lst (es.map PP)))(o:j[b]? = some (.lst (fs.map PP)))(Q:Fl×aH×Hm->Prop)
  (H:∀ b (fs:List (Int×Int)) ρ a,j <+: a->a[b]? = some (.lst (fs.map PP))->fs.length<=49->Q (.rt (.loc b),ρ,a)) :
  W (aI (bD (fY (aO (aB (aT false) (aA 5) (mC (.int 1)))) (aO (aB (aT true) (aA 4) (cL aD)))) (aI (aR 9 (aB aJ (aA 4) (aB aW (aB dX (aA 6) (mC (.int 6))) (aG dZ (aC (aA 4) aD))))) (aR 12 (aG i8 (aC (aB bJ (eQ (cF (aA 12)) (aO (aB (aT true) (aA 15) (aA 9))) (aA 15)) (aB bH (cL (aC (aA 9) aD)) (aG nF (aC (aB (cT true) (aA 9) (aA 12)) aD)))) aD)))) bG) (aQ (aA 12)) (RD ns w h c e v n none none X none g (some (.loc b)) A E) j) Q:=by
 simp only [RD,bK,dB,uN,cM,aU,aE,aF,aS,eV]
 cases hv:v == 1 with
 | false=>
  simp only [Vy,if_false,cK,w_mRet,aE,aF]
  exact H b fs _ _ (VF _) o (by omega)
 | true=>
  simp only [if_true,eK,aL]
  refine ⟨Wn _,?_⟩
  refine (EW (qs:=[]) (aV (bA _ _) J) (bL _ _)).mpr ?_
  simp only [if_true]
  cases K:!(es == []) with
  | false=>
   simp only [Vy,if_false,cK,w_mRet,aE,aF]
   exact H b fs _ _ (bA _ _) (aV (bA _ _) o) (by omega)
  | true=>
   have O:es≠[]:=fun z=>by rw [z] at K;simp at K
   have Z:0<es.length:=YF.mpr O
   generalize hμ:j++[C.lst (a4n PP [])]=μ1
   have G:j <+: μ1:=by rw [<- hμ];exact bA _ _
   have l:=aV G J
   have i:=aV G o
   simp only [if_true,bK,bZ,aU,aE,aF,aS,aX,aM,aL]
   refine (jB (by decide) (by decide)).mpr ((pA l).mpr ?_)
   rw [Vm]
   refine (dC (by omega)).mpr ?_
   obtain ⟨p,s⟩:=Ti (es:=es) (i:=n / 6 % (es.length:Int)) ⟨WK _ (by omega),Wx _ (by omega)⟩
   refine (mR l s).mpr ?_
   simp only [Vs,Vt]
   refine fR (xs:=fs.map PP) (p:=fun d=>!((cV d).1 == p.1&&((cV d).2 == p.2&&true))) (v:=fun d=>d) ?_
   simp only [w_iSeq,aE,aF]
   refine (d8 i).mpr ⟨iP i,rfl,by rw [Vm,VS];omega,fun d a hd s=>?_,fun d a hd _ s=>?_,fun I L m=>?_⟩
   ·obtain ⟨x,y,rfl⟩:=k9 hd
    simp only [VZ,V2,cM,aU,aE,aF]
    exact w_neP.mpr ⟨rfl,VF _⟩
   ·simp only [VZ,V2,aE,aF]
    exact ⟨trivial,VF _⟩
   ·rw [pC fun q=>!(q.1 == p.1&&(q.2 == p.2&&true))] at m
    generalize hF:fs.filter (fun q=>!(q.1 == p.1&&(q.2 == p.2&&true)))=F at m
    have T:F.length<=48:=by rw [<- hF];exact Wu (WJ _ _) r
    simp only [eK,aM,aL,aE,aF]
    refine ⟨by show (1:Nat)<=VA;decide,?_⟩
    refine (uW (aV (L.trans (bA _ _)) i)).mpr ?_
    simp only [RG,if_true]
    generalize hB:(!(fs.any fun q=>q == p))=B
    refine (Tf (bL _ _)).mpr ?_
    have M:(if B=true then [PP p] else [])=(if B=true then [p] else []).map PP:=by cases B<;>rfl
    rw [M]
    have N:=aV ((bA I (C.lst [PP p])).trans (bA _ (C.lst ((if B=true then [p] else []).map PP)))) m
    have R:(if B=true then [p] else ([]:List (Int×Int))).length<=1:=by cases B<;>simp
    refine (EY N (bL _ _) (by rw [Vm,Vm,VS];omega)).mpr ?_
    rw [<- Wq]
    refine Aq (bL _ _) (by rw [VR];omega) fun Y u=>?_
    simp only [w_mRet,aE,aF]
    refine H _ Y _ _ (G.trans (L.trans ((bA _ _).trans ((bA _ _).trans ((bA _ _).trans (bA _ _)))))) (bL _ _) ?_
    rw [u.length_eq,VR]
    omega
theorem Tn (k:Nat)(ns:List Int){w h:Int}(hw:1<=w/\w<=3)(p:1<=h/\h<=3)(c:Nat)(ws:List Int)(x:ws≠[])(m:Hm)(hc:m[c]? = some (.lst (ws.map D.int)))(Q:D×Hm->Prop)
  (H:∀ b (fs:List (Int×Int)) e,m <+: e->e[b]? = some (.lst (fs.map PP))->fs.length<=49->Q (.loc b,e)):W (f (k+3) "_law_creased" [.rol (ns.map D.int),.int w,.int h,.loc c] m) Q:=by
 have F:=rB w (cA hw) h (cA p)
 have Y:0<ws.length:=YF.mpr x
 rw [Sx,W_fin,bK,bZ]
 simp only [aX,aM,aL,aE,aF]
 refine F1 (k+1) w h hw p _ _ ?_
 generalize hμ:m++[C.lst ((eA w h).map PP)]=μ1
 have B:m <+: μ1:=by rw [<- hμ];exact bA _ _
 have u:μ1[m.length]? = some (.lst ((eA w h).map PP)):=by rw [<- hμ];exact bL _ _
 dsimp only [Vs,Vt]
 rw [bK,bZ]
 simp only [aU,aX,aM,aL,aE,aF,aS]
 refine lB (k+1) ns 1 (by decide) _ _ fun μ2 q=>?_
 refine (pA (aV (B.trans q) hc)).mpr ?_
 rw [Vm]
 refine (dC (by omega)).mpr ?_
 have L:0<=dQ ns 1 % (ws.length:Int)/\dQ ns 1 % (ws.length:Int)<ws.length:=⟨WK _ (by omega),Wx _ (by omega)⟩
 refine (mR (aV (B.trans q) hc) (Al L.1 L.2)).mpr ?_
 generalize ws.getD (dQ ns 1 % (ws.length:Int)).toNat 0=v
 dsimp only [Vs,Vt]
 rw [bK,bZ]
 simp only [aX,aM,aL,aE,aF,aS]
 refine lB (k+1) ns 2 (by decide) _ _ fun I N=>?_
 generalize dQ ns 2=n
 dsimp only [Vs,Vt]
 have E:=B.trans (q.trans N)
 have i:=aV (q.trans N) u
 rw [bK,dB]
 simp only [cM,aU,aE,aF,aS,eV]
 cases h3:v == 3 with
 | true=>
  simp only [if_true,w_mRet,aX,aM,aL,aE,aF]
  exact S5 k _ (eA w h) (by have:=F.2.1;omega) n _ i _ fun b fs a l o M=>H b fs a (E.trans l) o (by have:=F.2.1;omega)
 | false=>
  simp only [Vy,if_false,cK]
  rw [bK,dB]
  simp only [cM,aU,aE,aF,aS,eV]
  cases h4:v == 4 with
  | true=>
   simp only [if_true]
   exact Tg (k+1) ns w h c _ v n (eA w h) F.2.1 _ i _ fun b fs ρ a l o M=>H b fs a (E.trans l) o M
  | false=>
   simp only [Vy,if_false,cK]
   rw [bK,bZ]
   simp only [aX,aM,aL,aE,aF]
   refine fR (xs:=gJ 0 (n % 6).toNat) (p:=fun _=>true) (v:=fun d=>.int (dQ ns (3+kB d))) ?_
   rw [zZ (j:=0)]
   simp only [aM,aL,aU,aE,aF,aS,SG]
   have h6:0<=n % 6/\n % 6<6:=⟨WK _ (by decide),Wx _ (by decide)⟩
   refine ⟨by omega,EU,by simp [gJ],by rw [VS];simp [gJ];omega,fun d e hd X=>w_mTrue.mpr ⟨rfl,VF _⟩,fun d e hd _ X=>?_,fun a l o=>?_⟩
   ·obtain ⟨j,hj,rfl⟩:=Fy hd
    simp only [VZ,V2,aX,aM,aL,aE,aF,aU,aS,cU]
    exact lB (k+1) ns _ (by omega) _ _ fun R A=>⟨rfl,A⟩
   ·have s:a[I.length]? = some (.lst (((gJ 0 (n % 6).toNat).map fun d=>dQ ns (3+kB d)).map D.int)):=by
     rw [o,mU,VN]
     rfl
    refine Td k hw p _ _ _ s _ fun J G=>?_
    dsimp only [Vs,Vt]
    refine Th (k+1) ns hw p c _ v n a J G (aV (l.trans G.1) i) _ _ fun fs o9 y z μ6 O T Z=>?_
    exact Tj ns w h c _ _ v n o9 _ y z (eA w h) fs F.2.1 Z _ (aV (l.trans (G.1.trans O)) i) T _ fun b r ρ K p7 U l7=>H b r K (E.trans (l.trans (G.1.trans (O.trans p7)))) U l7
noncomputable def MD (m:(Int×Int)×Str):D:=.tup [PP m.1,.str m.2]
theorem To {i:Int}(h:0<=i/\i<3):∃ c,atI (Xy "hvo").cps.toList i=some c:=by
 have:i=0\/i=1\/i=2:=by omega
 rcases this with rfl|rfl|rfl
 ·exact ⟨104,by decide +kernel⟩
 ·exact ⟨118,by decide +kernel⟩
 ·exact ⟨111,by decide +kernel⟩
theorem Tp:(Xy "hvo").length<=VA:=by decide +kernel
theorem Ge:(3:Nat)<=VA:=by decide
theorem Tq {i:Int}(h:0<=i/\i<3){a:Hm}{Q:D×Hm->Prop}(H:∀ s,Q (.str s,a)):W (aJ (.str "hvo") (.int i) a) Q:=by
 obtain ⟨c,hc⟩:=To h
 exact (RE Tp hc).mpr (H _)
noncomputable def uX (k:Int)(p:Int×Int):Int×Int:=if k=0 then (p.1,-p.2) else if k=1 then (-p.1,p.2) else if k=2 then (p.2,p.1) else (-p.2,-p.1)
noncomputable def lE (k x y:Int):Int:=if k=0 then y else if k=1 then x else if k=2 then x - y else x+y
theorem Ts (k x y:Int)(p:Int×Int):lC (x+p.1,y+p.2) (k,lE k x y)=(x+(uX k p).1,y+(uX k p).2):=by
 unfold lC uX lE
 dsimp only
 by_cases a:k=0
 ·simp only [a,if_true]
  exact WS rfl (by dsimp only;omega)
 ·by_cases b:k=1
  ·subst b
   simp only [if_true,a,if_false]
   exact WS (by dsimp only;omega) rfl
  ·by_cases c:k=2
   ·subst c
    simp only [if_true,a,b,if_false]
    exact WS (by dsimp only;omega) (by dsimp only;omega)
   ·simp only [a,b,c,if_false]
    exact WS (by dsimp only;omega) (by dsimp only;omega)
noncomputable def pF (m:Int×Int->Bool)(es:List (Int×Int))(p:Int×Int):Int×Int:=es.foldl (fun p e=>if m e then lC p (d4 e.1 e.2) else p) p
noncomputable def pG:List Int->List Bool->Int×Int->Int×Int
 | k::ks,b::bs,p=>pG ks bs (if b then uX k p else p)
 | _,_,p=>p
theorem Gf (m:Int×Int->Bool)(x y:Int):∀ (l:List (Int×Int))(ks:List Int)(p:Int×Int),ks.length=l.length->(∀ q∈l.zip ks,d4 (x+q.1.1) (y+q.1.2)=(q.2,lE q.2 x y))->
  pF m (mv x y l) (x+p.1,y+p.2)=(x+(pG ks ((mv x y l).map m) p).1,y+(pG ks ((mv x y l).map m) p).2)
 | [],[],p,_,_=>rfl
 | [],_::_,_,h,_=>by simp at h
 | _::_,[],_,h,_=>by simp at h
 | o::l,k::ks,p,h,hl=>by
  have b:=hl (o,k) (by simp)
  have a:=fun p=>Gf m x y l ks p (by simpa using h) fun q c=>hl q (by rw [X5];exact VI _ c)
  unfold pF mv at a ⊢
  simp only [VE,XG,pG]
  dsimp only at b
  cases d:m (x+o.1,y+o.2) with
  | true=>
   simp only [if_true]
   rw [b,Ts]
   exact a _
  | false=>
   simp only [Vy,if_false]
   exact a p
noncomputable def K8:List Int:=[0,2,1,3,0,2,1,3]
noncomputable def K4:List Int:=[2,3,2,3]
theorem Tt {x y:Int}(d:x % 4=0)(i:y % 4=0):∀ q∈E8.zip K8,d4 (x+q.1.1) (y+q.1.2)=(q.2,lE q.2 x y):=by
 have e:∀ {a b:Int}{k n:Int},(if b % 4=0 then (0,b) else if a % 4=0 then (1,a) else if a % 4=b % 4 then (2,a - b) else (3,a+b):Int×Int)=(k,n)->d4 a b=(k,n):=fun h=>h
 intro q c
 simp only [E8,K8,X5,a0E,VP,Xd,or_false] at c
 rcases c with rfl|rfl|rfl|rfl|rfl|rfl|rfl|rfl<;>refine e ?_<;>dsimp only [lE]
 ·rw [if_pos (by omega)];exact WS rfl (by simp)
 ·rw [if_neg (by omega),if_neg (by omega),if_pos (by omega)];exact WS rfl (by simp<;>omega)
 ·rw [if_neg (by omega),if_pos (by omega)];exact WS rfl (by simp)
 ·rw [if_neg (by omega),if_neg (by omega),if_neg (by omega)];exact WS rfl (by simp<;>omega)
 ·rw [if_pos (by omega)];exact WS rfl (by simp)
 ·rw [if_neg (by omega),if_neg (by omega),if_pos (by omega)];exact WS rfl (by simp<;>omega)
 ·rw [if_neg (by omega),if_pos (by omega)];exact WS rfl (by simp)
 ·rw [if_neg (by omega),if_neg (by omega),if_neg (by omega)];exact WS rfl (by simp<;>omega)
theorem Tu {x y:Int}(d:x % 4=2)(i:y % 4=2):∀ q∈F4.zip K4,d4 (x+q.1.1) (y+q.1.2)=(q.2,lE q.2 x y):=by
 have e:∀ {a b:Int}{k n:Int},(if b % 4=0 then (0,b) else if a % 4=0 then (1,a) else if a % 4=b % 4 then (2,a - b) else (3,a+b):Int×Int)=(k,n)->d4 a b=(k,n):=fun h=>h
 intro q c
 simp only [F4,K4,X5,a0E,VP,Xd,or_false] at c
 rcases c with rfl|rfl|rfl|rfl<;>refine e ?_<;>dsimp only [lE]
 ·rw [if_neg (by omega),if_neg (by omega),if_pos (by omega)];exact WS rfl (by simp<;>omega)
 ·rw [if_neg (by omega),if_neg (by omega),if_neg (by omega)];exact WS rfl (by simp<;>omega)
 ·rw [if_neg (by omega),if_neg (by omega),if_pos (by omega)];exact WS rfl (by simp<;>omega)
 ·rw [if_neg (by omega),if_neg (by omega),if_neg (by omega)];exact WS rfl (by simp<;>omega)
noncomputable def D3:List (Int×Int):=[(0,0),(2,1),(1,-2)]
noncomputable def gO (m:Int×Int->Bool)(x y:Int):Bool:=D3.all fun d=>pF m (mv x y (cN x)) (x+d.1,y+d.2) == (x+d.1,y+d.2)
noncomputable def uY (ks:List Int)(bs:List Bool):Bool:=D3.all fun d=>pG ks bs d == d
noncomputable def jF (bs:List Bool):List Int:=((Wc bs.length).filter fun i=>bs.getD i false).map fun (i:Nat)=>(i:Int)
noncomputable def mW (bs:List Bool):List Int:=((jF bs).zip ((jF bs).drop 1++((jF bs).take 1).map fun s=>s+(bs.length:Int))).map fun p=>(p.2 - p.1) * (8 / (bs.length:Int))
theorem Tv:∀ a b c d e g h i:Bool,iB (mW [a,b,c,d,e,g,h,i])=uY K8 [a,b,c,d,e,g,h,i]:=by decide +kernel
theorem Tw:∀ a b c d:Bool,iB (mW [a,b,c,d])=uY K4 [a,b,c,d]:=by decide +kernel
theorem Gg {m:Int×Int->Bool}{x y:Int}{l:List (Int×Int)}{ks:List Int}(a:cN x=l)(b:ks.length=l.length)(c:∀ q∈l.zip ks,d4 (x+q.1.1) (y+q.1.2)=(q.2,lE q.2 x y)):gO m x y=uY ks ((mv x y l).map m):=by
 unfold gO uY
 rw [a]
 congr 1
 funext d
 rw [Gf m x y l ks d b c]
 generalize pG ks ((mv x y l).map m) d=q
 rw [Zo]
 simp only [beq_iff_eq,a2q]
 omega
theorem Tx {m:Int×Int->Bool}{x y:Int}(c:x % 2=0)(b:x % 4=y % 4):iB (mW ((mv x y (cN x)).map m))=gO m x y:=by
 by_cases h:x % 4=0
 ·have a:cN x=E8:=by unfold cN;rw [if_pos h]
  rw [Gg a rfl (Tt h (by omega)),a]
  exact Tv _ _ _ _ _ _ _ _
 ·have a:cN x=F4:=by unfold cN;rw [if_neg h]
  rw [Gg a rfl (Tu (by omega) (by omega)),a]
  exact Tw _ _ _ _
noncomputable def eL (p:Int×Int):Bool:=p.1 % 2 == 0&&p.1 % 4 == p.2 % 4
theorem Tz (k:Nat)(x y:Int)(a:Hm)(Q:D×Hm->Prop):W (f (k+1) "is_corner" [P x y] a) Q↔Q (.bl (eL (x,y)),a):=by
 rw [RN,W_fin]
 simp only [w_mRet,mQ,aU,aS,aE,gH,hZ,eV,pB,jD]
 unfold eL
 cases x % 2 == 0<;>simp
theorem TB (k:Nat)(w h:Int)(hw:1<=w/\w<=3)(n:1<=h/\h<=3)(i:Hm)(Q:D×Hm->Prop)(H:∀ a b,i <+: b->b[a]? = some (.lst (((cR w h).filter eL).map PP))->Q (.loc a,b)):W (f (k+2) "corners_in" [.int w,.int h] i) Q:=by
 rw [R6,W_fin]
 simp only [w_mRet]
 refine fR (xs:=(cR w h).map PP) (p:=fun d=>eL (cV d)) (v:=fun d=>d) ?_
 simp only [w_iSeq,aX,aM,aL,aE,aF]
 refine FJ _ w h (by omega) (by omega) _ _ fun a m l e o=>?_
 refine (d8 e).mpr ⟨iP e,rfl,?_,fun d b hd c=>?_,fun d b hd _ c=>?_,fun b c j=>?_⟩
 ·have:=FK (w:=w) (h:=h) (by omega) (by omega)
  rw [Vm,VS];omega
 ·obtain ⟨u,v,rfl⟩:=k9 hd
  simp only [VZ,V2,iO,aX,aM,aL,aE,aF,Tz,jC]
  exact ⟨rfl,VF _⟩
 ·simp only [VZ,V2,aE,aF]
  exact ⟨trivial,VF _⟩
 ·refine H _ _ (l.trans c) ?_
  rw [j,pC eL]
noncomputable def bQ (a:List ((Int×Int)×Str))(p:Int×Int):Bool:=(a.map (·.1)).any fun q=>q == p
theorem Gh:∀ a:List ((Int×Int)×Str),oC (a.map MD)=some (a.map fun m=>(bP m.1,D.str m.2))
 | []=>rfl
 | m::a=>by
  rw [VE,VE]
  show (eH (PP m.1)).bind (fun k=>(oC (a.map MD)).map fun l=>(k,D.str m.2)::l)=_
  rw [Gh a]
  rfl
theorem Gi (k:List Int):∀ (l kvs:List (List Int×D)),(bN (l.foldl (fun q p=>dA q p.1 p.2) kvs) k).isSome=((bN kvs k).isSome||l.any fun p=>decide (p.1=k))
 | [],kvs=>by simp
 | p::l,kvs=>by
  rw [XG,Gi k l,Ar,XQ]
  cases decide (p.1=k)<;>cases (bN kvs k).isSome<;>simp
theorem uZ (p q:Int×Int):decide (bP p=bP q)=(p == q):=by
 rw [Zo]
 simp only [decide_eq_true_eq,beq_iff_eq,bP,a0J,and_true,a2q]
theorem Gj (a:List ((Int×Int)×Str))(p:Int×Int):(bN ((a.map fun m=>(bP m.1,D.str m.2)).foldl (fun q p=>dA q p.1 p.2) []) (bP p)).isSome=bQ a p:=by
 rw [Gi]
 unfold bQ
 rw [a0S,a0S]
 show (false||_)=_
 rw [Bool.false_or]
 congr 1
 funext m
 exact uZ m.1 p
theorem Aw {a b c:D}{d:Hm}{Q:D×Hm->Prop}:W (aJ (.tup [a,b,c]) (.int 2) d) Q↔Q (c,d):=W_some
theorem rC {a b c:D}{d:Hm}{Q:D×Hm->Prop}:W (aJ (.tup [a,b,c]) (.int 0) d) Q↔Q (a,d):=W_some
theorem rD {a b c:D}{d:Hm}{Q:D×Hm->Prop}:W (aJ (.tup [a,b,c]) (.int 1) d) Q↔Q (b,d):=W_some
noncomputable abbrev SH (w h:Int)(a:List ((Int×Int)×Str)):D:=.tup [.int w,.int h,.tup (a.map MD)]
theorem Gk {b:List ((Int×Int)×Str)}{a:Hm}{Q:D×Hm->Prop}:W (mJ [.tup (b.map MD)] a) Q↔Q (.loc a.length,a++[.dT ((b.map fun m=>(bP m.1,D.str m.2)).foldl (fun q p=>dA q p.1 p.2) [])]):=by
 have:mJ [.tup (b.map MD)] a=some (.loc a.length,a++[.dT ((b.map fun m=>(bP m.1,D.str m.2)).foldl (fun q p=>dA q p.1 p.2) [])]):=by
  simp only [mJ,Gh,VT]
 rw [this]
 exact W_some
theorem TC (k:Nat)(w h:Int)(c:List ((Int×Int)×Str))(x y:Int)(l:Hm)(Q:D×Hm->Prop)(H:∀ a b,l <+: b->b[a]? = some (.lst (((mv x y (cN x)).filter (bQ c)).map PP))->Q (.loc a,b)):W (f (k+3) "creases_at" [SH w h c,P x y] l) Q:=by
 rw [Sb,W_fin]
 simp only [bK,bZ,aX,aM,aL,aE,aF]
 rw [Fo,W_fin]
 simp only [w_mRet,aX,aM,aL,aU,aE,aS,Aw,Gk,Vs,Vt]
 refine fR (xs:=(mv x y (cN x)).map PP) (p:=fun d=>bQ c (cV d)) (v:=fun d=>d) ?_
 simp only [w_iSeq,aX,aM,aL,aE,aF]
 refine FN k x y _ _ fun a n j i o=>?_
 refine (d8 i).mpr ⟨iP i,rfl,?_,fun d b hd e=>?_,fun d b hd _ e=>?_,fun b e m=>?_⟩
 ·rw [Vm,VS]
  unfold mv cN
  rw [Vm]
  split<;>decide
 ·obtain ⟨u,v,rfl⟩:=k9 hd
  simp only [VZ,V2,cM,aU,aE,aF]
  refine (Ah (aV (j.trans e) (bL _ _)) (eB (u,v))).mpr ?_
  simp only [Vy,if_false]
  exact ⟨Gj c (u,v),VF _⟩
 ·simp only [VZ,V2,aE,aF]
  exact ⟨trivial,VF _⟩
 ·refine H _ _ ((bA _ _).trans (j.trans e)) ?_
  rw [m,pC (bQ c)]
theorem Gm (a:Hm)(q:Int×Int):∀ ps:List (Int×Int),kS a (PP q) (ps.map PP)=some (ps.map fun p=>p == q)
 | []=>rfl
 | p::ps=>by
  rw [VE,VE]
  simp only [kS,Gm a q ps]
  rw [Ab 6]
  rfl
theorem TF {b:Hm}{a:Nat}{ps:List (Int×Int)}{q:Int×Int}{Q:D×Hm->Prop}(h:b[a]? = some (.lst (ps.map PP)))(d:q∈ps)(hz:ps.length<=VA):W (n8 (.loc a) [PP q] b) Q↔Q (.int (ps.idxOf q:Nat),b):=by
 have e:(ps.map fun p=>p == q).findIdx id=ps.idxOf q:=by
  rw [List.findIdx_map];rfl
 have c:ps.idxOf q<ps.length:=a1H d
 simp only [n8,h,Gm,VJ]
 rw [e,Vm,if_pos ⟨c,hz⟩]
 exact W_some
theorem TH {es:List (Int×Int)}(d:es.Nodup){i:Nat}(a:i<es.length):es.idxOf (es.getD i (0,0))=i:=by
 have e:es.getD i (0,0)=es[i]:=by simp [Wo,a]
 rw [e]
 have b:es.idxOf es[i]<es.length:=a1H (Y7 a)
 have c:es[es.idxOf es[i]]=es[i]:=List.getElem_idxOf b
 rcases YZ (es.idxOf es[i]) i with h|h|h
 ·exact absurd c ((WQ.mp d) _ i b a h)
 ·exact h
 ·exact absurd c.symm ((WQ.mp d) i _ a b h)
theorem Gn {es:List (Int×Int)}(d:es.Nodup)(m:Int×Int->Bool):(es.filter m).map (fun q=>((es.idxOf q:Nat):Int))=jF (es.map m):=by
 have b:es.filter m=((Wc es.length).filter fun i=>m (es.getD i (0,0))).map fun i=>es.getD i (0,0):=by
  conv=>lhs;rw [<- uV es (0,0)]
  rw [List.filter_map]
  rfl
 unfold jF
 rw [b,VN,Vm]
 have c:(Wc es.length).filter (fun i=>m (es.getD i (0,0)))=(Wc es.length).filter fun i=>(es.map m).getD i false:=by
  refine List.filter_congr fun i a=>?_
  have a:=WT.mp a
  simp [Wo,a]
 rw [<- c]
 refine YE fun i a=>?_
 have a:=WT.mp (X9.mp a).1
 show ((es.idxOf (es.getD i (0,0)):Nat):Int)=_
 rw [TH d a]
theorem TJ (x y:Int){l:List (Int×Int)}(h:l.Nodup):(mv x y l).Nodup:=by
 unfold mv
 show List.Pairwise _ _
 rw [a0M]
 refine a5d (fun {a b} c e=>c ?_) h
 simp only [a2q] at e ⊢
 omega
theorem TK (x:Int):(cN x).Nodup:=by
 unfold cN
 split<;>decide
theorem Gp (x:Int):(cN x).length=8\/(cN x).length=4:=by
 unfold cN
 split
 ·exact .inl rfl
 ·exact .inr rfl
theorem TL (is:List Int):iV (is.map D.int) (some 1) none=(is.drop 1).map D.int:=by
 cases is with
 | nil=>rfl
 | cons a l=>
  unfold iV
  rw [show (1:Int)=((1:Nat):Int) from rfl,HT.sIx_nat,HT.sIx_none,Vm,a1F (by simp),<- List.map_drop,a2t (by rw [Vm,Z0];omega)]
theorem TM (is:List Int):iV (is.map D.int) none (some 1)=(is.take 1).map D.int:=by
 cases is with
 | nil=>rfl
 | cons a l=>
  unfold iV
  rw [show (1:Int)=((1:Nat):Int) from rfl,HT.sIx_nat,HT.sIx_none,Vm,a1F (by simp),a4o,a2G,List.map_take]
noncomputable def mX (is a:List Int):List D:=(is.zip a).map PP
theorem TN {e:Hm}{a b:Nat}{is d:List Int}(j:e[a]? = some (.lst (is.map D.int)))(l:e[b]? = some (.lst (d.map D.int))):∀ c i,e <+: c->qL (.loc a) (.loc b) c i=some (mX is d)[i]?:=fun c i h=>by
 simp only [qL,bF,aV h j,aV h l,VJ,VT]
 unfold mX List.zip
 rw [V0,V0,V0,a2J]
 cases is[i]?<;>cases d[i]?<;>rfl
theorem TQ (k:Nat)(w h:Int)(l:List ((Int×Int)×Str))(x y:Int)(O:Hm)(Q:D×Hm->Prop)(H:∀ a b,O <+: b->b[a]? = some (.lst ((mW ((mv x y (cN x)).map (bQ l))).map D.int))->Q (.loc a,b)):W (f (k+4) "gaps_at" [SH w h l,P x y] O) Q:=by
 have E:=Gp x
 have n:(mv x y (cN x)).length=(cN x).length:=by unfold mv;rw [Vm]
 have hnd:=TJ x y (TK x)
 rw [Se,W_fin]
 simp only [bK,bZ,aX,aM,aL,aE,aF]
 refine FN (k+1) x y _ _ fun a1 μ1 p1 R l1=>?_
 simp only [Vs,Vt,aE,aF]
 refine TC k w h l x y _ _ fun a2 J L u=>?_
 simp only [Vs,Vt]
 have e:=aV L R
 generalize hes:mv x y (cN x)=es at e u n hnd H
 have G:(es.filter (bQ l)).length<=8:=Wu (WJ _ _) (by omega)
 refine fR (xs:=(es.filter (bQ l)).map PP) (p:=fun _=>true) (v:=fun d=>.int ((es.idxOf (cV d):Nat):Int)) ?_
 simp only [w_iSeq,aE,aF]
 refine (d8 u).mpr ⟨iP u,rfl,by rw [Vm,VS];omega,fun d b hd j=>w_mTrue.mpr ⟨rfl,VF _⟩,fun d b hd _ j=>?_,fun c M T=>?_⟩
 ·obtain ⟨q,Y,rfl⟩:=VY.mp hd
  refine j5 ?_
  simp only [VZ,V2,aE,aF]
  refine ⟨j6 (aV j e),?_⟩
  simp only [aM,aL,aE,aF]
  exact (TF (aV j e) (X9.mp Y).1 (by rw [VS];omega)).mpr ⟨rfl,VF _⟩
 ·have m:c[J.length]? = some (.lst ((jF (es.map (bQ l))).map D.int)):=by
   rw [T,mU,VN,<- Gn hnd,VN]
   rfl
  have I:(jF (es.map (bQ l))).length<=8:=by
   rw [<- Gn hnd,Vm]
   exact G
  generalize hix:jF (es.map (bQ l))=is at m I
  simp only [aU]
  refine E7 ?_
  simp only [aE,aF,uR,aS,uQ]
  refine ⟨_,rfl,_,m,?_⟩
  rw [TL]
  have K:=aV (bA c (C.lst ((is.drop 1).map D.int))) m
  have p:=aV (M.trans (bA c (C.lst ((is.drop 1).map D.int)))) e
  refine fR (xs:=(is.take 1).map D.int) (p:=fun _=>true) (v:=fun d=>.int (kB d+(es.length:Int))) ?_
  simp only [w_iSeq]
  refine E7 ?_
  simp only [aE,aF,uR,aS,uQ]
  refine ⟨_,rfl,_,K,?_⟩
  rw [TM]
  refine (d8 (bL _ _)).mpr ⟨iP (bL _ _),rfl,by rw [Vm,XY,VS];omega,fun d b hd j=>w_mTrue.mpr ⟨rfl,VF _⟩,fun d b hd _ j=>?_,fun o p5 U=>?_⟩
  ·obtain ⟨i,_,rfl⟩:=Am hd
   simp only [VZ,V2,aU,aE,aF,aX,aM,aL]
   refine (pA (aV ((bA _ _).trans j) p)).mpr ?_
   simp only [cU,Vm]
   exact ⟨rfl,VF _⟩
  ·have N:=(bA (c++[C.lst ((is.drop 1).map D.int)]) (C.lst ((is.take 1).map D.int))).trans p5
   have v:o[(c++[C.lst ((is.drop 1).map D.int)]++[C.lst ((is.take 1).map D.int)]).length]? = some (.lst (((is.take 1).map fun s=>s+(es.length:Int)).map D.int)):=by
    rw [U,mU,VN,VN]
    rfl
   have z:=aV N (bL c (C.lst ((is.drop 1).map D.int)))
   refine (EY z v (by rw [Vm,Vm,Vm,Z0,XY,VS];omega)).mpr ?_
   rw [<- Wq]
   simp only [Vs,Vt,aU,aS,aX,aM,aL,aE,aF]
   have r:=N.trans (bA o (C.lst ((is.drop 1++(is.take 1).map fun s=>s+(es.length:Int)).map D.int)))
   refine (pA (aV r p)).mpr ?_
   rw [Vm]
   refine (jB (by omega) (by omega)).mpr ?_
   simp only [Vs,Vt,w_mRet]
   have A:=aV r K
   have B:=bL o (C.lst ((is.drop 1++(is.take 1).map fun s=>s+(es.length:Int)).map D.int))
   generalize hjs:is.drop 1++(is.take 1).map (fun s=>s+(es.length:Int))=js at A B r
   have Z:(mX is js).length<=8:=by
    unfold mX
    rw [Vm,a1w]
    omega
   have h8:8 / (es.length:Int)=1\/8 / (es.length:Int)=2:=by
    rcases E with h|h
    ·left;rw [n,h];rfl
    ·right;rw [n,h];rfl
   refine Af (xs:=mX is js) (x:=fun d=>[some (.int (cV d).1),some (.int (cV d).2)]) (p:=fun _=>true) (v:=fun d=>.int (((cV d).2 - (cV d).1) * (8 / (es.length:Int)))) ?_
   refine Rz ?_
   simp only [aM,aL,aE,aF]
   refine ⟨_,_,_,_,rfl,A,B,TN A B,?_,by rw [VS];omega,fun d b hd=>?_,fun d b hd j=>w_mTrue.mpr ⟨rfl,VF _⟩,fun d b hd _ j=>?_,fun μ8 p8 X=>?_⟩
   ·unfold mX
    simp only [Vm,a1w]
   ·obtain ⟨q,_,rfl⟩:=VY.mp hd
    rfl
   ·obtain ⟨q,_,rfl⟩:=VY.mp hd
    simp only [VZ,V2,aU,aE,aF,oY]
    exact (dU (.inr (by omega))).mpr ⟨rfl,VF _⟩
   ·refine H _ _ (p1.trans (L.trans (M.trans ((bA _ _).trans (r.trans p8))))) ?_
    rw [X,mU]
    unfold mX mW
    rw [hix,Vm,hjs,VN,VN]
    rfl
theorem TR {a:Type}{l A B:List a}{x:a}{q:a->Bool}(c:l=A++x::B)(b:∀ y∈A,q y=false)(d:q x=true):l.find? q=some x:=by
 rw [c,a0R]
 have:A.find? q=none:=YM.mpr fun y e=>by rw [b y e];exact V7
 rw [this,List.find?_cons_of_pos d]
 rfl
theorem TU {a:Type}{l:List a}{i:Nat}{x:a}(h:l[i]? = some x):l=l.take i++x::l.drop (i+1):=by
 obtain ⟨b,rfl⟩:=Vx.mp h
 rw [<- ZJ b,a2H]
noncomputable def fG (a:List ((Int×Int)×Str))(p:Int×Int):Bool:=eL p&&!(gO (bQ a) p.1 p.2)
noncomputable def rF:Option (Int×Int)->D
 | none=>.non
 | some p=>PP p
theorem TV (bs:List Bool):(mW bs).length<=bs.length:=by
 unfold mW
 rw [Vm,a1w]
 have:(jF bs).length<=bs.length:=by
  unfold jF
  rw [Vm]
  exact Wu (WJ _ _) (by simp)
 omega
theorem TX {p:Int×Int}(h:eL p=true):p.1 % 2=0/\p.1 % 4=p.2 % 4:=by
 unfold eL at h
 simpa using h
theorem u3 (k:Nat){w h:Int}(hw:1<=w/\w<=3)(M:1<=h/\h<=3)(j:List ((Int×Int)×Str))(G:Hm)(Q:D×Hm->Prop)(H:∀ l,G <+: l->Q (rF ((cR w h).find? (fG j)),l)):W (f (k+5) "barred" [SH w h j] G) Q:=by
 rw [Sf,W_fin]
 simp only [bK,fF,w_iSeq,aX,aM,aL,aU,aE,aS,rC,rD]
 refine TB (k+2) w h hw M _ _ fun a u A r=>?_
 refine (d8 r).mpr ?_
 have L:(cR w h).find? (fG j)=((cR w h).filter eL).find? fun p=>!(gO (bQ j) p.1 p.2):=by
  rw [List.find?_filter]
  congr 1
  funext p
  unfold fG
  cases eL p<;>cases gO (bQ j) p.1 p.2<;>simp
 rw [L] at H
 generalize hcs:(cR w h).filter eL=cs at r H
 have s:∀ p∈cs,eL p=true:=fun p m=>by rw [<- hcs] at m;exact (X9.mp m).2
 refine j4 (xs:=cs.map PP) (fun i o l=>u <+: l/\(∀ q∈cs.take i,(!(gO (bQ j) q.1 q.2))=false)/\∃ o1,o=[some (SH w h j),o1]) ⟨VF _,fun q n=>by simp at n,none,rfl⟩ (fun i o l K=>aV K.1 r) ?_ ?_
 ·rintro i d o v hd ⟨m,hok,o1,rfl⟩
  obtain ⟨⟨x,y⟩,n,rfl⟩:=pD hd
  have hc:=TX (s _ (V8 n))
  refine ⟨_,rfl,?_⟩
  simp only [Vs,Vt,dB,oX,iO,aX,aM,aL,aE,aF]
  refine TQ k w h j x y _ _ fun b O B I=>?_
  refine SR (k+2) b _ ?_ _ _ I fun R E=>?_
  ·have J:=TV ((mv x y (cN x)).map (bQ j))
   rw [Vm] at J
   have T:(mv x y (cN x)).length=(cN x).length:=by unfold mv;rw [Vm]
   have:=Gp x
   omega
  rw [Tx hc.1 hc.2]
  simp only [jC]
  cases z:gO (bQ j) x y with
  | true=>
   simp only [W6,Vy,if_false,cK]
   refine ⟨m.trans (B.trans E),fun q c=>?_,_,rfl⟩
   rw [Zy,n] at c
   rcases WU.mp c with c|c
   ·exact hok q c
   ·have:q=(x,y):=by simpa using c
    rw [this,z]
    rfl
  | false=>
   simp only [XB,if_true,w_mRet,aE,aF]
   have e:=TR (q:=fun p=>!(gO (bQ j) p.1 p.2)) (TU n) hok (by dsimp only;rw [z];rfl)
   rw [e] at H
   exact H _ (A.trans (m.trans (B.trans E)))
 ·rintro o v ⟨m,hok,o1,rfl⟩
  simp only [w_mRet,aS]
  rw [Vm,Y5] at hok
  have e:cs.find? (fun p=>!(gO (bQ j) p.1 p.2))=none:=YM.mpr fun y N=>by rw [hok y N];exact V7
  rw [e] at H
  exact H _ (A.trans m)
structure Ly where
 a:Int
 b:Int
 c:Int
 d:Int
 e:Int
 g:Int
 deriving DecidableEq
noncomputable abbrev LD (A:Ly):D:=.tup [.int A.a,.int A.b,.int A.c,.int A.d,.int A.e,.int A.g]
noncomputable def Dih (A:Ly):Prop:=(A.b=0/\A.c=0/\(A.a=1\/A.a = -1)/\(A.d=1\/A.d = -1))\/(A.a=0/\A.d=0/\(A.b=1\/A.b = -1)/\(A.c=1\/A.c = -1))
theorem Dih.sm {A:Ly}(h:Dih A):(-1<=A.a/\A.a<=1)/\(-1<=A.b/\A.b<=1)/\(-1<=A.c/\A.c<=1)/\(-1<=A.d/\A.d<=1):=by
 unfold Dih at h
 omega
noncomputable def bC (A:Ly)(p:Int×Int):Int×Int:=(A.a * p.1+A.b * p.2+A.e,A.c * p.1+A.d * p.2+A.g)
noncomputable def eW (A B:Ly):Ly:=⟨B.a * A.a+B.b * A.c,B.a * A.b+B.b * A.d,B.c * A.a+B.d * A.c,B.c * A.b+B.d * A.d,B.a * A.e+B.b * A.g+B.e,B.c * A.e+B.d * A.g+B.g⟩
noncomputable def cC:Ly:=⟨1,0,0,1,0,0⟩
noncomputable def lF (e:Int×Int):Ly:=
 ⟨(cE (1,0) e).1 - (cE (0,0) e).1,(cE (0,1) e).1 - (cE (0,0) e).1,(cE (1,0) e).2 - (cE (0,0) e).2,(cE (0,1) e).2 - (cE (0,0) e).2,(cE (0,0) e).1,(cE (0,0) e).2⟩
theorem Ly.ext' {A B:Ly}(h1:A.a=B.a)(a:A.b=B.b)(b:A.c=B.c)(c:A.d=B.d)(d:A.e=B.e)(e:A.g=B.g):A=B:=by
 cases A;cases B;simp_all
theorem Gq (e:Int×Int):Dih (lF e):=by
 obtain ⟨x,y⟩:=e
 unfold Dih lF cE
 dsimp only
 split<;>split<;>dsimp only<;>omega
theorem Ax (e p:Int×Int):bC (lF e) p=cE p e:=by
 obtain ⟨x,y⟩:=e
 obtain ⟨u,v⟩:=p
 unfold bC lF cE
 dsimp only
 split<;>split<;>dsimp only
 ·rw [show (0:Int)+(x - y) - (0+(x - y))=0 by omega,show (1:Int)+(x - y) - (0+(x - y))=1 by omega,show (1:Int) - (x - y) - (0 - (x - y))=1 by omega,show (0:Int) - (x - y) - (0 - (x - y))=0 by omega];refine WS ?_ ?_<;>dsimp only<;>omega
 ·rw [show x+y - 0 - (x+y - 0)=0 by omega,show x+y - 1 - (x+y - 0) = -1 by omega];refine WS ?_ ?_<;>dsimp only<;>omega
 ·rw [show (1:Int) - 0=1 by rfl,show 2 * y - 1 - (2 * y - 0) = -1 by omega,show (0:Int) - 0=0 by rfl,show 2 * y - 0 - (2 * y - 0)=0 by omega];refine WS ?_ ?_<;>dsimp only<;>omega
 ·rw [show 2 * x - 1 - (2 * x - 0) = -1 by omega,show (1:Int) - 0=1 by rfl,show 2 * x - 0 - (2 * x - 0)=0 by omega,show (0:Int) - 0=0 by rfl];refine WS ?_ ?_<;>dsimp only<;>omega
theorem Gr (A B:Ly)(p:Int×Int):bC (eW A B) p=bC B (bC A p):=by
 unfold bC eW
 refine WS ?_ ?_<;>dsimp only<;>grind
theorem TY (A:Ly):eW cC A=A:=by
 unfold eW cC
 exact Ly.ext' (by dsimp only;omega) (by dsimp only;omega) (by dsimp only;omega) (by dsimp only;omega) (by dsimp only;omega) (by dsimp only;omega)
theorem TZ (A B E:Ly):eW (eW A B) E=eW A (eW B E):=by
 unfold eW
 refine Ly.ext' ?_ ?_ ?_ ?_ ?_ ?_<;>dsimp only<;>grind
theorem Ay:Dih cC:=.inl ⟨rfl,rfl,.inl rfl,.inl rfl⟩
theorem lG {x y:Int}(a:x=1\/x = -1)(b:y=1\/y = -1):x * y=1\/x * y = -1:=by
 rcases a with rfl|rfl<;>rcases b with rfl|rfl<;>decide
theorem T3 {A B:Ly}(e:Dih A)(h:Dih B):Dih (eW A B):=by
 unfold Dih eW
 dsimp only
 rcases e with ⟨c,d,a,b⟩|⟨c,d,a,b⟩<;>rcases h with ⟨k1,k2,k3,k4⟩|⟨k1,k2,k3,k4⟩<;>rw [c,d,k1,k2]<;>simp only [Int.mul_zero,Int.zero_mul,a2L,Int.zero_add,true_and]
 ·exact .inl ⟨lG k3 a,lG k4 b⟩
 ·exact .inr ⟨lG k3 b,lG k4 a⟩
 ·exact .inr ⟨lG k3 a,lG k4 b⟩
 ·exact .inl ⟨lG k3 b,lG k4 a⟩
theorem T4 {A B:Ly}(h:∀ p,bC A p=bC B p):A=B:=by
 have a:=h (0,0)
 have b:=h (1,0)
 have c:=h (0,1)
 unfold bC at a b c
 simp only [a3Q] at a b c
 exact Ly.ext' (by omega) (by omega) (by omega) (by omega) (by omega) (by omega)
theorem Gs (p:Int×Int):bC cC p=p:=by
 unfold bC cC
 refine WS ?_ ?_<;>dsimp only<;>omega
theorem T5 (e:Int×Int):eW (lF e) (lF e)=cC:=T4 fun p=>by
 rw [Gr,Ax,Ax,Gs]
 exact FE p e.1 e.2
theorem T6 {a b c d e g:D}:([a,b,c,d,e,g]:List D).length<=VA:=by show (6:Nat)<=VA;decide
theorem Gu (k:Nat)(p q r:Int×Int)(a:Hm)(Q:D×Hm->Prop):W (f (k+1) "laying_by" [PP p,PP q,PP r] a) Q↔Q (LD ⟨q.1 - p.1,r.1 - p.1,q.2 - p.2,r.2 - p.2,p.1,p.2⟩,a):=by
 rw [Sh,W_fin]
 simp only [w_mRet,dP,aM,aL,aU,aE,aF,aS,gH,hZ,oY,T6,true_and]
theorem T7 (k:Nat)(x y:Int)(a:Hm)(Q:D×Hm->Prop):W (f (k+3) "mirror_in" [P x y] a) Q↔Q (LD (lF (x,y)),a):=by
 rw [Si,W_fin]
 simp only [w_mRet,aX,aM,aL,dP,aE,aS,fS,true_and,FD,Gu]
 rfl
theorem lH {i j:Int}(h:-1<=i/\i<=1){a:Hm}{Q:D×Hm->Prop}:W (bH (.int i) (.int j) a) Q↔Q (.int (i * j),a):=dU (.inl ⟨by omega,by omega⟩)
theorem Gv (k:Nat)(A:Ly)(h:Dih A)(x y:Int)(a:Hm)(Q:D×Hm->Prop):W (f (k+1) "led" [LD A,P x y] a) Q↔Q (PP (bC A (x,y)),a):=by
 obtain ⟨b,c,d,e⟩:=h.sm
 rw [Sj,W_fin]
 simp only [bK,bZ,w_mRet,dP,aM,aL,aU,aE,aF,aS,gH,hZ,Rj,Rk,Rl,Rm,Rn,Ro,Vs,Vt,lH b,lH c,lH d,lH e,cU,fS,true_and]
 rfl
theorem T8 (k:Nat)(A B:Ly)(b:Dih A)(c:Dih B)(a:Hm)(Q:D×Hm->Prop):W (f (k+2) "then" [LD A,LD B] a) Q↔Q (LD (eW A B),a):=by
 rw [Sk,W_fin]
 simp only [w_mRet,aX,aM,aL,dP,aE,aF,aS,fS,true_and,Gv _ A b,Gv _ B c,Gu]
 have e:(⟨(bC B (bC A (1,0))).1 - (bC B (bC A (0,0))).1,(bC B (bC A (0,1))).1 - (bC B (bC A (0,0))).1,(bC B (bC A (1,0))).2 - (bC B (bC A (0,0))).2,(bC B (bC A (0,1))).2 - (bC B (bC A (0,0))).2,(bC B (bC A (0,0))).1,(bC B (bC A (0,0))).2⟩:Ly)=eW A B:=by
  unfold bC eW
  refine Ly.ext' ?_ ?_ ?_ ?_ ?_ ?_<;>dsimp only<;>grind
 rw [<- e]
noncomputable def st (m:Int×Int->Bool)(e:Int×Int)(A:Ly):Ly:=if m e then eW (lF e) A else A
theorem u6 (m:Int×Int->Bool)(e:Int×Int)(A:Ly):st m e (st m e A)=A:=by
 unfold st
 cases m e with
 | false=>rfl
 | true=>
  simp only [if_true]
  rw [<- TZ,T5,TY]
theorem T9 {m:Int×Int->Bool}{e:Int×Int}{A:Ly}(h:Dih A):Dih (st m e A):=by
 unfold st
 split
 ·exact T3 (Gq e) h
 ·exact h
noncomputable def iD (m:Int×Int->Bool)(e p:Int×Int):Int×Int:=if m e then cE p e else p
theorem Ua (m:Int×Int->Bool)(e p:Int×Int):iD m e (iD m e p)=p:=by
 unfold iD
 split
 ·exact FE p e.1 e.2
 ·rfl
theorem Gw (m:Int×Int->Bool)(e p:Int×Int)(A:Ly):bC (st m e A) p=bC A (iD m e p):=by
 unfold st iD
 split
 ·rw [Gr,Ax]
 ·rfl
noncomputable def fU (m:Int×Int->Bool)(es:List (Int×Int))(A:Ly):Ly:=es.foldl (fun A e=>st m e A) A
theorem Gx (m:Int×Int->Bool)(p:Int×Int):∀ (es:List (Int×Int))(A:Ly),bC (fU m es A) p=bC A (es.foldr (iD m) p)
 | [],A=>rfl
 | e::es,A=>by
  show bC (fU m es (st m e A)) p=_
  rw [Gx m p es,Gw]
  rfl
theorem Gy (m:Int×Int->Bool):∀ (es:List (Int×Int))(p:Int×Int),es.foldr (iD m) (es.foldl (fun p e=>iD m e p) p)=p
 | [],p=>rfl
 | e::es,p=>by
  rw [XG,List.foldr_cons,Gy m es,Ua]
theorem Gz (m:Int×Int->Bool):∀ (es:List (Int×Int)){A B:Ly},fU m es A=fU m es B->A=B
 | [],_,_,h=>h
 | e::es,A,B,h=>by
  have a:st m e A=st m e B:=Gz m es h
  rw [<- u6 m e A,a,u6]
theorem Ub {A B:Ly}(x y:Int)(a:bC A (x,y)=bC B (x,y))(h1:bC A (x+2,y+1)=bC B (x+2,y+1))(b:bC A (x+1,y+-2)=bC B (x+1,y+-2)):A=B:=by
 unfold bC at a h1 b
 simp only [a3Q,Int.mul_add] at a h1 b
 have c:A.a=B.a:=by omega
 have d:A.b=B.b:=by omega
 have hc:A.c=B.c:=by omega
 have hd:A.d=B.d:=by omega
 rw [c,d,hc,hd] at a
 exact Ly.ext' c d hc hd (by omega) (by omega)
theorem GA {e:Int×Int}(h:fT e.1 e.2=true)(p:Int×Int):cE p e=lC p (d4 e.1 e.2):=by
 unfold fT at h
 simp only [Yb,Vq,beq_iff_eq] at h
 unfold cE d4 lC
 rcases h with h|h
 ·rw [if_pos h.1,if_neg (show ¬ e.2 % 4=0 by omega),if_neg (show ¬ e.1 % 4=0 by omega)]
  by_cases z:e.1 % 4=e.2 % 4
  ·rw [if_pos z,if_pos z];rfl
  ·rw [if_neg z,if_neg z];rfl
 ·rw [if_neg (show ¬ e.1 % 2=1 by omega)]
  by_cases z:e.2 % 4=0
  ·rw [if_pos z,if_pos z];rfl
  ·rw [if_neg z,if_neg z,if_pos (show e.1 % 4=0 by omega)];rfl
theorem GB {x y a b:Int}(e:x % 4=a % 4)(i:y % 4=b % 4)(h:fT a b=true):fT x y=true:=by
 have c:x % 2=a % 2:=by omega
 have d:y % 2=b % 2:=by omega
 unfold fT at *
 rw [c,d,e,i]
 exact h
theorem Uc {x y:Int}(c:x % 2=0)(b:x % 4=y % 4):∀ e∈mv x y (cN x),fT e.1 e.2=true:=by
 intro e a
 obtain ⟨d,hd,rfl⟩:=VY.mp a
 unfold cN at hd
 split at hd
 ·exact GB (a:=d.1) (b:=d.2) (by dsimp only;omega) (by dsimp only;omega) ((by decide:∀ d∈E8,fT d.1 d.2=true) d hd)
 ·exact GB (a:=2+d.1) (b:=2+d.2) (by dsimp only;omega) (by dsimp only;omega) ((by decide:∀ d∈F4,fT (2+d.1) (2+d.2)=true) d hd)
theorem GC {m:Int×Int->Bool}:∀ {es:List (Int×Int)},(∀ e∈es,fT e.1 e.2=true)->∀ p,es.foldl (fun p e=>iD m e p) p=pF m es p
 | [],_,p=>rfl
 | e::es,h,p=>by
  have b:=GC (m:=m) (es:=es) (fun x a=>h x (VI _ a)) (iD m e p)
  rw [XG,b]
  unfold iD pF
  rw [GA (h e (VO ..)),XG]
theorem Ud {m:Int×Int->Bool}{x y:Int}(l:x % 2=0)(b:x % 4=y % 4)(j:gO m x y=true)(A:Ly):fU m (mv x y (cN x)) A=A:=by
 have h:=Uc l b
 generalize hes:mv x y (cN x)=es at h
 have a:∀ d∈D3,bC (fU m es A) (x+d.1,y+d.2)=bC A (x+d.1,y+d.2):=fun d hd=>by
  have i:pF m es (x+d.1,y+d.2)=(x+d.1,y+d.2):=by
   have:=WZ.mp j d hd
   rw [hes] at this
   simpa using this
  rw [Gx]
  have e:=Gy m es (x+d.1,y+d.2)
  rw [GC h,i] at e
  rw [e]
 have c:=a (0,0) (by decide)
 rw [show x+((0,0):Int×Int).1=x from a2L x,show y+((0,0):Int×Int).2=y from a2L y] at c
 exact Ub x y c (a (2,1) (by decide)) (a (1,-2) (by decide))
noncomputable def dD (e q:Int×Int):Int×Int:=match d5 e.1 e.2 with
 | [a,b]=>if q=a then b else a
 | _=>q
noncomputable def iS (L:Int×Int->Ly)(m:Int×Int->Bool)(e:Int×Int):Prop:=∀ q∈d5 e.1 e.2,L (dD e q)=st m e (L q)
noncomputable def gP (q:Int×Int)(es:List (Int×Int)):Int×Int:=es.foldl (fun q e=>dD e q) q
noncomputable def gQ:Int×Int->List (Int×Int)->Bool
 | _,[]=>true
 | q,e::es=>decide (q∈d5 e.1 e.2)&&gQ (dD e q) es
theorem GD (x y:Int):∃ a b,d5 x y=[a,b]:=by
 unfold d5
 split
 ·exact ⟨_,_,rfl⟩
 ·split<;>exact ⟨_,_,rfl⟩
theorem GF {e q:Int×Int}(j:q∈d5 e.1 e.2):dD e q∈d5 e.1 e.2/\dD e (dD e q)=q/\∀ p∈d5 e.1 e.2,p=q\/p=dD e q:=by
 obtain ⟨a,b,h⟩:=GD e.1 e.2
 have c:∀ r,dD e r=if r=a then b else a:=fun r=>by unfold dD;rw [h]
 rw [h] at j ⊢
 simp only [VP,Xd,or_false] at j ⊢
 by_cases z:q=a
 ·subst z
  have d:dD e q=b:=by rw [c,if_pos rfl]
  rw [d]
  refine ⟨.inr rfl,?_,fun p i=>i⟩
  rw [c]
  split
  ·assumption
  ·rfl
 ·have d:dD e q=a:=by rw [c,if_neg z]
  have l:q=b:=j.resolve_left z
  rw [d]
  exact ⟨.inl rfl,by rw [c,if_pos rfl,l],fun p i=>by rw [l];exact i.symm⟩
theorem Az {L:Int×Int->Ly}{m:Int×Int->Bool}:∀ (es:List (Int×Int))(q:Int×Int),(∀ e∈es,iS L m e)->gQ q es=true->L (gP q es)=fU m es (L q)
 | [],q,_,_=>rfl
 | e::es,q,h,hb=>by
  rw [gQ,Vq,decide_eq_true_eq] at hb
  show L (gP (dD e q) es)=fU m es (st m e (L q))
  rw [Az es (dD e q) (fun x a=>h x (VI _ a)) hb.2,h e (VO ..) q hb.1]
theorem GG:∀ (A B:List (Int×Int))(q:Int×Int),gQ q (A++B)=(gQ q A&&gQ (gP q A) B)
 | [],B,q=>by simp [gQ,gP]
 | e::A,B,q=>by
  show (decide (q∈d5 e.1 e.2)&&gQ (dD e q) (A++B))=((decide (q∈d5 e.1 e.2)&&gQ (dD e q) A)&&gQ (gP (dD e q) A) B)
  rw [GG A B (dD e q),a4r]
theorem Ue {L:Int×Int->Ly}{m:Int×Int->Bool}{A B:List (Int×Int)}{e q:Int×Int}(o:∀ x∈A,iS L m x)(r:∀ x∈B,iS L m x)(i:gQ q (A++e::B)=true)(a:gP q (A++e::B)=q)(d:fU m (A++e::B) (L q)=L q):iS L m e:=by
 rw [GG,Vq] at i
 obtain ⟨l,b⟩:=i
 rw [gQ,Vq,decide_eq_true_eq] at b
 obtain ⟨b,n⟩:=b
 have s:=Az A q o l
 have j:=Az B (dD e (gP q A)) r n
 have c:gP (dD e (gP q A)) B=q:=by
  unfold gP at a ⊢
  rw [a0Q,XG] at a
  exact a
 have h:fU m B (st m e (fU m A (L q)))=L q:=by
  unfold fU at d ⊢
  rw [a0Q,XG] at d
  exact d
 rw [c,<- h,<- s] at j
 have fin:L (dD e (gP q A))=st m e (L (gP q A)):=(Gz m B j).symm
 obtain ⟨o1,u,v⟩:=GF b
 intro p a
 rcases v p a with rfl|rfl
 ·exact fin
 ·rw [u,fin,u6]
noncomputable def rG (c:Int×Int):List (Int×Int):=mv c.1 c.2 (cN c.1)
noncomputable def u7 (c:Int×Int):Int×Int:=if c.1 % 4=0 then (c.1+2,c.2 - 1) else (c.1+1,c.2)
noncomputable def u9 (K:List (Int×Int))(c:Int×Int):List (Int×Int):=match (rG c).filter fun e=>!K.contains e with
 | [e]=>e::K
 | _=>K
noncomputable def AA (cs:List (Int×Int)):Nat->List (Int×Int)->List (Int×Int)
 | 0,K=>K
 | n+1,K=>AA cs n (cs.foldl u9 K)
noncomputable def vB (c:Int×Int):Bool:=gQ (u7 c) (rG c)&&decide (gP (u7 c) (rG c)=u7 c)
theorem Ug {L:Int×Int->Ly}{m:Int×Int->Bool}{K:List (Int×Int)}{c:Int×Int}(d:∀ e∈K,iS L m e)(hc:vB c=true)(o:∀ A,fU m (rG c) A=A):∀ e∈u9 K c,iS L m e:=by
 unfold u9
 split
 ·rename_i e h
  obtain ⟨A,B,i,l,p,n⟩:=List.filter_eq_cons_iff.mp h
  rw [vB,Vq,decide_eq_true_eq] at hc
  have b:∀ x,¬ (!K.contains x)=true->x∈K:=fun x a=>by simpa using a
  intro x a
  rcases VP.mp a with rfl|a
  ·refine Ue (A:=A) (B:=B) (q:=u7 c) (fun y j=>d y (b y (l y j))) (fun y j=>d y (b y (List.filter_eq_nil_iff.mp n y j))) ?_ ?_ ?_
   ·rw [<- i];exact hc.1
   ·rw [<- i];exact hc.2
   ·rw [<- i];exact o _
  ·exact d x a
 ·exact d
theorem GH {L:Int×Int->Ly}{m:Int×Int->Bool}{cs:List (Int×Int)}(hc:∀ c∈cs,vB c=true/\∀ A,fU m (rG c) A=A):∀ (n:Nat){K:List (Int×Int)},(∀ e∈K,iS L m e)->∀ e∈AA cs n K,iS L m e
 | 0,K,hK=>hK
 | n+1,K,hK=>by
  refine GH hc n ?_
  have go:∀ (l:List (Int×Int)),(∀ c∈l,c∈cs)->∀ {K:List (Int×Int)},(∀ e∈K,iS L m e)->∀ e∈l.foldl u9 K,iS L m e:=by
   intro l
   induction l with
   | nil=>exact fun _ K h=>h
   | cons c l j=>
    intro a K h
    obtain ⟨b,d⟩:=hc c (a c (VO ..))
    exact j (fun x i=>a x (VI _ i)) (Ug h b d)
  exact go cs (fun _ h=>h) hK
noncomputable abbrev Tr:=List ((Int×Int)×(Int×Int)×(Int×Int))
noncomputable def pH (q:Int×Int):List (Int×Int):=[(q.1 - 1,q.2),(q.1,q.2 - 1),(q.1,q.2+1),(q.1+1,q.2)]
noncomputable def j8 (p:Int×Int):Bool:=if p.1 % 2=1 then p.2 % 2 == 1 else p.2 % 2 == 0&&!(p.1 % 4 == p.2 % 4)
noncomputable def rH (w h:Int)(p:Int×Int):Bool:=decide (0<p.1)&&decide (p.1<4 * w)&&(decide (0<p.2)&&decide (p.2<4 * h))
noncomputable def iT (w h:Int)(q:Int×Int):List (Int×Int):=((pH q).filter j8).filter (rH w h)
noncomputable def rJ (p:Int×Int):Bool:=if p.1 % 2=1 then p.2 % 4 == 2 else p.1 % 4 == 2&&p.2 % 2 == 1
noncomputable def pI (w h:Int):List (Int×Int):=(cR w h).filter rJ
noncomputable def first (w h:Int):Int×Int:=(pI w h).headD (0,0)
noncomputable def iE (a:Int×Int)(t:Tr):List (Int×Int):=a::t.map (·.1)
noncomputable def fV (a here:Int×Int)(s:List (Int×Int)×Tr)(e:Int×Int):List (Int×Int)×Tr:=
 if cE here e∈iE a s.2 then s else (s.1++[cE here e],s.2++[(cE here e,e,here)])
noncomputable def rK (w h:Int)(a:Int×Int)(s:List (Int×Int)×Tr):List (Int×Int)×Tr:=match s.1.getLast? with
 | none=>s
 | some here=>(iT w h here).foldl (fV a here) (s.1.dropLast,s.2)
noncomputable def eS (w h:Int)(a:Int×Int):Nat->List (Int×Int)×Tr
 | 0=>([a],[])
 | n+1=>rK w h a (eS w h a n)
noncomputable def eC (w h:Int):Tr:=(eS w h (first w h) 36).2
noncomputable def vC:List (Int×Int)->Tr->Bool
 | _,[]=>true
 | ks,(c,_,p)::t=>!ks.contains c&&ks.contains p&&vC (ks++[c]) t
theorem AB:∀ w∈[(1:Int),2,3],∀ h∈[(1:Int),2,3],(eS w h (first w h) 36).1=[]/\vC [first w h] (eC w h)=true/\(∀ t∈eC w h,t.2.2∈d5 t.2.1.1 t.2.1.2/\dD t.2.1 t.2.2=t.1)/\(∀ q∈bE w h,q∈iE (first w h) (eC w h))/\first w h=(bE w h).headD (0,0)/\2<=(eC w h).length/\(eC w h).length<=40:=by decide +kernel
theorem Uh:∀ w∈[(1:Int),2,3],∀ h∈[(1:Int),2,3],(∀ c∈(cR w h).filter eL,vB c=true)/\∀ e∈eA w h,e∈AA ((cR w h).filter eL) 13 ((eC w h).map (·.2.1)):=by decide +kernel
noncomputable abbrev Kv:=List ((Int×Int)×Ly)
noncomputable def bY (kvs:Kv)(q:Int×Int):Ly:=((kvs.find? fun p=>p.1 == q).map (·.2)).getD cC
theorem Ui {kvs:Kv}{q:Int×Int}(h:q∈kvs.map (·.1))(r:Kv):bY (kvs++r) q=bY kvs q:=by
 obtain ⟨p,a,b⟩:=VY.mp h
 unfold bY
 rw [a0R]
 cases z:kvs.find? fun p=>p.1 == q with
 | some x=>rfl
 | none=>
  have:=YM.mp z p a
  simp [b] at this
theorem Uj {kvs:Kv}{q:Int×Int}{A:Ly}(h:q∉kvs.map (·.1)):bY (kvs++[(q,A)]) q=A:=by
 unfold bY
 rw [a0R]
 have:kvs.find? (fun p=>p.1 == q)=none:=YM.mpr fun p a=>by
  intro z
  exact h (VY.mpr ⟨p,a,by simpa using z⟩)
 rw [this]
 simp
noncomputable def cI (m:Int×Int->Bool):Kv->Tr->Kv
 | kvs,[]=>kvs
 | kvs,(c,e,p)::t=>cI m (kvs++[(c,st m e (bY kvs p))]) t
theorem GI (m:Int×Int->Bool)(c e p:Int×Int):∀ (t:Tr)(kvs:Kv),cI m kvs (t++[(c,e,p)])=cI m kvs t++[(c,st m e (bY (cI m kvs t) p))]
 | [],kvs=>rfl
 | (c',e',p')::t,kvs=>GI m c e p t _
theorem AD (m:Int×Int->Bool):∀ (t:Tr)(kvs:Kv),(cI m kvs t).map (·.1)=kvs.map (·.1)++t.map (·.1)
 | [],kvs=>by simp [cI]
 | (c,e,p)::t,kvs=>by
  rw [cI,AD m t]
  simp
theorem GJ {kvs:Kv}(h:∀ p∈kvs,Dih p.2)(q:Int×Int):Dih (bY kvs q):=by
 unfold bY
 cases z:kvs.find? fun p=>p.1 == q with
 | none=>exact Ay
 | some x=>exact h x (ZI z)
theorem GK (m:Int×Int->Bool):∀ (t:Tr)(kvs:Kv),(∀ p∈kvs,Dih p.2)->∀ p∈cI m kvs t,Dih p.2
 | [],kvs,h=>h
 | (c,e,p)::t,kvs,h=>GK m t _ fun x a=>by
  rcases WU.mp a with a|a
  ·exact h x a
  ·rw [WR.mp a]
   exact T9 (GJ h p)
theorem vD (m:Int×Int->Bool):∀ (t:Tr)(kvs:Kv),vC (kvs.map (·.1)) t=true->(∀ q∈kvs.map (·.1),bY (cI m kvs t) q=bY kvs q)/\(∀ x∈t,bY (cI m kvs t) x.1=st m x.2.1 (bY (cI m kvs t) x.2.2))/\((kvs.map (·.1)).Nodup->(kvs.map (·.1)++t.map (·.1)).Nodup)
 | [],kvs,_=>⟨fun q _=>rfl,(fun x d=>nomatch d),fun h=>by simpa using h⟩
 | (c,e,p)::t,kvs,h=>by
  rw [vC,Vq,Vq] at h
  obtain ⟨⟨j,l⟩,s⟩:=h
  have j:c∉kvs.map (·.1):=by simpa using j
  have l:p∈kvs.map (·.1):=by simpa using l
  obtain ⟨r,v,w⟩:=vD m t (kvs++[(c,st m e (bY kvs p))]) (by simpa using s)
  have i:∀ q∈kvs.map (·.1),bY (cI m (kvs++[(c,st m e (bY kvs p))]) t) q=bY kvs q:=fun q o=>by
   rw [r q (by rw [Wq];exact WU.mpr (.inl o)),Ui o]
  refine ⟨i,fun x d=>?_,fun y=>?_⟩
  ·rcases VP.mp d with rfl|d
   ·show bY (cI m (kvs++[(c,st m e (bY kvs p))]) t) c=st m e (bY (cI m (kvs++[(c,st m e (bY kvs p))]) t) p)
    rw [i p l,r c (by simp),Uj j]
   ·exact v x d
  ·have:=w (by
    rw [Wq,a0N]
    refine ⟨y,by simp,fun a n b u z=>?_⟩
    have:b=c:=by simpa using u
    rw [z,this] at n
    exact j n)
   simpa using this
noncomputable def mY (m:Int×Int->Bool)(w h:Int):Kv:=cI m [(first w h,cC)] (eC w h)
theorem Uk {w h:Int}(hw:1<=w/\w<=3)(l:1<=h/\h<=3){m:Int×Int->Bool}(u:∀ c∈cR w h,eL c=true->gO m c.1 c.2=true):∀ e∈eA w h,iS (bY (mY m w h)) m e:=by
 obtain ⟨_,B,E,_⟩:=AB w (cA hw) h (cA l)
 obtain ⟨p,r⟩:=Uh w (cA hw) h (cA l)
 obtain ⟨_,x,_⟩:=vD m (eC w h) [(first w h,cC)] B
 refine fun e d=>GH (cs:=(cR w h).filter eL) (fun c hc=>⟨p c hc,fun A=>?_⟩) 13 (fun e d=>?_) e (r e d)
 ·obtain ⟨b,a⟩:=X9.mp hc
  have s:=u c b a
  unfold eL at a
  simp only [Vq,beq_iff_eq] at a
  exact Ud a.1 a.2 s A
 ·obtain ⟨t,n,rfl⟩:=VY.mp d
  obtain ⟨o,i⟩:=E t n
  have j:=x t n
  obtain ⟨o1,y,z⟩:=GF o
  intro q v
  rcases z q v with rfl|rfl
  ·rw [i];exact j
  ·rw [y,i]
   show bY (mY m w h) t.2.2=st m t.2.1 (bY (mY m w h) t.1)
   rw [show bY (mY m w h) t.1=_ from j,u6]
   rfl
theorem Ul (k:Nat)(ns:List Int)(c:Nat)(ws:List Int)(G:ws≠[])(M:Hm)(hc:M[c]? = some (.lst (ws.map D.int)))(Q:D×Hm->Prop)(H:∀ (w h:Int)(l:List ((Int×Int)×Str)) a,(1<=w/\w<=3)->(1<=h/\h<=3)->M <+: a->l.length<=89->Q (.tup [.int w,.int h,.tup (l.map MD)],a)):W (f (k+4) "_law_sheet" [.rol (ns.map D.int),.int 3,.loc c] M) Q:=by
 rw [Sy,W_fin]
 simp only [bK,bZ,aU,aS,aX,aM,aL,aE,aF]
 refine lB (k+2) ns 0 (by decide) _ _ fun μ1 X=>?_
 refine (dC (by decide)).mpr ?_
 simp only [cU,Vs,Vt,aE,aF]
 refine lB (k+2) ns 0 (by decide) _ _ fun e Y=>?_
 refine (jB (by decide) (by decide)).mpr ((dC (by decide)).mpr ?_)
 simp only [cU,Vs,Vt]
 have hw:1<=1+dQ ns 0 % 3/\1+dQ ns 0 % 3<=3:=by
  have O:=WK (dQ ns 0) (show (3:Int)≠0 by decide)
  have R:=Wx (dQ ns 0) (show (0:Int)<3 by decide)
  omega
 have v:1<=1+dQ ns 0 / 3 % 3/\1+dQ ns 0 / 3 % 3<=3:=by
  have O:=WK (dQ ns 0 / 3) (show (3:Int)≠0 by decide)
  have R:=Wx (dQ ns 0 / 3) (show (0:Int)<3 by decide)
  omega
 generalize 1+dQ ns 0 % 3=w at hw
 generalize 1+dQ ns 0 / 3 % 3=h at v
 have L:=X.trans Y
 simp only [eK,aL]
 refine ⟨Wn _,?_⟩
 simp only [Vs,Vt,fF]
 refine Fg ?_
 simp only [aM,aL,aX,aE,aF]
 refine Tn k ns hw v c ws G _ (aV (L.trans (bA _ _)) hc) _ fun b fs N r j l4=>?_
 refine ⟨b,fs.map PP,rfl,j,?_⟩
 have o:b≠e.length\/fs=[]:=by
  by_cases z:b=e.length
  ·right
   have Z:=aV r (bL e (C.lst []))
   rw [z,Z] at j
   injection j with j
   injection j with j
   cases fs with
   | nil=>rfl
   | cons _ _=>cases j
  ·exact .inl z
 rcases o with o|rfl
 ·refine Ad (fun i m a=>e <+: a/\a[b]? = some (.lst (fs.map PP))/\∃ (l:List ((Int×Int)×Str))(I J x:Option D),a[e.length]? = some (.lst (l.map MD))/\l.length<=i/\i<=fs.length/\m=[some (.rol (ns.map D.int)),some (.int 3),some (.loc c),some (.int w),some (.int h),some (.loc e.length),I,J,x]) ⟨(bA _ _).trans r,j,[],none,none,none,aV r (bL _ _),Vv _,Wn _,rfl⟩ (fun i m a y=>y.2.1) ?_ ?_
  ·rintro i d m u hd ⟨E,p,l,I,J,x,B,A,_,rfl⟩
   obtain ⟨q,U,rfl⟩:=pD hd
   have T:i<fs.length:=(Vx.mp U).1
   refine ⟨[some (.rol (ns.map D.int)),some (.int 3),some (.loc c),some (.int w),some (.int h),some (.loc e.length),some (.int i),some (PP q),x],rfl,?_⟩
   have h9:0<=(i:Int) % 9/\(i:Int) % 9<9:=⟨WK _ (by decide),Wx _ (by decide)⟩
   simp only [Vs,Vt,bK,bZ,aU,aX,aM,aL,aE,aF,aS,SK,cU]
   refine lB (k+2) ns _ (by omega) _ _ fun μ6 K=>?_
   simp only [Fw,cU]
   refine (dU (.inr (by omega))).mpr ((dU (.inl (by omega))).mpr ?_)
   simp only [cU,Vs,Vt,j0]
   have n:=aV K B
   refine j5 ?_
   simp only [aE,aF]
   refine ⟨j6 n,?_⟩
   simp only [aM,aL,dP,aE,aF,aU,aS]
   refine (dC (by decide)).mpr ((dC (by decide)).mpr ?_)
   refine Tq ⟨WK _ (by decide),Wx _ (by decide)⟩ fun s=>?_
   refine ⟨fS,?_⟩
   refine (oZ n (by rw [Vm,VS];omega)).mpr ?_
   refine ⟨hX (E.trans K) (Vv _) _,?_,l++[(q,s)],_,_,_,?_,by rw [VR];exact Zd A,T,rfl⟩
   ·rw [lD (WB o)]
    exact aV K p
   ·rw [iC n,Wq]
    rfl
  ·rintro m u ⟨E,p,l,I,J,x,B,A,_,rfl⟩
   simp only [w_mRet,dP,aM,aL,aE,aF,aX]
   refine (Fh B).mpr ⟨Ge,?_⟩
   exact H w h l _ hw v (L.trans E) (by rw [Vm] at A;omega)
 ·refine Ad (xs:=[]) (fun i m a=>a=N/\m=[some (.rol (ns.map D.int)),some (.int 3),some (.loc c),some (.int w),some (.int h),some (.loc e.length),none,none,none]) ⟨rfl,rfl⟩ (fun i m a y=>by rw [y.1];exact j) (fun i d m a hd=>by simp at hd) ?_
  rintro m u ⟨rfl,rfl⟩
  simp only [w_mRet,dP,aM,aL,aE,aF,aX]
  refine (Fh (xs:=([]:List ((Int×Int)×Str)).map MD) (aV r (bL _ _))).mpr ⟨Ge,?_⟩
  exact H w h [] _ hw v (L.trans ((bA _ _).trans r)) (Wn _)
theorem Um (k:Nat)(x y:Int)(a:Hm)(Q:D×Hm->Prop):W (f (k+1) "is_edge" [P x y] a) Q↔Q (.bl (j8 (x,y)),a):=by
 rw [RO,W_fin]
 simp only [bK,w_mRet,cK,dB,cM,mQ,aU,aS,aE,gH,hZ,eV,ER,pB,jD]
 unfold j8
 by_cases h:x % 2=1
 ·simp [h]
 ·have e:(x % 2 == 1)=false:=by simpa using h
  simp only [e,h,Vy,if_false]
  cases y % 2 == 0<;>simp
theorem Uo (k:Nat)(x y:Int)(a:Hm)(Q:D×Hm->Prop):W (f (k+1) "is_quarter" [P x y] a) Q↔Q (.bl (rJ (x,y)),a):=by
 rw [RP,W_fin]
 simp only [bK,w_mRet,cK,dB,cM,mQ,aU,aS,aE,gH,hZ,eV,ER,pB,jD]
 unfold rJ
 by_cases h:x % 2=1
 ·simp [h]
 ·have e:(x % 2 == 1)=false:=by simpa using h
  simp only [e,h,Vy,if_false]
  cases x % 4 == 2<;>simp
theorem GL:(4:Nat)<=VA:=by decide
theorem Up (k:Nat)(q:Int×Int)(a:Hm):f (k+1) "beside" [PP q] a=some (.loc a.length,a++[C.lst [P (q.1 - 1) q.2,P q.1 (q.2 - 1),P q.1 (q.2+1),P (q.1+1) q.2]]):=by
 rw [RS]
 kernel_rfl
theorem Uq (k:Nat)(q:Int×Int)(c:Hm)(Q:D×Hm->Prop)(H:∀ a b,c <+: b->b[a]? = some (.lst (((pH q).filter j8).map PP))->c.length<=a->Q (.loc a,b)):W (f (k+2) "edges_of" [PP q] c) Q:=by
 rw [RT,W_fin]
 simp only [w_mRet]
 refine fR (xs:=(pH q).map PP) (p:=fun d=>j8 (cV d)) (v:=fun d=>d) ?_
 refine w_iSeq.mpr (FC rfl ?_)
 rw [Up,W_some]
 have h:(c++[C.lst [P (q.1 - 1) q.2,P q.1 (q.2 - 1),P q.1 (q.2+1),P (q.1+1) q.2]])[c.length]? = some (.lst ((pH q).map PP)):=bL _ _
 refine (d8 h).mpr ⟨iP h,rfl,GL,fun d b hd e=>?_,fun d b hd _ e=>?_,fun b e i=>?_⟩
 ·obtain ⟨u,v,rfl⟩:=k9 hd
  simp only [VZ,V2,iO,aX,aM,aL,aE,aF,Um,jC]
  exact ⟨rfl,VF _⟩
 ·simp only [VZ,V2,aE,aF]
  exact ⟨trivial,VF _⟩
 ·refine H _ _ ((bA _ _).trans e) ?_ (by simp)
  rw [i,pC j8]
theorem Ur (k:Nat)(w h x y:Int)(a:Hm)(Q:D×Hm->Prop):W (f (k+1) "is_within" [.int w,.int h,P x y] a) Q↔Q (.bl (rH w h (x,y)),a):=by
 rw [RY,W_fin]
 simp only [w_mRet,mQ,Ru,aU,aS,aE,aF,gH,hZ,zY,mS]
 unfold rH
 dsimp only
 cases decide (0<x)<;>cases decide (x<4 * w)<;>cases decide (0<y)<;>cases decide (y<4 * h)<;>simp
noncomputable def NB (q e:Int×Int):D:=.tup [PP e,PP (cE q e)]
theorem Us (k:Nat)(w h:Int)(q:Int×Int)(e:Hm)(Q:D×Hm->Prop)(H:∀ a b,e <+: b->b[a]? = some (.lst ((iT w h q).map (NB q)))->e.length<=a->Q (.loc a,b)):W (f (k+3) "neighbours_in" [.int w,.int h,PP q] e) Q:=by
 rw [R8,W_fin]
 simp only [w_mRet]
 refine fR (xs:=((pH q).filter j8).map PP) (p:=fun d=>rH w h (cV d)) (v:=fun d=>NB q (cV d)) ?_
 simp only [w_iSeq,aX,aM,aL,aE,aF]
 refine Uq k q _ _ fun a m j i n=>?_
 refine (d8 i).mpr ⟨iP i,rfl,?_,fun d b hd c=>?_,fun d b hd _ c=>?_,fun b c l=>?_⟩
 ·rw [Vm]
  exact Wu (WJ _ _) GL
 ·obtain ⟨u,v,rfl⟩:=k9 hd
  simp only [VZ,V2,iO,aX,aM,aL,aE,aF,Ur,jC]
  exact ⟨rfl,VF _⟩
 ·obtain ⟨u,v,rfl⟩:=k9 hd
  simp only [VZ,V2,dP,aX,aM,aL,aE,aF,FD,fS,true_and]
  exact ⟨rfl,VF _⟩
 ·refine H _ _ (j.trans c) ?_ j.length_le
  rw [l]
  have:=pC (rH w h) ((pH q).filter j8)
  rw [a4R] at this
  rw [this,VN]
  rfl
theorem Ut (k:Nat)(w h:Int)(hw:1<=w/\w<=3)(n:1<=h/\h<=3)(i:Hm)(Q:D×Hm->Prop)(H:∀ a b,i <+: b->b[a]? = some (.lst ((pI w h).map PP))->Q (.loc a,b)):W (f (k+2) "quarters_in" [.int w,.int h] i) Q:=by
 rw [R0,W_fin]
 simp only [w_mRet]
 refine fR (xs:=(cR w h).map PP) (p:=fun d=>rJ (cV d)) (v:=fun d=>d) ?_
 simp only [w_iSeq,aX,aM,aL,aE,aF]
 refine FJ _ w h (by omega) (by omega) _ _ fun a m l e o=>?_
 refine (d8 e).mpr ⟨iP e,rfl,?_,fun d b hd c=>?_,fun d b hd _ c=>?_,fun b c j=>?_⟩
 ·have:=FK (w:=w) (h:=h) (by omega) (by omega)
  rw [Vm,VS];omega
 ·obtain ⟨u,v,rfl⟩:=k9 hd
  simp only [VZ,V2,iO,aX,aM,aL,aE,aF,Uo,jC]
  exact ⟨rfl,VF _⟩
 ·simp only [VZ,V2,aE,aF]
  exact ⟨trivial,VF _⟩
 ·refine H _ _ (l.trans c) ?_
  rw [j,pC rJ]
  rfl
theorem Uu (k:Nat){w h:Int}(hw:1<=w/\w<=3)(e:1<=h/\h<=3)(b:List ((Int×Int)×Str))(d:(cR w h).find? (fG b)=none)(c:Hm)(Q:D×Hm->Prop)(H:∀ a,c <+: a->Q (.non,a)):W (f (k+6) "check_corners" [SH w h b] c) Q:=by
 rw [Sg,W_fin]
 simp only [bK,bZ,aX,aM,aL,aE]
 refine u3 k hw e b _ _ fun a i=>?_
 rw [d]
 simp only [rF,Vs,Vt,dB,cM,aU,aE,aF,aS,Fb,Vy,if_false,cK]
 exact H _ i
noncomputable def bB (kvs:Kv):List (List Int×D):=kvs.map fun p=>(bP p.1,LD p.2)
theorem GN (kvs:Kv)(q:Int×Int):(bN (bB kvs) (bP q)).isSome=decide (q∈kvs.map (·.1)):=by
 rw [pE]
 induction kvs with
 | nil=>rfl
 | cons p kvs a=>
  show (decide (bP p.1=bP q)||(bB kvs).any _)=_
  rw [a,uZ]
  simp only [VE,VP,Bool.decide_or]
  congr 1
  rw [Zo,beq_iff_eq,decide_eq_true_iff]
  exact eq_comm
theorem GO {kvs:Kv}{q:Int×Int}(h:q∈kvs.map (·.1)):bN (bB kvs) (bP q)=some (LD (bY kvs q)):=by
 induction kvs with
 | nil=>simp at h
 | cons p kvs a=>
  unfold bN bY bB
  rw [VE,Wv,Wv]
  dsimp only
  rw [uZ]
  cases z:p.1 == q with
  | true=>rfl
  | false=>
   rcases VP.mp h with h|h
   ·simp [h] at z
   ·exact a h
theorem Uv {kvs:Kv}{q:Int×Int}(h:q∉kvs.map (·.1))(A:Ly):dA (bB kvs) (bP q) (LD A)=bB (kvs++[(q,A)]):=by
 unfold dA
 rw [GN,decide_eq_false h,if_neg (by simp)]
 unfold bB
 rw [Wq]
 rfl
theorem GP {l:List (List Int×D)}(a:(l.map (·.1)).Nodup){k:List Int}{d:D}(h:(k,d)∈l):bN l k=some d:=by
 induction l with
 | nil=>cases h
 | cons p l b=>
  rw [VE,Zk] at a
  unfold bN
  rw [Wv]
  rcases VP.mp h with h|h
  ·rw [<- h]
   simp
  ·have:decide (p.1=k)=false:=decide_eq_false fun z=>a.1 (VY.mpr ⟨_,h,z.symm⟩)
   rw [this]
   exact b a.2 h
theorem Uw {p q:Int×Int}(h:bP p=bP q):p=q:=by
 have:=uZ p q
 rw [decide_eq_true h] at this
 simpa using this.symm
theorem GQ {kvs:Kv}(d:(kvs.map (·.1)).Nodup):((bB kvs).map (·.1)).Nodup:=by
 have e:(bB kvs).map (·.1)=(kvs.map (·.1)).map bP:=by
  unfold bB
  rw [VN,VN]
  rfl
 rw [e]
 exact a5c _ (fun a b c z=>c (Uw z)) d
theorem Ux {c:MT}{b:MS}{Q:Fl×aH×Hm->Prop}(I:Nat->aH->Hm->Prop)
  (w:∀ m a i,I m a i->W (c a i) fun p=>if p.1=true then W (b a p.2) fun q=>match q.1 with
   | .nx=>∃ e,e<m/\I e q.2.1 q.2.2
   | .ct=>∃ e,e<m/\I e q.2.1 q.2.2
   | .bk=>Q (.nx,q.2.1,q.2.2)
   | .rt d=>Q (.rt d,q.2.1,q.2.2) else Q (.nx,a,p.2)):∀ (n m:Nat)(a:aH)(i:Hm),m<n->I m a i->W (l0 c b n a i) Q:=by
 intro n
 induction n with
 | zero=>intro m a i h;omega
 | succ n r=>
  intro m a i B v
  unfold l0
  rw [W_bind]
  refine bT (w m a i v) fun p o=>?_
  obtain ⟨x,y⟩:=p
  cases x with
  | false=>exact W_some.mpr (by simpa using o)
  | true=>
   simp only [if_true] at o
   dsimp only
   rw [W_bind]
   refine bT o fun q j=>?_
   obtain ⟨s,A,z⟩:=q
   cases s with
   | nx=>obtain ⟨e,u,l⟩:=j;exact r e _ _ (by omega) l
   | ct=>obtain ⟨e,u,l⟩:=j;exact r e _ _ (by omega) l
   | bk=>exact W_some.mpr j
   | rt d=>exact W_some.mpr j
theorem Uy {c:MT}{b:MS}{a:aH}{e:Hm}{Q:Fl×aH×Hm->Prop}(I:Nat->aH->Hm->Prop)(m:Nat)(j:m<1000000000)(i:I m a e)
  (l:∀ m a e,I m a e->W (c a e) fun p=>if p.1=true then W (b a p.2) fun q=>match q.1 with
   | .nx=>∃ h,h<m/\I h q.2.1 q.2.2
   | .ct=>∃ h,h<m/\I h q.2.1 q.2.2
   | .bk=>Q (.nx,q.2.1,q.2.2)
   | .rt d=>Q (.rt d,q.2.1,q.2.2) else Q (.nx,a,p.2)):W (nO oR c b a e) Q:=by
 unfold nO
 exact Ux I l oR m a e (by unfold oR;exact j) i
theorem Uz {b:Hm}{a:Nat}{xs:List D}{Q:Bool->Prop}(h:b[a]? = some (.lst xs)):W (kP b (.loc a)) Q↔Q (!xs.isEmpty):=by
 simp only [kP,h]
 exact W_some
theorem UA {b:Hm}{a:Nat}{xs:List D}{y:D}{Q:D×Hm->Prop}(h:b[a]? = some (.lst (xs++[y]))):W (kN (.loc a) [] b) Q↔Q (y,b.set a (.lst xs)):=by
 have:kN (.loc a) [] b=some (y,b.set a (.lst xs)):=by
  simp only [kN,h]
  simp
 rw [this]
 exact W_some
theorem UB {m:ME}{b:aH}{a:Hm}{Q:D×Hm->Prop}:W (mK m b a) Q↔W (m b a) fun p=>W (oF p.1 p.2) Q:=by
 unfold mK
 rw [W_bind]
theorem UC {b:Hm}{a:Nat}{kvs:List (List Int×D)}{Q:D×Hm->Prop}(h:b[a]? = some (.dT kvs))(c:2<=kvs.length/\kvs.length<64):W (oF (.loc a) b) Q↔Q (.loc b.length,b++[.dT (dY kvs)]):=by
 have:oF (.loc a) b=some (.loc b.length,b++[.dT (dY kvs)]):=by
  simp only [oF,h]
  rw [if_pos c]
 rw [this]
 exact W_some
theorem UD {i:Nat}{y:D}{b:aH}{a:Hm}{x:D}{k:List Int}{Q:D×Hm->Prop}(h:b[i]? = some (some x))(c:eH x=some k):W (mL (aA i) (mC y) b a) Q↔Q (.loc a.length,a++[.dT [(k,y)]]):=by
 have:mL (aA i) (mC y) b a=some (.loc a.length,a++[.dT [(k,y)]]):=by
  unfold mL aA mC
  simp only [h,VJ,bL,c,VT,Ao]
 rw [this]
 exact W_some
noncomputable def AE (a:List ((Int×Int)×Str)):List (List Int×D):=(a.map fun m=>(bP m.1,D.str m.2)).foldl (fun q p=>dA q p.1 p.2) []
structure LI (ms:List ((Int×Int)×Str))(f0:Int×Int)(μ3:Hm)(s:List (Int×Int)×Tr)(μ':Hm):Prop where
 pre:μ3 <+: μ'
 dic:μ'[μ3.length]? = some (.dT (bB (cI (bQ ms) [(f0,cC)] s.2)))
 due:μ'[μ3.length+1]? = some (.lst (s.1.map PP))
 sub:∀ q∈s.1,q∈iE f0 s.2
theorem rL (m:Int×Int->Bool)(a:Int×Int)(t:Tr):(cI m [(a,cC)] t).map (·.1)=iE a t:=AD m t _
theorem AF (m:Int×Int->Bool)(a:Int×Int)(t:Tr)(q:Int×Int):Dih (bY (cI m [(a,cC)] t) q):=
 GJ (GK m t _ fun p b=>by rw [WR.mp b];exact Ay) q
theorem GS (m:Int×Int->Bool)(a:Int×Int)(t:Tr):(bB (cI m [(a,cC)] t)).length=t.length+1:=by
 have:=congrArg Wm (rL m a t)
 unfold bB
 rw [Vm] at this ⊢
 rw [this]
 simp [iE]
noncomputable def GU (k:Nat):MS:=bD (aO (aB (cT true) (aA 7) (aA 3))) (aI (iM (aA 3) (aA 7) (iG (aO (aB (cT false) (aA 6) (aA 1))) (aG (f (k+6) "then") (aC (aG (f (k+6) "mirror_in") (aC (aA 6) aD)) (aC (aB aJ (aA 3) (aA 5)) aD))) (aB aJ (aA 3) (aA 5)))) (dS (dG eI (aA 4) (aC (aA 7) aD)))) bG
noncomputable abbrev RL (w h:Int)(c:List ((Int×Int)×Str))(a:Nat)(b:Int×Int)(n:Nat)(d e i:Option D):aH:=[some (SH w h c),some (.loc a),some (PP b),some (.loc n),some (.loc (n+1)),d,e,i]
theorem UE (k:Nat){w h:Int}{d:List ((Int×Int)×Str)}{j here e:Int×Int}{a l:Hm}{o:Nat}{s:List (Int×Int)×Tr}(E:a[o]? = some (.dT (AE d)))(I:LI d j a s l)(y:here∈iE j s.2)(J:s.1.length<=500)(B:s.2.length<=500){Q:Fl×aH×Hm->Prop}
  (H:∀ i,LI d j a (fV j here s e) i->(∀ b c,a.length+2<=b->l[b]? = some c->i[b]? = some c)->Q (.nx,RL w h d o j a.length (some (PP here)) (some (PP e)) (some (PP (cE here e))),i)) :
  W (GU k (RL w h d o j a.length (some (PP here)) (some (PP e)) (some (PP (cE here e)))) l) Q:=by
 have r:=aV I.pre E
 unfold GU
 simp only [dB,cM,aU,aE,aF]
 refine (Ah I.dic (eB _)).mpr ?_
 rw [GN,rL]
 unfold fV at H
 by_cases m:cE here e∈iE j s.2
 ·rw [if_pos m] at H
  simp only [m,decide_true,W6,if_true,Vy,if_false,cK]
  exact H _ I fun b c _ z=>z
 ·rw [if_neg m] at H
  simp only [m,decide_false,XB,if_true,bK,Ag,zW,cM,aU,aE,aF]
  refine (Ah r (eB e)).mpr ?_
  have v:bN (bB (cI (bQ d) [(j,cC)] s.2)) (bP here)=some (LD (bY (cI (bQ d) [(j,cC)] s.2) here)):=GO (by rw [rL];exact y)
  have hd:=AF (bQ d) j s.2 here
  have x:(bN (AE d) (bP e)).isSome=bQ d e:=Gj d e
  simp only [Vy,if_false,x]
  have fin:∀ A:Ly,A=st (bQ d) e (bY (cI (bQ d) [(j,cC)] s.2) here)->W (qH (.loc a.length) (PP (cE here e)) (LD A) l) fun i=>W (dS (dG eI (aA 4) (aC (aA 7) aD)) (RL w h d o j a.length (some (PP here)) (some (PP e)) (some (PP (cE here e)))) i) Q:=by
   rintro A rfl
   refine (Ai I.dic (eB _) (by rw [GS,VS];omega)).mpr ?_
   rw [Uv (by rw [rL];exact m)]
   have p:(l.set a.length (.dT (bB (cI (bQ d) [(j,cC)] s.2++[(cE here e,st (bQ d) e (bY (cI (bQ d) [(j,cC)] s.2) here))]))))[a.length+1]? = some (.lst (s.1.map PP)):=by
    rw [lD (by omega)]
    exact I.due
   simp only [j0]
   refine j5 ?_
   simp only [aE,aF]
   refine ⟨j6 p,?_⟩
   simp only [aM,aL,aE,aF]
   refine (oZ p (by rw [Vm,VS];omega)).mpr ?_
   refine H _ ⟨hX (hX I.pre (Vv _) _) (by omega) _,?_,?_,?_⟩ fun b c G z=>?_
   ·rw [lD (by omega),GI]
    exact iC I.dic
   ·rw [iC p,Wq]
    rfl
   ·intro q n
    show q∈j::(s.2++[(cE here e,e,here)]).map (·.1)
    rw [Wq]
    rcases WU.mp n with n|n
    ·rcases VP.mp (I.sub q n) with z|z
     ·exact VP.mpr (.inl z)
     ·exact VP.mpr (.inr (WU.mpr (.inl z)))
    ·exact VP.mpr (.inr (WU.mpr (.inr n)))
   ·rw [lD (by omega),lD (by omega)]
    exact z
  cases u:bQ d e with
  | true=>
   simp only [if_true,aX,aM,aL,aE,aF,aU]
   refine (T7 (k+3) e.1 e.2 _ _).mpr ?_
   refine (iA I.dic (eB _) v).mpr ((T8 (k+4) _ _ (Gq _) hd _ _).mpr ?_)
   refine fin _ ?_
   unfold st
   rw [u,if_pos rfl]
  | false=>
   simp only [Vy,if_false,aU,aE,aF]
   refine (iA I.dic (eB _) v).mpr (fin _ ?_)
   unfold st
   rw [u,if_neg (by simp)]
theorem GV {w h:Int}{a:Int×Int}{i:Nat}(b:(eS w h a i).1=[]):∀ j,eS w h a (i+j)=eS w h a i
 | 0=>rfl
 | j+1=>by
  show rK w h a (eS w h a (i+j))=_
  rw [GV b j]
  unfold rK
  rw [b]
  rfl
theorem GW (w h:Int)(q:Int×Int):(iT w h q).length<=4:=Wu (WJ _ _) (WJ _ _)
theorem UG (a here e:Int×Int)(s:List (Int×Int)×Tr):(fV a here s e).1.length<=s.1.length+1/\(fV a here s e).2.length<=s.2.length+1:=by
 unfold fV
 split
 ·omega
 ·simp
theorem UH {a here e q:Int×Int}{s:List (Int×Int)×Tr}(h:q∈iE a s.2):q∈iE a (fV a here s e).2:=by
 unfold fV
 split
 ·exact h
 ·show q∈a::(s.2++[(cE here e,e,here)]).map (·.1)
  rw [Wq]
  rcases VP.mp h with z|z
  ·exact VP.mpr (.inl z)
  ·exact VP.mpr (.inr (WU.mpr (.inl z)))
theorem UI {q:Int×Int}{es:List (Int×Int)}{i:Nat}{d:D}(h:(es.map (NB q))[i]? = some d):∃ e,es[i]? = some e/\d=NB q e:=by
 rw [V0] at h
 obtain ⟨e,a,b⟩:=Vn.mp h
 exact ⟨e,a,b.symm⟩
theorem UJ {a c:Type}{g:c->a->c}{b:c}{l:List a}{i:Nat}{x:a}(h:l[i]? = some x):(l.take (i+1)).foldl g b=g ((l.take i).foldl g b) x:=by
 rw [List.take_add_one,h,a0Q]
 rfl
theorem tH:∀ a b c:List Int,HT.lexLt a b=true->HT.lexLt b c=true->HT.lexLt a c=true
 | [],[],_,h,_=>by cases h
 | [],_::_,[],_,h=>by cases h
 | [],_::_,_::_,_,_=>rfl
 | _::_,[],_,h,_=>by cases h
 | _::_,_::_,[],_,h=>by cases h
 | x::xs,y::ys,z::zs,e,d=>by
  rw [HT.lexLt_cons] at e d ⊢
  by_cases j:x=y
  ·subst j
   rw [if_pos rfl] at e
   by_cases i:x=z
   ·rw [if_pos i] at d ⊢
    exact tH xs ys zs e d
   ·rw [if_neg i] at d ⊢
    exact d
  ·rw [if_neg j] at e
   have e:=of_decide_eq_true e
   by_cases i:y=z
   ·subst i
    rw [if_neg j]
    exact decide_eq_true e
   ·rw [if_neg i] at d
    have d:=of_decide_eq_true d
    rw [if_neg (by omega)]
    exact decide_eq_true (by omega)
theorem GX:∀ a b c:List Int,HT.lexLt a b=true->HT.lexLt a c=true\/HT.lexLt c b=true
 | [],[],_,h=>by cases h
 | [],_::_,[],_=>.inr rfl
 | [],_::_,_::_,_=>.inl rfl
 | _::_,[],_,h=>by cases h
 | _::_,_::_,[],_=>.inr rfl
 | x::xs,y::ys,z::zs,h=>by
  rw [HT.lexLt_cons] at h ⊢
  rw [HT.lexLt_cons]
  by_cases e:x=y
  ·subst e
   rw [if_pos rfl] at h
   by_cases d:x=z
   ·subst d
    rw [if_pos rfl,if_pos rfl]
    exact GX xs ys zs h
   ·rw [if_neg d,if_neg (WB d),decide_eq_true_iff,decide_eq_true_iff]
    omega
  ·rw [if_neg e] at h
   have h:=of_decide_eq_true h
   by_cases d:x=z
   ·subst d
    rw [if_neg e]
    exact .inr (decide_eq_true h)
   ·rw [if_neg d,decide_eq_true_iff]
    by_cases i:z=y
    ·subst i
     exact .inl h
    ·rw [if_neg i,decide_eq_true_iff]
     omega
theorem tG:∀ k:List Int,HT.lexLt k k=false
 | []=>rfl
 | a::k=>by rw [HT.lexLt_cons,if_pos rfl];exact tG k
theorem GY:∀ a b:List Int,HT.lexLt a b=false->HT.lexLt b a=false->a=b
 | [],[],_,_=>rfl
 | [],_::_,h,_=>by cases h
 | _::_,[],_,h=>by cases h
 | x::xs,y::ys,c,d=>by
  rw [HT.lexLt_cons] at c d
  by_cases e:x=y
  ·subst e
   rw [if_pos rfl] at c d
   rw [GY xs ys c d]
  ·rw [if_neg e] at c
   rw [if_neg (WB e)] at d
   have c:=of_decide_eq_false c
   have d:=of_decide_eq_false d
   omega
theorem GZ (l:List (List Int×D))(i:Nat):(l.getD i ([],.non)).1=(l.map (·.1)).getD i []:=by
 rw [Wo,Wo,V0]
 cases l[i]?<;>rfl
theorem G0 {l:List (List Int×D)}{ks:List (List Int)}(c:0<l.length)(n:(l.map (·.1)).Perm ks)(o:ks.Pairwise fun x y=>HT.lexLt y x=false):(dY l).map (·.1)=ks:=by
 have q:((dY l).map (·.1)).Perm ks:=by
  have p:(dY l).Perm l:=by
   unfold dY
   have p:=(jT (fun i j=>HT.lexLt ((l.map (·.1)).getD i []) ((l.map (·.1)).getD j [])) c).map fun i=>l.getD i ([],.non)
   rw [uV] at p
   exact p
  exact (p.map _).trans n
 have S:=NQ (lt:=HT.lexLt) tG tH GX [] (l.map (·.1)) (n:=l.length) c
 have d:((dY l).map (·.1)).Pairwise fun x y=>HT.lexLt y x=false:=by
  unfold dY
  rw [VN,a0M]
  refine S.imp fun {i j} h=>?_
  show HT.lexLt (l.getD j ([],.non)).1 (l.getD i ([],.non)).1=false
  rw [GZ,GZ]
  exact h
 exact a1q (le:=fun x y=>HT.lexLt y x=false) (fun a b _ _ e m=>(GY b a e m).symm) d o q
theorem UK (qs:List (Int×Int)):(qs.map bP).map (fun k=>D.tup (k.map D.int))=qs.map PP:=by
 rw [VN]
 rfl
theorem UL {b:Hm}{a:Nat}{kvs:List (List Int×D)}{Q:D×Hm->Prop}(h:b[a]? = some (.dT kvs))(h1:kvs.length<64)(c:∀ p∈kvs,p.1≠[]):W (oN [.loc a] b) Q↔Q (.loc b.length,b++[.lst ((dY kvs).map fun k=>D.tup (k.1.map D.int))]):=by
 simp only [oN,h]
 rw [if_pos ⟨h1,c⟩]
 exact W_some
theorem UM {b:Hm}{a:Nat}{kvs:List (List Int×D)}{Q:D×Hm->Prop}(h:b[a]? = some (.dT kvs))(h1:kvs≠[]/\(kvs.map fun p=>Tb.hashT p.1).Nodup):W (oO [.loc a] b) Q↔Q (.loc b.length,b++[.dT kvs]):=by
 simp only [oO,h]
 rw [if_pos h1]
 exact W_some
theorem UN {f:D->List D->Hm->Option (D×Hm)}{b:ME}{c:MA}{a:aH}{d:Hm}{Q:D×Hm->Prop}(h:W (b a d) fun p=>oG p.2 p.1=true/\W (c a p.2) fun q=>W (f p.1 q.1 q.2) Q):W (oH f b c a d) Q:=by
 unfold oH
 rw [W_bind]
 refine bT h fun p q=>?_
 rw [q.1]
 exact W_bind.mpr q.2
theorem UO {b:Hm}{a:Nat}{kvs:List (List Int×D)}(h:b[a]? = some (.dT kvs)):oG b (.loc a)=true:=by
 simp only [oG,h]
noncomputable def j9 (A:Ly)(l:Int×Int):Ly:=if l.1=0 then ⟨A.a,A.b,-A.c,-A.d,A.e,2 * l.2 - A.g⟩ else if l.1=1 then ⟨-A.a,-A.b,A.c,A.d,2 * l.2 - A.e,A.g⟩ else if l.1=2 then ⟨A.c,A.d,A.a,A.b,A.g+l.2,A.e - l.2⟩ else ⟨-A.c,-A.d,-A.a,-A.b,l.2 - A.g,l.2 - A.e⟩
theorem iY {a:Int}(h:a=1\/a = -1):-a=1\/-a = -1:=by omega
theorem UP {A:Ly}(h:Dih A)(l:Int×Int):Dih (j9 A l):=by
 have z:∀ {x:Int},x=0->-x=0:=fun h=>by rw [h];rfl
 unfold j9
 rcases h with ⟨a,b,c,d⟩|⟨a,b,c,d⟩
 ·split
  ·exact .inl ⟨a,z b,c,iY d⟩
  split
  ·exact .inl ⟨z a,b,iY c,d⟩
  split
  ·exact .inr ⟨b,a,d,c⟩
  ·exact .inr ⟨z b,z a,iY d,iY c⟩
 ·split
  ·exact .inr ⟨a,z b,c,iY d⟩
  split
  ·exact .inr ⟨z a,b,iY c,d⟩
  split
  ·exact .inl ⟨b,a,d,c⟩
  ·exact .inl ⟨z b,z a,iY d,iY c⟩
theorem UQ (A:Ly)(l p:Int×Int):bC (j9 A l) p=lC (bC A p) l:=by
 unfold j9 lC bC
 split
 ·refine WS rfl ?_
  dsimp only
  rw [ZU,ZU];omega
 split
 ·refine WS ?_ rfl
  dsimp only
  rw [ZU,ZU];omega
 split
 ·refine WS ?_ ?_<;>dsimp only<;>omega
 ·refine WS ?_ ?_<;>dsimp only<;>(rw [ZU,ZU];omega)
theorem UR (k:Nat)(A:Ly)(u n:Int)(a:Hm)(Q:D×Hm->Prop)(H:Q (LD (j9 A (u,n)),a)):W (f (k+1) "_law_over" [LD A,P u n] a) Q:=by
 rw [Fu]
 unfold j9 at H
 refine jE rfl (jE rfl (iQ rfl (fun h=>?_) fun h=>?_))
 ·rw [if_pos (by simpa using h)] at H
  exact ⟨_,rfl,H⟩
 rw [if_neg (by simpa using h)] at H
 refine iQ rfl (fun h=>?_) fun h=>?_
 ·rw [if_pos (by simpa using h)] at H
  exact ⟨_,rfl,H⟩
 rw [if_neg (by simpa using h)] at H
 refine iQ rfl (fun h=>?_) fun h=>?_
 ·rw [if_pos (by simpa using h)] at H
  exact ⟨_,rfl,H⟩
 rw [if_neg (by simpa using h)] at H
 exact ⟨_,rfl,H⟩
theorem AG (k:Nat)(A:Ly)(h:Dih A)(x y:Int)(a:Hm)(Q:D×Hm->Prop)(H:Q (PP (bC A (x,y)),a)):W (f (k+1) "_law_led" [LD A,P x y] a) Q:=by
 obtain ⟨b,c,d,e⟩:=h.sm
 rw [Ft,W_fin]
 simp only [bK,k8,aE,F3,Vs,Vt,w_mRet,dP,aM,aL,aU,aF,aS,gH,hZ]
 refine (lH b).mpr ((lH c).mpr ?_)
 simp only [cU]
 refine (lH d).mpr ((lH e).mpr ?_)
 simp only [cU,fS,true_and]
 exact H
theorem G1 {F:Int×Int->Ly}{row:List (Int×Int)}(a:row.Nodup){q:Int×Int}(h:q∈row):bN (bB (row.map fun q=>(q,F q))) (bP q)=some (LD (F q)):=by
 refine GP (GQ (by rw [VN];exact (by simpa [a2M] using a))) ?_
 unfold bB
 rw [VN]
 exact VY.mpr ⟨q,h,rfl⟩
theorem G6 (F:Int×Int->Ly)(row:List (Int×Int)):(bB (row.map fun q=>(q,F q))).map (·.1)=row.map bP:=by
 unfold bB
 rw [VN,VN]
 rfl
theorem G7 (F:Int×Int->Ly)(row:List (Int×Int)):(bB (row.map fun q=>(q,F q))).length=row.length:=by
 unfold bB
 rw [Vm,Vm]
theorem AH:∀ w∈[(1:Int),2,3],∀ h∈[(1:Int),2,3],(cR w h).filter j8=eA w h/\eA w h≠[]/\(bE w h).Nodup/\(((bE w h).map bP).map Tb.hashT).Nodup:=by decide +kernel
theorem G8:∀ w∈[(1:Int),2,3],∀ h∈[(1:Int),2,3],((bE w h).map bP).Pairwise fun x y=>HT.lexLt y x=false:=by decide +kernel
theorem US {b:Hm}{a:Nat}{kvs:List (List Int×D)}{Q:D×Hm->Prop}(h:b[a]? = some (.dT kvs)):W (eY [.loc a,.ty "dict"] b) Q↔Q (.bl true,b):=by
 have:eY [.loc a,.ty "dict"] b=some (.bl true,b):=by
  simp only [eY,sD,h,VJ]
  rfl
 rw [this]
 exact W_some
theorem UT {c:Hm}{a b:Nat}{ps:List (Int×Int)}{ne:Bool}{Q:D×Hm->Prop}(d:c[a]? = some (.lst (ps.map PP)))(e:c[b]? = some (.lst (ps.map PP))):W (aT ne (.loc a) (.loc b) c) Q↔Q (.bl (if ne then false else true),c):=by
 rw [EW d e,beq_self_eq_true]
 cases ne<;>rfl
theorem UU {b:Hm}{a:Nat}{kvs:List (List Int×D)}{Q:D×Hm->Prop}(h:b[a]? = some (.dT kvs)):W (oJ (.loc a) [] b) Q↔Q (.non,b.set a (.dT [])):=by
 simp only [oJ,h]
 exact W_some
theorem G9 (a:Hm)(A:Ly):cD 8 a (LD A) (LD A)=some true:=by
 have:cD 8 a (LD A) (LD A)=some (A.a == A.a&&(A.b == A.b&&(A.c == A.c&&(A.d == A.d&&(A.e == A.e&&(A.g == A.g&&true)))))):=rfl
 rw [this]
 simp only [beq_self_eq_true,a2h]
theorem Ha (a:Hm){F:Int×Int->Ly}{row:List (Int×Int)}(c:row.Nodup):∀ qs:List (Int×Int),(∀ q∈qs,q∈row)->mM a (bB (row.map fun q=>(q,F q))) (bB (qs.map fun q=>(q,F q)))=some true
 | [],_=>rfl
 | q::qs,h=>by
  have i:=Ha a (F:=F) c qs fun x d=>h x (VI _ d)
  show (match bN (bB (row.map fun q=>(q,F q))) (bP q) with|none=>some false|some y=>(cD 8 a (LD (F q)) y).bind fun e=>(mM a (bB (row.map fun q=>(q,F q))) (bB (qs.map fun q=>(q,F q)))).map fun b=>e&&b)=some true
  rw [G1 c (h q (VO ..)),i]
  dsimp only
  rw [G9]
  rfl
theorem AI {v:List Int->D}:∀ l:List (List Int×D),(∀ p∈l,p.2=v p.1)->l=(l.map (·.1)).map fun k=>(k,v k)
 | [],_=>rfl
 | p::l,h=>by
  rw [VE,VE,<- AI l fun q a=>h q (VI _ a),<- h p (VO ..)]
theorem UW {L:Kv}{qs:List (Int×Int)}(s:(L.map (·.1)).Nodup)(h:(L.map (·.1)).Perm qs)(r:(qs.map bP).Pairwise fun x y=>HT.lexLt y x=false)(l:0<L.length):dY (bB L)=bB (qs.map fun q=>(q,bY L q)):=by
 have d:0<(bB L).length:=by unfold bB;rw [Vm];exact l
 have o:(dY (bB L)).map (·.1)=qs.map bP:=by
  refine G0 d ?_ r
  have e:(bB L).map (·.1)=(L.map (·.1)).map bP:=by unfold bB;rw [VN,VN];rfl
  rw [e]
  exact h.map _
 have u:(dY (bB L)).Perm (bB L):=by
  unfold dY
  have p:=(jT (fun i j=>HT.lexLt (((bB L).map (·.1)).getD i []) (((bB L).map (·.1)).getD j [])) d).map fun i=>(bB L).getD i ([],.non)
  rw [uV] at p
  exact p
 have m:=AI (v:=fun k=>(bN (bB L) k).getD .non) (dY (bB L)) fun p a=>by
  show p.2=(bN (bB L) p.1).getD .non
  rw [GP (GQ s) (u.mem_iff.mp a)]
  rfl
 have n:=AI (v:=fun k=>(bN (bB L) k).getD .non) (bB (qs.map fun q=>(q,bY L q))) fun p a=>by
  unfold bB at a
  rw [VN] at a
  obtain ⟨q,b,c⟩:=VY.mp a
  subst c
  show LD (bY L q)=(bN (bB L) (bP q)).getD .non
  rw [GO (h.mem_iff.mpr b)]
  rfl
 rw [m,n,o]
 congr 1
 unfold bB
 rw [VN,VN]
 rfl
theorem UX:∀ w∈[(1:Int),2,3],∀ h∈[(1:Int),2,3],∀ q∈iE (first w h) (eC w h),q∈bE w h:=by decide +kernel
theorem Hb (k:Nat){w h:Int}(hw:1<=w/\w<=3)(u:1<=h/\h<=3)(l:List ((Int×Int)×Str))(hb:(cR w h).find? (fG l)=none)(T:Hm)(Q:D×Hm->Prop)
  (H:∀ a n,T <+: n->n[a]? = some (.dT (bB ((bE w h).map fun q=>(q,bY (mY (bQ l) w h) q))))->Q (.loc a,n)):W (f (k+7) "laid" [SH w h l] T) Q:=by
 obtain ⟨t1,t2,t3,t4,t5,t6,t7⟩:=AB w (cA hw) h (cA u)
 rw [Sm,W_fin]
 simp only [bK,j0,aX,aM,aL,aE]
 refine Uu k hw u l hb _ _ fun o p1=>?_
 simp only [bZ,aX,aM,aL,aE]
 rw [Fo,W_fin]
 simp only [w_mRet,aX,aM,aL,aU,aE,aS,Aw,Gk,Vs,Vt,bK,bZ,aF,rC,rD]
 refine Ut (k+4) w h hw u _ _ fun b c p3 g3=>?_
 have hf:atI ((pI w h).map PP) 0=some (PP (first w h)):=by
  have G:pI w h≠[]:=by
   intro z
   have hp:∀ w∈[(1:Int),2,3],∀ h∈[(1:Int),2,3],pI w h≠[]:=by decide +kernel
   exact hp w (cA hw) h (cA u) z
  unfold first
  match hz:pI w h,G with
  | q::qs,_=>
   unfold atI
   rw [rA (a5D 0) (by simp)]
   rfl
 refine (mR g3 hf).mpr ?_
 simp only [Vs,Vt]
 refine (UD (x:=PP (first w h)) rfl (eB _)).mpr ?_
 simp only [Vs,Vt,eK,aM,aL,aE,aF]
 refine ⟨by show (1:Nat)<=VA;decide,?_⟩
 have hm:c[o.length]? = some (.dT (AE l)):=aV p3 (bL _ _)
 have pq:T <+: c:=p1.trans ((bA _ _).trans p3)
 refine Uy (fun m A n=>∃ i,m+i=36/\LI l (first w h) c (eS w h (first w h) i) n/\(eS w h (first w h) i).1.length<=5 * i+1/\(eS w h (first w h) i).2.length<=5 * i/\∃ o5 x y,A=RL w h l o.length (first w h) c.length o5 x y) 36 (by decide) ⟨0,rfl,⟨?_,?_,?_,?_⟩,by simp [eS],by simp [eS],none,none,none,?_⟩ ?_
 ·exact (bA _ _).trans (bA _ _)
 ·refine (aV (bA _ _) (bL _ _)).trans ?_
  rfl
 ·have:=bL (c++[C.dT [(bP (first w h),uT)]]) (.lst [PP (first w h)])
  rw [VR] at this
  exact this
 ·intro q G
  exact VP.mpr (.inl (by simpa [eS] using G))
 ·rw [VR]
  rfl
 ·rintro m A K ⟨i,N,I,n1,n2,o5,x,y,rfl⟩
  simp only [iO,aE,aF]
  refine (Uz I.due).mpr ?_
  generalize hs:eS w h (first w h) i=s at I n1 n2
  rcases List.eq_nil_or_concat s.1 with z|⟨ds,here,z⟩
  ·have M:(!(s.1.map PP).isEmpty)=false:=by rw [z];rfl
   rw [M]
   simp only [Vy,if_false]
   have et:s=eS w h (first w h) 36:=by
    rw [<- hs,<- N,a5b]
    exact (GV (by rw [hs];exact z) m).symm
   have E:=I.dic
   rw [et] at E
   simp only [w_mRet,UB,aE,aF]
   have p:=GS (bQ l) (first w h) (eC w h)
   refine (UC E ?_).mpr ?_
   ·show 2<=(bB (cI (bQ l) [(first w h,cC)] (eC w h))).length/\(bB (cI (bQ l) [(first w h,cC)] (eC w h))).length<64
    rw [p]
    omega
   ·have nd:((cI (bQ l) [(first w h,cC)] (eC w h)).map (·.1)).Nodup:=by
     rw [AD]
     exact (vD (bQ l) (eC w h) [(first w h,cC)] t2).2.2 (by simp)
    refine H _ _ (pq.trans (I.pre.trans (bA _ _))) ?_
    rw [bL]
    have O:((cI (bQ l) [(first w h,cC)] (eC w h)).map (·.1)).Perm (bE w h):=(List.perm_ext_iff_of_nodup nd (AH w (cA hw) h (cA u)).2.2.1).mpr fun q=>by
     rw [rL]
     exact ⟨fun z=>UX w (cA hw) h (cA u) q z,fun z=>t4 q z⟩
    exact congrArg some (congrArg C.dT (UW nd O (G8 w (cA hw) h (cA u)) (by
     have e:(bB (cI (bQ l) [(first w h,cC)] (eC w h))).length=_:=p
     unfold bB at e
     rw [Vm] at e
     show 0<(cI (bQ l) [(first w h,cC)] (eC w h)).length
     rw [e]
     exact a0c _)))
  ·have M:(!(s.1.map PP).isEmpty)=true:=by rw [z];simp
   rw [M]
   simp only [if_true,bK,bZ]
   have hm0:0<m:=by
    rcases Nat.eq_zero_or_pos m with q|q
    ·exfalso
     have:i=36:=by omega
     subst this
     rw [hs] at t1
     rw [t1] at z
     simp at z
    ·exact q
   refine j5 ?_
   simp only [aE,aF]
   refine ⟨j6 I.due,?_⟩
   simp only [aL]
   have r:=I.due
   rw [z,List.concat_eq_append,Wq] at r
   refine (UA r).mpr ?_
   simp only [Vs,Vt,fF,w_iSeq,aX,aM,aL,aU,aS,aE,aF,rC,rD]
   have zl:s.1.length=ds.length+1:=by rw [z];simp
   have B:LI l (first w h) c (ds,s.2) (K.set (c.length+1) (.lst (ds.map PP))):=
    ⟨hX I.pre (by omega) _,by rw [lD (by omega)];exact I.dic,iC r,fun q G=>I.sub q (by rw [z];simp [G])⟩
   have hk:here∈iE (first w h) s.2:=I.sub here (by rw [z];simp)
   refine Us (k+3) w h here _ _ fun b U R Y l5=>?_
   refine (d8 Y).mpr ?_
   have hlt:c.length+1<(K.set (c.length+1) (.lst (ds.map PP))).length:=(Vx.mp B.due).1
   have I2:LI l (first w h) c (ds,s.2) U:=⟨B.pre.trans R,aV R B.dic,aV R B.due,B.sub⟩
   have er:eS w h (first w h) (i+1)=(iT w h here).foldl (fV (first w h) here) (ds,s.2):=by
    show rK w h (first w h) (eS w h (first w h) i)=_
    rw [hs]
    unfold rK
    rw [z]
    simp
   refine j4 (fun j A n=>LI l (first w h) c (((iT w h here).take j).foldl (fV (first w h) here) (ds,s.2)) n/\n[b]? = some (.lst ((iT w h here).map (NB here)))/\here∈iE (first w h) (((iT w h here).take j).foldl (fV (first w h) here) (ds,s.2)).2 /\
    (((iT w h here).take j).foldl (fV (first w h) here) (ds,s.2)).1.length<=ds.length+j/\(((iT w h here).take j).foldl (fV (first w h) here) (ds,s.2)).2.length<=s.2.length+j/\j<=4/\∃ x y,A=RL w h l o.length (first w h) c.length (some (PP here)) x y)
    ⟨I2,Y,hk,Vv _,Vv _,by omega,x,y,rfl⟩ (fun j A n hI=>hI.2.1) ?_ ?_
   ·rintro j d A X hd ⟨L,Z,v,m1,m2,hj,x,y,rfl⟩
    obtain ⟨e,he,rfl⟩:=UI hd
    refine ⟨RL w h l o.length (first w h) c.length (some (PP here)) (some (PP e)) (some (PP (cE here e))),rfl,?_⟩
    have hj1:j<(iT w h here).length:=(Vx.mp he).1
    have:=GW w h here
    refine UE k hm L v (by omega) (by omega) fun μ7 I7 J=>?_
    rw [UJ he]
    have vl:=UG (first w h) here e (((iT w h here).take j).foldl (fV (first w h) here) (ds,s.2))
    exact ⟨I7,J _ _ (by omega) Z,UH v,by omega,by omega,by omega,_,_,rfl⟩
   ·rintro A X ⟨L,Z,v,m1,m2,hj,x,y,rfl⟩
    rw [Vm,Y5,<- er] at L m1 m2
    have:=GW w h here
    exact ⟨m - 1,by omega,i+1,by omega,L,by omega,by omega,_,_,_,rfl⟩
noncomputable abbrev bX (c:Int×Int):Xn:=(("Barred":Str),[(("corner":Str),PP c)])
theorem UY (k:Nat){w h:Int}(hw:1<=w/\w<=3)(e:1<=h/\h<=3)(a:List ((Int×Int)×Str)){c:Int×Int}(d:(cR w h).find? (fG a)=some c)(b:Hm):W (g (k+6) "check_corners" [SH w h a] b) fun q=>q.1=bX c/\b <+: q.2:=by
 rw [Fp,Fj]
 refine RK rfl ?_
 simp only [bZ,aX,aM,aL,aE]
 refine u3 k hw e a _ _ fun j i=>⟨trivial,?_⟩
 rw [d]
 refine uS (w_rIf.mpr ?_)
 simp only [rF,Vs,Vt,cM,aU,aE,aF,aS,Fc,if_true]
 refine uS (w_rRaiseI.mpr ?_)
 simp only [aE,aF]
 exact ⟨trivial,i⟩
theorem UZ (k:Nat){w h:Int}(hw:1<=w/\w<=3)(e:1<=h/\h<=3)(a:List ((Int×Int)×Str)){c:Int×Int}(d:(cR w h).find? (fG a)=some c)(b:Hm):W (g (k+7) "laid" [SH w h a] b) fun q=>q.1=bX c/\b <+: q.2:=by
 rw [Fq,Fj]
 refine uS (w_rCall.mpr ?_)
 simp only [aM,aL,aE]
 exact UY k hw e a d b
theorem U0 {c:Hm}{Q:D×Hm->Prop}{a:Nat}{bs:List Bool}(h:c[a]? = some (.lst (bs.map D.bl))):W (sR [.loc a] c) Q↔Q (.bl (bs.any id),c):=by
 have e:∀ bs:List Bool,jS (bs.map D.bl)=some bs:=fun bs=>by
  induction bs with
  | nil=>rfl
  | cons b bs d=>
   show (jS (bs.map D.bl)).map (b::·)=_
   rw [d];rfl
 simp only [sR,bF,h,VJ,e,VT]
 exact W_some
theorem U1 {b x:Str}{ns:List Str}{ds:List D}{d:D}{i a:Nat}{h:aH}{c:Hm}{Q:D×Hm->Prop}(n:h[i]? = some (some (.loc a)))(j:c[a]? = some (.exc x ns ds))(m:att b x=true)(l:(ns.zip ds).lookup b=some d)(H:Q (d,c)):W (jU b (att b) (aA i) h c) Q:=by
 have e:aA i h c=some (.loc a,c):=by simp [aA,n]
 rw [RJ,e]
 exact ⟨_,rfl,a,x,ns,ds,d,rfl,j,m,l,H⟩
theorem w_nePP {p:Int×Int}{a:Hm}{Q:D×Hm->Prop}:W (aT true (PP p) (PP p) a) Q↔Q (.bl false,a):=by
 rw [show (PP p:D)=.tup [.int p.1,.int p.2] from rfl,w_neP]
 simp
theorem w_eqPP {p:Int×Int}{a:Hm}{Q:D×Hm->Prop}:W (aT false (PP p) (PP p) a) Q↔Q (.bl true,a):=by
 rw [show (PP p:D)=.tup [.int p.1,.int p.2] from rfl,Rh]
 simp
theorem w_neLD {a:Hm}{Q:D×Hm->Prop}:W (aT true (LD cC) (D.tup [D.int 1,D.int 0,D.int 0,D.int 1,D.int 0,D.int 0]) a) Q↔Q (.bl false,a):=W_some
theorem U2 {j:Type}{a b c d:j}(h:[a,b].Perm [c,d]):(a=c/\b=d)\/(a=d/\b=c):=by
 have e:a∈[c,d]:=h.mem_iff.mp (by simp)
 simp only [VP,Xd,or_false] at e
 rcases e with rfl|rfl
 ·left
  have:=(a4m a).mp h
  exact ⟨rfl,a1p.mp this⟩
 ·right
  have i:=h.trans (List.Perm.swap a c [])
  have:=(a4m a).mp i
  exact ⟨rfl,a1p.mp this⟩
theorem U3 (k:Nat)(e:Int×Int)(l:Hm)(Q:D×Hm->Prop)(H:∀ b i j a,l <+: a->a[b]? = some (.lst [PP i,PP j])->[i,j].Perm (d5 e.1 e.2)->Q (.loc b,a)):W (f (k+1) "_law_beside" [PP e] l) Q:=by
 obtain ⟨x,y⟩:=e
 rw [Fs,W_fin]
 simp only [bK,k8,aE,uO,Vs,Vt,dB,cM,aU,aF,aS,jD,eV]
 unfold d5 at H
 dsimp only at H
 by_cases c:y % 4=0
 ·rw [if_pos c] at H
  simp only [c,beq_self_eq_true,if_true,w_mRet,eK,dP,aM,aL,aS,aE,aF,aU,oY,cU,fS,true_and]
  exact H _ (x,y - 1) (x,y+1) _ (bA _ _) (bL _ _) (.refl _)
 ·have m:(y % 4 == 0)=false:=by simpa using c
  rw [if_neg c] at H
  simp only [m,Vy,if_false,cK,bK,dB,cM,aU,aE,aF,aS,jD,eV]
  by_cases d:x % 4=0
  ·rw [if_pos d] at H
   simp only [d,beq_self_eq_true,if_true,w_mRet,eK,dP,aM,aL,aS,aE,aF,aU,oY,cU,fS,true_and]
   exact H _ (x - 1,y) (x+1,y) _ (bA _ _) (bL _ _) (.refl _)
  ·have n:(x % 4 == 0)=false:=by simpa using d
   rw [if_neg d] at H
   simp only [n,Vy,if_false,cK,w_mRet,aX,eK,dP,aM,aL,aS,aE,aF,aU,jD,oY,cU,fS,true_and]
   refine Aq (ps:=[(x+2 - x % 4,y),(x,y+2 - y % 4)]) (bL _ _) (by simp) fun o h=>?_
   match o,h,h.length_eq with
   | [i,j],h,_=>
    exact H _ i j _ ((bA _ _).trans (bA _ _)) (bL _ _) h
theorem U4 {e q c i:Int×Int}(h:[c,i].Perm (d5 e.1 e.2))(d:q∈d5 e.1 e.2):(if c=q then i else c)=dD e q:=by
 obtain ⟨a,b,j⟩:=GD e.1 e.2
 have l:dD e q=if q=a then b else a:=by unfold dD;rw [j]
 rw [j] at h d
 simp only [VP,Xd,or_false] at d
 rw [l]
 rcases U2 h with ⟨rfl,rfl⟩|⟨rfl,rfl⟩
 ·by_cases z:c=q
  ·rw [if_pos z,if_pos z.symm]
  ·rw [if_neg z,if_neg (WB z)]
 ·by_cases z:c=q
  ·rw [if_pos z]
   by_cases y:q=i
   ·rw [if_pos y,<- y,z]
   ·rw [if_neg y]
  ·rw [if_neg z,if_pos (d.resolve_right fun y=>z y.symm)]
theorem mZ {m:MS}{c:MR}(h:∀ b a,c b a=none)(b:aH)(a:Hm):cY m bU c b a=none:=by
 show (match m b a with|some (.nx,ρ1,μ1)=>c ρ1 μ1|_=>none)=none
 split
 ·exact h _ _
 ·rfl
theorem AJ {m:MS}{c d:MR}{b:aH}{a:Hm}(e:c b a=none)(h:∀ b a,d b a=none):cY m c d b a=none:=by
 unfold cY
 rw [e]
 exact mZ h b a
theorem AK (b:aH)(a:Hm):bU b a=none:=rfl
theorem U5 {m:MS}{c:MR}{e b:aH}{d a:Hm}(h:m e d=some (.nx,b,a)):cY m bU c e d=c b a:=by
 show (match m e d with|some (.nx,b,a)=>c b a|_=>none)=_
 rw [h]
theorem U6 (k:Nat){w h:Int}(hw:1<=w/\w<=3)(m:1<=h/\h<=3)(b:List ((Int×Int)×Str))(l:(cR w h).find? (fG b)=none)(c:Hm):g (k+6) "check_corners" [SH w h b] c=none:=by
 rw [Fp]
 have n:W ((aR 1 (aG (f (k+5) "barred") (aC (aA 0) aD))) [some (SH w h b),none] c) fun p=>p.1=.nx/\∃ a,p.2=([some (SH w h b),some .non],a):=by
  simp only [bZ,aX,aM,aL,aE]
  refine u3 k hw m b _ _ fun a s=>?_
  rw [l]
  exact ⟨trivial,a,rfl⟩
 obtain ⟨⟨r,q,o⟩,d,i,a,j⟩:=n
 cases i
 cases j
 have e:((cY (aR 1 (aG (f (k+3+2) "barred") (aC (aA 0) aD))) bU (cY (bD (aO (aB (d7 true) (aA 1) (mC .non))) cJ bG) (nP (aO (aB (d7 true) (aA 1) (mC .non))) (cY cJ (nV "Barred" "corner" (aA 1)) bU) bU) bU)) [some (SH w h b),none] c)=none:=by
  rw [U5 d]
  refine AJ ?_ AK
  rfl
 unfold qZ
 rw [e]
 rfl
theorem U7 (k:Nat){w h:Int}(hw:1<=w/\w<=3)(d:1<=h/\h<=3)(a:List ((Int×Int)×Str))(c:(cR w h).find? (fG a)=none)(b:Hm):g (k+7) "laid" [SH w h a] b=none:=by
 rw [Fq]
 have e:kQ (g (k+4+2) "check_corners") (aC (aA 0) aD) [some (SH w h a),none,none,none,none,none,none,none] b=none:=by
  show (g (k+6) "check_corners" [SH w h a] b).map _=none
  rw [U6 k hw d a c]
  rfl
 unfold qZ
 rw [AJ e (mZ (mZ (mZ (mZ (mZ (mZ AK))))))]
 rfl
theorem U8 (k:Nat){w h:Int}(hw:1<=w/\w<=3)(i:1<=h/\h<=3)(c:List ((Int×Int)×Str))(e:(cR w h).find? (fG c)=none)(d:Hm)(Q:D×Hm->Prop)
  (H:∀ a b,d <+: b->b[a]? = some (.dT (bB ((bE w h).map fun q=>(q,bY (mY (bQ c) w h) q))))->Q (.tup [.loc a,.non],b)):W (f (k+8) "_law_asked" [SH w h c] d) Q:=by
 rw [Fv,W_fin]
 simp only [bK,bZ,aS,Vs,Vt]
 refine (RI ?_).mpr ?_
 ·refine AJ ?_ AK
  show (g (k+7) "laid" [SH w h c] d).map _=none
  rw [U7 k hw i c e]
  rfl
 ·simp only [bZ,aX,aM,aL,aE]
  refine Hb k hw i c e _ _ fun a b l j=>?_
  simp only [Vs,Vt,w_mRet,dP,aM,aL,aE,aF]
  exact ⟨(show (2:Nat)<=VA from by decide),H a b l j⟩
theorem U9 (k:Nat){w h:Int}(hw:1<=w/\w<=3)(n:1<=h/\h<=3)(b:List ((Int×Int)×Str)){c:Int×Int}(m:(cR w h).find? (fG b)=some c)(e:Hm)(Q:D×Hm->Prop)(H:∀ d,e <+: d->Q (.tup [.non,PP c],d)):W (f (k+8) "_law_asked" [SH w h b] e) Q:=by
 rw [Fv,W_fin]
 simp only [bK,bZ,aS,Vs,Vt]
 obtain ⟨⟨x,a⟩,l,rfl,s⟩:=UZ k hw n b m e
 have r:W ((cY (aR 1 (aG (f (k+7) "laid") (aC (aA 0) aD))) (kQ (g (k+7) "laid") (aC (aA 0) aD)) bU) [some (SH w h b),some .non,some .non,none] e) fun q=>q=(bX c,[some (SH w h b),some .non,some .non,none],a):=by
  refine uS (w_rCall.mpr ?_)
  simp only [aM,aL,aE]
  exact ⟨_,l,rfl⟩
 obtain ⟨p,o,rfl⟩:=r
 refine (RH o rfl).mpr ?_
 have j:=bA a (C.exc (bX c).1 ((bX c).2.map (·.1)) ((bX c).2.map (·.2)))
 have i:(a++[C.exc (bX c).1 ((bX c).2.map (·.1)) ((bX c).2.map (·.2))])[a.length]? = some (C.exc "Barred" ["corner"] [PP c]):=bL a _
 generalize a++[C.exc (bX c).1 ((bX c).2.map (·.1)) ((bX c).2.map (·.2))]=μ2 at j i
 rw [bZ]
 refine U1 rfl i rfl rfl ?_
 simp only [Vs,Vt,w_mRet,dP,aM,aL,aE,aF]
 exact ⟨(show (2:Nat)<=VA from by decide),H _ (s.trans j)⟩
theorem Va (k:Nat)(A:Ly)(b:Hm)(Q:D×Hm->Prop)(H:∀ a,b <+: a->Q (.bl true,a)):W (f (k+1) "_law_is_laying" [LD A] b) Q:=by
 rw [Sz,W_fin]
 have e:W ((bD (fZ (gU (eJ (aG eY (aC (aA 0) (aC (mC (.ty "tuple")) aD))))) (aO (aB (aT true) (aG dZ (aC (aA 0) aD)) (mC (.int 6))))) (aQ (mC (.bl false))) bG) [some (LD A)] b) fun p=>p=(.nx,[some (LD A)],b):=⟨_,by kernel_rfl,rfl⟩
 rw [bK]
 refine bT e fun p c=>?_
 subst c
 dsimp only
 simp only [w_mRet,zX,aX,aM,aL]
 refine fR (xs:=[.int A.a,.int A.b,.int A.c,.int A.d,.int A.e,.int A.g]) (p:=fun _=>true) (v:=fun _=>.bl false) ?_
 simp only [w_iSeq,aE]
 refine w_seqT.mpr ⟨Aa,rfl,uU,fun d a hd c=>w_mTrue.mpr ⟨rfl,VF _⟩,fun d a hd _ c=>?_,fun m l i=>?_⟩
 ·have j:∃ z:Int,d=.int z:=by
   simp only [VP,Xd,or_false] at hd
   rcases hd with h|h|h|h|h|h<;>exact ⟨_,h⟩
  obtain ⟨z,rfl⟩:=j
  simp only [VZ,V2,Rb,zX,aX,aM,aL,aE,aF,aS,EZ,E4]
  exact ⟨rfl,VF _⟩
 ·refine (U0 (bs:=VW 6 false) (by rw [i];rfl)).mpr ?_
  exact H _ l
theorem Vb (k:Nat){A B:Ly}(v:Dih A)(w:Dih B){e:Int×Int}(J:fT e.1 e.2=true)(y:∀ p,bC A p=bC B (lC p (d4 e.1 e.2)))(j:Hm)(Q:D×Hm->Prop)(H:∀ a,j <+: a->Q (.bl true,a)):W (f (k+2) "_law_agree" [LD A,LD B,PP e] j) Q:=by
 rw [SA,W_fin]
 simp only [bK,bZ]
 refine Af (xs:=[P 0 0,P 1 2,P 3 (-1)]) (x:=fun d=>[some (.int (cV d).1),some (.int (cV d).2)]) (p:=fun _=>true) (v:=fun d=>PP (e.1+(cV d).1,e.2+(cV d).2)) ?_
 simp only [w_iSeq,eK,aM,aL,dP,aS,Ra]
 refine ⟨(show (2:Nat)<=VA from by decide),(show (2:Nat)<=VA from by decide),(show (2:Nat)<=VA from by decide),(show (3:Nat)<=VA from by decide),?_⟩
 refine (d8 (bL _ _)).mpr ?_
 have G:=bA j (C.lst [P 0 0,P 1 2,P 3 (-1)])
 refine ⟨iP (bL _ _),rfl,(show (3:Nat)<=VA from by decide),fun d a hd=>?_,fun d a hd z=>w_mTrue.mpr ⟨rfl,VF _⟩,fun d a hd _ z=>?_,fun h I u=>?_⟩
 ·simp only [VP,Xd,or_false] at hd
  rcases hd with rfl|rfl|rfl<;>rfl
 ·have E:([some (LD A),some (LD B),some (PP e),none,none,none]++[some (D.int (cV d).1),some (D.int (cV d).2)]:aH)=[some (LD A),some (LD B),some (.tup [.int e.1,.int e.2]),none,none,none,some (.int (cV d).1),some (.int (cV d).2)]:=rfl
  rw [E]
  simp only [aU,aE,aF,aS,gH,hZ,cU]
  exact ⟨(show (2:Nat)<=VA from by decide),trivial,VF _⟩
 ·have c:h[(j++[C.lst [P 0 0,P 1 2,P 3 (-1)]]).length]? = some (.lst ([(e.1+0,e.2+0),(e.1+1,e.2+2),(e.1+3,e.2+(-1))].map PP)):=u
  have o:j <+: h:=G.trans I
  generalize (j++[C.lst [P 0 0,P 1 2,P 3 (-1)]]).length=b at c
  show W (cQ _ _ _ [some (LD A),some (LD B),some (PP e),some (.loc b),none,none] h) _
  generalize [(e.1+0,e.2+0),(e.1+1,e.2+2),(e.1+3,e.2+(-1))]=ps at c
  simp only [fF,w_iSeq,aE,aF]
  refine (d8 c).mpr ?_
  refine j4 (fun i l a=>h=a/\∃ m n,l=[some (LD A),some (LD B),some (PP e),some (.loc b),m,n]) ⟨rfl,none,none,rfl⟩ (fun i l a x=>by rw [<- x.1];exact c) ?_ ?_
  ·rintro i d l r hd ⟨rfl,m,n,rfl⟩
   obtain ⟨q,K,rfl⟩:=VY.mp (V8 hd)
   refine ⟨_,rfl,?_⟩
   have st:(D.tup [D.int 1,D.int 0,D.int 0,D.int 1,D.int 0,D.int 0])=LD cC:=rfl
   simp only [Vs,Vt,bK,bZ,aX,aM,aL,aE,aF,dP,aS]
   refine ⟨uU,?_⟩
   rw [st]
   refine (F5 k e.1 e.2 _ _).mpr ?_
   refine UR k cC _ _ _ _ ?_
   refine AG k _ (UP Ay _) q.1 q.2 _ _ ?_
   simp only [Vs,Vt,dB,cM,aU,aX,aM,aL,aE,aF]
   refine AG k A v q.1 q.2 _ _ ?_
   refine AG k B w _ _ _ _ ?_
   have s:bC B (bC (j9 cC (d4 e.1 e.2)) q)=bC A q:=by
    rw [y q,UQ,Gs]
   dsimp only
   rw [show bC B ((bC (j9 cC ((d4 e.1 e.2).1,(d4 e.1 e.2).2)) (q.1,q.2)).1,(bC (j9 cC ((d4 e.1 e.2).1,(d4 e.1 e.2).2)) (q.1,q.2)).2)=bC A (q.1,q.2) from s]
   refine w_nePP.mpr ?_
   simp only [Vy,if_false,cK]
   exact ⟨trivial,_,_,rfl⟩
  ·rintro l r ⟨rfl,m,n,rfl⟩
   simp only [w_mRet,aS]
   exact H _ o
theorem Vc {w h:Int}{a:List ((Int×Int)×Str)}(b:(cR w h).find? (fG a)=none):∀ c∈cR w h,eL c=true->gO (bQ a) c.1 c.2=true:=fun c hc d=>by
 have:=YM.mp b c hc
 unfold fG at this
 rw [d] at this
 simpa using this
noncomputable abbrev LL (a:List ((Int×Int)×Str))(w h:Int)(q:Int×Int):Ly:=bY (mY (bQ a) w h) q
noncomputable abbrev RR (a:Nat)(w h:Int)(d:List ((Int×Int)×Str))(b c:Nat)(e i j:Option D):aH:=[some (.loc a),some (SH w h d),some (.loc b),e,some (.loc c),i,j]
theorem Hc:∀ w∈[(1:Int),2,3],∀ h∈[(1:Int),2,3],∀ e∈eA w h,fT e.1 e.2=true:=by decide +kernel
theorem w_neLDs {A:Ly}{a:Hm}{Q:D×Hm->Prop}:W (aT true (LD A) (LD A) a) Q↔Q (.bl false,a):=by
 have:aT true (LD A) (LD A) a=some (.bl false,a):=by
  simp only [aT,G9,VT]
  rfl
 rw [this]
 exact W_some
theorem Vd (k:Nat){w h:Int}(hw:1<=w/\w<=3)(r:1<=h/\h<=3)(c:List ((Int×Int)×Str))(hl:c.length<=89)(hb:(cR w h).find? (fG c)=none){a:Nat}{M:Hm}(v:M[a]? = some (.dT (bB ((bE w h).map fun q=>(q,LL c w h q)))))(Q:D×Hm->Prop)(H:∀ j,M <+: j->Q (.bl true,j)) :
  W (f (k+3) "_law_right" [.loc a,SH w h c] M) Q:=by
 obtain ⟨t1,t2,t3,t4,t5,t6,t7⟩:=AB w (cA hw) h (cA r)
 obtain ⟨⟨Y,h36⟩,_,o⟩:=rB w (cA hw) h (cA r)
 obtain ⟨_,_,nd,_⟩:=AH w (cA hw) h (cA r)
 have R:∀ q∈bE w h,bN (bB ((bE w h).map fun q=>(q,LL c w h q))) (bP q)=some (LD (LL c w h q)):=fun q hq=>G1 nd hq
 rw [SD,W_fin]
 simp only [bK,bZ,aX,aM,aL,aU,aE,aF,aS,rC,rD]
 refine F2 (k+1) w h hw r _ _ ?_
 have p1:=bA M (C.lst ((bE w h).map PP))
 have O:=bL M (C.lst ((bE w h).map PP))
 generalize hb1:M.length=b1 at O
 generalize M++[C.lst ((bE w h).map PP)]=μ1 at p1 O
 simp only [Vs,Vt,dB,q0,oX,iO,cM,aX,aM,aL,aU,aE,aF,aS,US (aV p1 v),jC,W6,Vy,if_false]
 have len:(bB ((bE w h).map fun q=>(q,LL c w h q))).length=(bE w h).length:=G7 _ _
 refine (UL (aV p1 v) (by rw [len];omega) ?_).mpr ?_
 ·intro p I
  unfold bB at I
  obtain ⟨x,_,rfl⟩:=VY.mp I
  simp [bP]
 have hsk:((dY (bB ((bE w h).map fun q=>(q,LL c w h q)))).map fun k=>D.tup (k.1.map D.int))=(bE w h).map PP:=by
  have hk:=G0 (l:=bB ((bE w h).map fun q=>(q,LL c w h q))) (ks:=(bE w h).map bP) (by rw [len];exact YF.mpr Y) (by rw [G6]) (G8 w (cA hw) h (cA r))
  rw [<- UK,<- hk,VN]
  rfl
 rw [hsk]
 have T:=bA μ1 (C.lst ((bE w h).map PP))
 have g2:=bL μ1 (C.lst ((bE w h).map PP))
 generalize μ1++[C.lst ((bE w h).map PP)]=μ2 at T g2
 simp only [aE,aF]
 refine (UT g2 (aV T O)).mpr ?_
 simp only [if_true,Vy,if_false]
 have hf:first w h∈bE w h/\atI ((bE w h).map PP) 0=some (PP (first w h)):=by
  rw [t5]
  match hz:bE w h,Y with
  | q::qs,_=>
   refine ⟨VO ..,?_⟩
   unfold atI
   rw [rA (a5D 0) (by simp)]
   rfl
 have e0:LL c w h (first w h)=cC:=by
  have:=(vD (bQ c) (eC w h) [(first w h,cC)] t2).1 (first w h) (by simp)
  show bY (cI (bQ c) [(first w h,cC)] (eC w h)) (first w h)=cC
  rw [this]
  simp [bY]
 have K:=p1.trans T
 refine (mR (aV T O) hf.2).mpr ?_
 refine (iA (aV K v) (eB _) (R _ hf.1)).mpr ?_
 rw [e0]
 simp only [dP,aM,aL,aS]
 refine ⟨uU,?_⟩
 refine w_neLD.mpr ?_
 simp only [Vy,if_false,cK,dB,oX,iO,aX,aM,aL]
 refine fR (xs:=(bE w h).map PP) (p:=fun _=>true) (v:=fun _=>.bl true) ?_
 simp only [w_iSeq,aE,aF]
 refine (d8 (aV T O)).mpr ⟨iP (aV T O),rfl,by rw [Vm,VS];omega,fun d j hd I=>w_mTrue.mpr ⟨rfl,VF _⟩,fun d j hd _ I=>?_,fun N p3 g3=>?_⟩
 ·obtain ⟨q,hq,rfl⟩:=VY.mp hd
  simp only [VZ,V2,aX,aM,aL,aU,aE,aF]
  refine (iA (aV (K.trans I) v) (eB _) (R _ hq)).mpr ?_
  exact Va (k+1) _ _ _ fun μ'' hp'=>⟨rfl,hp'⟩
 ·have p03:=K.trans p3
  have g3':N[μ2.length]? = some (.lst ((VW (bE w h).length true).map D.bl)):=by
   rw [g3,mU,VN]
   congr 2
   rw [List.map_replicate]
   exact List.map_const' ..
  refine (Fe g3').mpr ?_
  rw [show (VW (bE w h).length true).all id=true from by simp]
  simp only [jC,W6,Vy,if_false,cK]
  refine Af (xs:=c.map MD) (x:=fun d=>match d with|.tup [x,y]=>[some x,some y]|_=>[]) (p:=fun _=>true) (v:=fun d=>match d with|.tup [x,_]=>x|_=>.non) ?_
  simp only [w_iSeq,aU,aE,aF,aS,Aw]
  refine w_seqT.mpr ⟨Aa,rfl,by rw [Vm,VS];omega,fun d j hd=>?_,fun d j hd I=>w_mTrue.mpr ⟨rfl,VF _⟩,fun d j hd _ I=>?_,fun l p4 g4=>?_⟩
  ·obtain ⟨m,_,rfl⟩:=VY.mp hd
   rfl
  ·obtain ⟨m,_,rfl⟩:=VY.mp hd
   show W (aA 7 [some (.loc a),some (SH w h c),some (.loc b1),none,none,none,none,some (PP m.1),some (D.str m.2)] j) _
   simp only [aE,aF]
   exact ⟨rfl,VF _⟩
  ·have n:l[N.length]? = some (.lst ((c.map (·.1)).map PP)):=by
    rw [g4,mU,VN,VN]
    rfl
   have p04:=p03.trans p4
   generalize N.length=c4 at n
   show W (cQ _ _ _ (RR a w h c b1 c4 none none none) l) _
   simp only [fF,w_iSeq,aX,aM,aL,aU,aE,aF,aS,rC,rD]
   refine F1 (k+1) w h hw r _ _ ?_
   have p5:=bA l (C.lst ((eA w h).map PP))
   have g5:=bL l (C.lst ((eA w h).map PP))
   generalize l.length=c5 at g5
   generalize l++[C.lst ((eA w h).map PP)]=μ5 at p5 g5
   have Z:=p04.trans p5
   refine (d8 g5).mpr ?_
   refine j4 (fun i ρ j=>μ5 <+: j/\∃ o3 o5 o6,ρ=RR a w h c b1 c4 o3 o5 o6) ⟨VF _,none,none,none,rfl⟩ (fun i ρ j hI=>aV hI.1 g5) ?_ ?_
   ·rintro i d ρ μ6 hd ⟨B,o3,o5,o6,rfl⟩
    obtain ⟨e,E,rfl⟩:=VY.mp (V8 hd)
    refine ⟨_,rfl,?_⟩
    simp only [Vs,Vt,bK,k8,aX,aM,aL,aE,aF]
    refine U3 (k+1) e _ _ fun b X L μ7 U gb J=>?_
    refine (ET gb).mpr ?_
    have u:=Z.trans (B.trans U)
    have m1:X∈d5 e.1 e.2:=J.mem_iff.mp (by simp)
    have m2:L∈d5 e.1 e.2:=J.mem_iff.mp (by simp)
    have hg:=Uk hw r (Vc hb) e E L m2
    have ho:dD e L=X:=by
     have:=U4 J m2
     rw [<- this]
     by_cases z:X=L
     ·rw [if_pos z,z]
     ·rw [if_neg z]
    rw [ho] at hg
    simp only [Vs,Vt,dB,uN,cM,aU,aE,aF]
    refine (uW (aV ((p5.trans B).trans U) n)).mpr ?_
    have G:((c.map (·.1)).any fun p=>p == e)=bQ c e:=rfl
    rw [G]
    cases s:bQ c e with
    | true=>
     simp only [Vy,if_false,if_true,oX,iO,aX,aM,aL,aU,aE,aF]
     refine (iA (aV u v) (eB _) (R _ (o e E _ m1))).mpr ?_
     refine (iA (aV u v) (eB _) (R _ (o e E _ m2))).mpr ?_
     refine Vb k (AF _ _ _ _) (AF _ _ _ _) (Hc w (cA hw) h (cA r) e E) (fun p=>?_) _ _ fun μ8 p8=>?_
     ·have:bC (LL c w h X) p=bC (st (bQ c) e (LL c w h L)) p:=congrArg (fun A=>bC A p) hg
      rw [Gw] at this
      unfold iD at this
      rw [s,if_pos rfl,GA (Hc w (cA hw) h (cA r) e E)] at this
      exact this
     ·simp only [jC,W6,Vy,if_false,cK,aE,aF]
      refine (uW (aV (((p5.trans B).trans U).trans p8) n)).mpr ?_
      rw [G,s]
      simp only [if_true,W6,Vy,if_false,cK]
      exact ⟨(B.trans U).trans p8,_,_,_,rfl⟩
    | false=>
     simp only [Vy,if_false,cK,aE,aF]
     refine (uW (aV ((p5.trans B).trans U) n)).mpr ?_
     rw [G,s]
     simp only [if_true,XB,aU,aE,aF]
     refine (iA (aV u v) (eB _) (R _ (o e E _ m1))).mpr ?_
     refine (iA (aV u v) (eB _) (R _ (o e E _ m2))).mpr ?_
     have eq:LL c w h X=LL c w h L:=by
      have:LL c w h X=st (bQ c) e (LL c w h L):=hg
      rw [this]
      unfold st
      rw [s]
      rfl
     dsimp only
     rw [eq]
     refine w_neLDs.mpr ?_
     simp only [Vy,if_false,cK]
     exact ⟨B.trans U,_,_,_,rfl⟩
   ·rintro ρ μ6 ⟨B,o3,o5,o6,rfl⟩
    simp only [w_mRet,aS]
    exact H _ (Z.trans B)
theorem Ve {c:Hm}{a b:Nat}{F:Int×Int->Ly}{row:List (Int×Int)}(i:row.Nodup){Q:D×Hm->Prop}(d:c[a]? = some (.dT (bB (row.map fun q=>(q,F q)))))(e:c[b]? = some (.dT (bB (row.map fun q=>(q,F q))))):W (hU false (.loc a) (.loc b) c) Q↔Q (.bl true,c):=by
 have:hU false (.loc a) (.loc b) c=some (.bl true,c):=by
  simp only [hU,d,e,if_true,Ha c i row (fun _ h=>h),VT]
  rfl
 rw [this]
 exact W_some
theorem Vf (k:Nat)(ns:List Int)(I:Hm):W (f (k+9) "law" [.rol (ns.map D.int)] I) fun r=>r.1=.bl true:=by
 rw [SE,W_fin]
 simp only [bK,bZ,aX,aM,aL,aS,eK,aE]
 refine ⟨(show (5:Nat)<=VA from by decide),?_⟩
 refine Ul (k+4) ns _ [0,1,0,3,0] (by simp) _ (bL _ _) _ fun w h b J hw i N A=>?_
 simp only [Vs,Vt,aE,aF]
 refine u3 (k+3) hw i b _ _ fun K O=>?_
 cases m:(cR w h).find? (fG b) with
 | some c=>
  simp only [rF,Vs,Vt,k8,aX,aM,aL,aE,aF]
  refine U9 k hw i b m _ _ fun u E=>?_
  simp only [uO,Vs,Vt,dB,cM,aU,aE,aF,aS,Fc,if_true,w_mRet,mQ,Rv]
  exact w_eqPP.mpr rfl
 | none=>
  simp only [rF,Vs,Vt,k8,aX,aM,aL,aE,aF]
  refine U8 k hw i b m _ _ fun a u E v=>?_
  simp only [uO,Vs,Vt,dB,cM,aU,aE,aF,aS,Fb,Vy,if_false,cK,q0,Rw,oX,iO,aX,aM,aL]
  refine Vd (k+5) hw i b A m v _ fun d G=>?_
  simp only [jC,W6,Vy,if_false,cK,Vs,Vt,aE,aF]
  obtain ⟨_,_,B,hnd⟩:=AH w (cA hw) h (cA i)
  obtain ⟨⟨o,_⟩,_⟩:=rB w (cA hw) h (cA i)
  have l:=aV G v
  refine (UM l ⟨?_,?_⟩).mpr ?_
  ·intro z
   have:=congrArg Wm z
   rw [G7] at this
   exact o (YQ.mp this)
  ·have e:((bB ((bE w h).map fun q=>(q,LL b w h q))).map fun p=>Tb.hashT p.1)=((bE w h).map bP).map Tb.hashT:=by
    rw [<- G6 (fun q=>LL b w h q),VN]
    rfl
   rw [e]
   exact hnd
  have s:=bA d (C.dT (bB ((bE w h).map fun q=>(q,LL b w h q))))
  have n:=bL d (C.dT (bB ((bE w h).map fun q=>(q,LL b w h q))))
  have j:a<d.length:=(Vx.mp l).1
  generalize hb5:d.length=b5 at n j
  generalize d++[C.dT (bB ((bE w h).map fun q=>(q,LL b w h q)))]=μ5 at s n
  rw [j0]
  refine UN ?_
  simp only [aE,aF,aL]
  refine ⟨UO (aV s l),?_⟩
  refine (UU (aV s l)).mpr ?_
  have x:(μ5.set a (C.dT []))[b5]? = some (.dT (bB ((bE w h).map fun q=>(q,LL b w h q)))):=by
   rw [WM (VB j)]
   exact n
  generalize μ5.set a (C.dT [])=μ6 at x
  simp only [w_mRet,aU,aX,aM,aL,aE,aF]
  refine Hb (k+1) hw i b m _ _ fun M L H y=>?_
  simp only [aE,aF]
  exact (Ve B y (aV H x)).mpr rfl
theorem Vg:∀ ns:List Int,ns.length<=63->∃ a,hW S ds 9 "law" [.rol (ns.map D.int)] []=some (.bl true,a):=fun ns _=>by
 obtain ⟨⟨d,a⟩,b,c⟩:=Vf 0 ns []
 dsimp only at c
 subst c
 refine ⟨a,?_⟩
 unfold f at b
 exact b
end Lw
namespace Lw
open PySem L2 L3
theorem Vh (Q:X2):zV (Kx Q) "Barred" "corner":=Q8 (K:=Kx Q) (x:="Barred") (a:="corner") (bn:="CreaseError") (qual:="Barred.__init__") (sf:="self") (ar:="corner") (st:=m4 2 0) (s1:=(dM (m4 2 0)).getD 0 (.Pass ⟨0,0,0,0⟩)) (s2:=(dM (m4 2 0)).getD 1 (.Pass ⟨0,0,0,0⟩)) (by kernel_rfl) (by kernel_rfl) (by kernel_rfl) (by kernel_rfl) (by kernel_rfl) (by kernel_rfl) (by kernel_rfl) (by kernel_rfl) (by kernel_rfl) (fun kV b c an a ct u v=>by kernel_rfl)
theorem xz (Q:X2):XcOk S (Kx Q):=Q9 (by kernel_rfl) (by kernel_rfl) (by kernel_rfl) (by kernel_rfl) (by kernel_rfl) (List.forall_mem_cons.mpr ⟨Vh Q,fun _ z=>nomatch z⟩)
theorem dz (Q:X2):uL (Kx Q) ds:=by unfold uL;kernel_rfl
theorem cz (Q:X2):EM (Kx Q) S.con=true:=by kernel_rfl
theorem nz (Q:X2):S.no.map (Wz (Kx Q) Wh)=S.no.map fun _=>some none:=by kernel_rfl
theorem Vi {P:VQ}{w:V6}{Q:X2}
  {h:Wj}{a:Str → Option Value}(X:(Kx Q).In h)(G:h.Ns Wh a):TxtOk P w (Kx Q) a S ds ∧ ∃ f b,Fun (Kx Q) "law" "law" (aN 56) f b ∧ a "law" = some (.ref f) ∧ ∀ (s:Vp)(u:Value),a1K s b ⟨[u],[]⟩ [("_law_script",u)]:=by
 refine ⟨⟨QX (by decide +kernel),QY fun p c=>(EJ X G (dz Q) p c).1,QZ (Q4 X G (cz Q)),fun x d e=>?_,Q0 (Q3 X G (nz Q)),xz Q⟩,Q2 X G (dz Q) (by kernel_rfl) (by kernel_rfl)⟩
 ·cases e
end Lw
open PySem PySem.W PyProof.Rows
set_option maxRecDepth 100000 in
set_option maxHeartbeats 0 in
theorem PySem.Challenge.cw_creasecourt_k43_laid_edge_by_edge_holds : PySem.Challenge.rw_creasecourt_k43_laid_edge_by_edge.Holds := by
 w_on
 refine holds_law (by decide +kernel) fun a=>?_
 refine holds_open (q:=Lw.Vw) (loose:=[]) (Xt:=fun s=>xlAt Lw.Vw [] s&&recOk (a4P (a3F (a2m WN))) s) (XP:=XL Lw.Vw []) (Yf:=Hook.obs (a5S Lw.Kx Lw.As Lw.pQ)) (Ya:=Hook.val (a5S Lw.Kx Lw.As Lw.pQ)) (YP:=Hook.says (a5S Lw.Kx Lw.As Lw.pQ)) (N:=4046) Lw.run (Hook.of _) (Hook.keeps _) (fun s e=>xl_of s (Yw.mp e).1) XL.keeps (by rfl) (by rfl) (by rfl) (fun s e=>recFacts_of (Yw.mp e).2) (by rfl) (by first|assumption|decide +kernel) (by decide +kernel) ⟨rfl,rfl,rfl,rfl,rfl,by decide +kernel⟩ ?hw ?hc
 case hw=>w_witness2
 k_fill
 refine L3.walkM (l:=WN) (S:=Lw.S) (ds:=Lw.ds) (k:=9) (st:=Lw.aN 56) (x:="_law_script") rfl rfl ⟨rfl,by decide,by decide⟩ (fun w h Y=>PySem.W.kIn_of Y) (by kernel_rfl) (by kernel_rfl) ?F (fun c h _=>Lw.Vg c h)
 case F=>
  intro w d h b G
  refine' Lw.Vi (P:=WO) (w:=w)  b G
