import PyProof.Rows.All
import Wide.All
import OpenK.AllK
import Wide.FinOn
import PyProof.EqAt
import PyProof.EqKinds
import PyProof.TupleCall
import KE.KDictSum
import PyProof.SliceStr2
import PyProof.NeKinds
import PyProof.StrWalks
import PyProof.ConsumeWalk
import KE.KSortTup
import PyProof.Rows.SetFrom
import PyProof.SumAny
import PyProof.EnumMake
import KE.KRevIter
import PyProof.MeetsStr
import PyProof.ListRange
import PyProof.Rows.Range3
import KE.KDictList
import PyProof.PureStr
import PyProof.WalkInts
import PyProof.ConsumeS
import PyProof.ZipIter
import PyProof.AttrMissHeap
import KE.KDictOf
import PyProof.DictItems
import KE.KItemsList
import KE.KEqDict
import PySem.Challenge.RW_creasecourt_k44_stacks_and_edges
open Array renaming getElem?_toList->Wb,length_toList->WD,getD->WY,getElem?_eq_getElem->XG,getElem?_eq_none->X4,replicate->a0q,append_assoc->a1X,toList->a3D,map->a4Q
open Bool renaming and_eq_true->UL,false_eq_true->UN,false_ne_true->Vn,not_true->WI,not_false->W8,or_eq_true->Xi,and_eq_true_iff->XA,eq_iff_iff->Yw,or_false->ZK,and_true->a1h,not_eq_true'->a2G,false_and->a3n,and_false->a3o,and_assoc->a3p,true_and->a3C,or_true->a3T
open Classical renaming choose->Xp,choose_spec->X1
open False renaming elim->Wz
open ForInStep renaming yield->XF
open Function renaming comp_def->a1K
open Int renaming emod_lt_of_pos->VB,emod_nonneg->VI,toNat_natCast->Xq,neg_mul->YX,eq_ofNat_of_zero_le->a1v,add_zero->a1J,mul_le_mul->a3B,le_refl->a4H
open List renaming length_map->Uz,getElem?_eq_some_iff->UA,set_cons_zero->UH,set_cons_succ->UI,map_cons->UQ,mem_map->UR,size_toArray->US,map_map->UU,getElem?_eq_getElem->UW,mem_cons_of_mem->UX,prefix_refl->U0,getElem?_set_ne->U1,mem_cons_self->U2,length_append->U5,mem_cons->U6,map_append->Vb,cons_append->Vc,getElem?_map->Vd,mem_of_getElem?->Ve,nil_append->Vf,replicate->Vi,length_cons->Vm,all_cons->Vo,mem_singleton->Vp,length->Vq,zipWith_cons_cons->Vs,getElem?_append_left->Vt,range->Vv,map_congr_left->Vx,mem_append->Vz,getD->VA,getElem?_set_self->VC,find?_cons->VE,getElem?_eq_none_iff->VF,mem_append_right->VR,length_filter_le->VS,mem_range->VU,pairwise_iff_getElem->VX,take_length->V6,length_pos_iff->V8,length_set->Wg,getElem?_append_right->Wq,nodup_cons->Wr,replicate_succ->WE,filterMap_cons->WG,filter_append->WK,length_replicate->WM,getElem?_eq_none->WN,foldl_cons->WR,nodup_append->WV,not_mem_nil->W4,length_take->W5,getElem?_replicate->W6,all_eq_true->W7,take_of_length_le->Xc,find?_eq_none->Xd,mem_filter->Xh,reverse_cons->Xn,flatten_cons->Xo,length_take_le'->Xz,map_nil->XD,length_drop->XE,getElem_of_mem->XM,any_cons->XQ,zip_cons_cons->XU,mem_filterMap->XW,length_eq_zero_iff->X0,lookup_cons->Yg,getElem_mem->Yh,length_nil->Yu,map_eq_nil_iff->YC,take_succ->YF,mem_of_find?_eq_some->YL,drop_eq_getElem_cons->YM,take_add_one->YR,range'->YS,foldl_append->YT,ext_getElem?->YU,range'_succ->Y3,filter_cons->Y4,countP_cons->Y5,drop_of_length_le->Y8,take_append_drop->Zd,set_append_right->Ze,length_singleton->Zf,contains_iff_mem->Zg,nodup_nil->Zl,lookup->Zm,length_reverse->ZC,zip_nil_right->ZM,zipWith->ZV,pairwise_map->ZW,length_range->ZX,find?_append->ZY,range_succ->a0r,of_mem_zip->a0s,length_zip->a0t,append_nil->a0u,idxOf_lt_length_of_mem->a0F,drop_zero->a0N,map_take->a1g,getElem?_cons_succ->a1m,range_succ_eq_map->a1s,any_map->a1t,all_map->a1u,mem_iff_getElem?->a1G,getElem?_zipWith->a1H,dropLast_eq_take->a1I,mem_append_left->a1R,flatMap_append->a1W,foldl->a2g,take_sublist->a2B,reverse_perm->a2C,map_inj_left->a2D,getElem?_set->a2E,append_assoc->a2F,ext_getElem->a2N,range_zero->a3b,find?_some->a3c,filter_nil->a3d,tail_drop->a3l,map->a3m,map_drop->a3A,set_set->a3R,map_id'->a3S,map_id->a4h,tail->a5d
open List.Pairwise renaming nil->a0O,map->a0P,imp->a4i
open List.Perm renaming eq_of_pairwise->a0n
open List.cons renaming injEq->ZT
open Nat renaming le_refl->UJ,ne_of_lt->UY,lt_of_lt_of_le->Vg,zero_le->Vk,le_trans->VG,ne_of_gt->Wh,lt_irrefl->WJ,lt_or_ge->Xg,not_lt->XC,lt_trans->XH,lt_succ_self->XI,lt_trichotomy->Yc,succ_le_succ->Yp,le_succ->Yr,not_lt_zero->YA,min_eq_left->YB,le_of_lt->YD,lt_succ_of_lt->YW,le_of_eq->Zb,succ_mul->Z9,sub_zero->a0a,le_succ_of_le->a0b,mul_le_mul->a0Y,exists_eq_add_of_le->a1r,succ_pos->a1F,le_of_lt_succ->a2M,min_eq_right->a2Z,le_of_not_lt->a3a,lt_succ_iff->a3k,le_total->a4e,add_zero->a4f,add_comm->a4g,log2_lt->a4G,mod_lt->a5c
open Ne renaming symm->VH
open Option renaming bind_eq_some_iff->Uw,map_eq_some_iff->UB,bind_some->UZ,map_some->U7,isSome_iff_exists->XJ,isSome_map->YH,getD_none->ZU,none->a3z
open Option.some renaming inj->U9,injEq->a5b
open Or renaming inr->a1Q,inl->a2L
open Prod renaming ext->VT,ext_iff->a1q
open Prod.mk renaming inj->Ye,injEq->a2K
open PyProof.Rows renaming callWith_type1->V0,seqObj->V5,IntsAre->Xe,IsTup->Xy,callWith_builtin1->Zj,entry_list_sort->ZA,sortedAll_old->ZL,slot_list_sort->ZN,args_list_sort->ZR,sortedAll_at->ZS,AllBare->Z3,subscriptTail->a0c,listUpdate_at->a0d,lt_int->a0D,envOfC->a0E,seqEpoch_at->a1b,sortedHeap->a1y,Subscript_->a1D,subscriptTail_builtinR->a2k,plain_sorted->a2m,entry_sorted->a2o,args_sorted1->a2p,kind_sorted->a2W,list_sort_plain->a4o,get?_update_seq->a4p,wpAny_notIn_heap->a4r,sorted_ints->a4s,pow_int_small->a4t,pow_int->a4u,oneLt_int->a4v,mul_int->a4w,mirror_perm->a4x,floordiv_int->a4y,entry_proto_collect'->a4z,entry_list_iadd'->a4A,call_len_slot->a4B,bubble_perm->a4C,bubble->a4D,assign_Tuple_tuple->a4E,assign_Tuple->a4F,tail_any->a4T,sortedHeap_old->a4U
open PyProof.Rows.Boot renaming dict->Xa,sorted->XZ,list->Yb,tuple->Zc,int->Zk,sum->a2s,str->a2t,reversed->a2u,len->a2v,isinstance->a2w,bool->a2x,all->a2y
open PySem renaming wpAny_bind->Uy,Value->UC,Shared->UE,wpAny_pure->UG,sizeLine->UM,Expr->UO,wpAny->U3,sizeLine_eq->U4,model->U8,Program->Va,Around->Vh,starEach->Vj,World->Vu,wpAny_holding->Vy,compareOp->VD,Heap->VL,DictEntry->VM,wpAny_dictEntries->VN,sysModules->VO,wpAny_mono->VP,mem_of_lookup->VQ,cLine->V3,wpAny_notOrdered_dict->V4,bootBuiltins->Wa,mainGlobals->We,Obj->Wf,Pos->Wl,wpAny_call_entry->Wn,wpAny_truthy_bool->Ws,wpAny_newObj_type->Wt,tupleKind->Wu,wpAny_Call_Name_kw->Wx,assignEach->WH,intKind->WL,FuncData->WS,backTo->W0,codeAny_builtin->W2,NameKind->W3,plainId_quiet->W9,Scope->Xf,sliceBounds->Xk,wpAny_setField_rec->Xl,wpAny_passesOwn->Xu,wpAny_ite_split->Xv,behindInMarks->Xw,attributeBase->Xx,call_meets->XN,binaryOp->XO,wpAny_isInstance->XS,Keyword->XT,rawInt->XY,Params->X2,CmpOp->X3,wpAny_specialOf->X5,wpAny_dictEpoch->X6,codeAny->X7,wpAny_pyIter_list->Yi,foldedSetIterable->Yj,compEnvC->Yk,atKey->Yl,Paired->Yo,builtinLookup_eq_fast->Ys,swapsWith->Yx,pyNext->YG,wpAny_typeOf->YO,wpAny_rule->YZ,wpAny_pyIter_tuple->Y0,getattributeRaised->Y1,wpAny_field->Y7,wpAny_newList->Y9,wpAny_Call_method0_late->Zh,SetTable->Zi,wpAny_pyNext_list_item->Zo,wpAny_isOneOf_itemiter->Zp,typeLookup->Zq,call_meetsIn->Zs,evalArgs_none->Zt,wpAny_updateSeq->Zv,wpAny_loadPart'->Zw,wpAny_execs_nil->Zx,typeLookup_type->Zy,letOwnedTupleGo->Zz,wpAny_pyNext_list_end->ZE,keywordEach->ZO,firstArgMember->ZP,callType_codes->ZQ,Env->ZZ,wpAny_load->a0j,assign->a0k,Result->a0l,slot_list_getitem->a0x,codeAny_mono->a0A,callerA->a0B,BindsTo->a0I,wpAny_forIn_list->a0R,typeOf->a0S,kt_code_dict_new->a0T,PassesOwn->a0X,subscripted->a1a,size_of_entries->a1i,wpAny_richCompare_same_room->a1n,valueAt->a1o,getItem->a1p,wpAny_setField->a1w,wpAny_newTuple->a1x,pyIter->a1z,dictSetDefault->a1A,bindArgs->a1B,backToKw->a1C,Operator->a1E,wpAny_standAt->a1S,wpAny_getItem_list_slice->a1T,swappedStores->a1U,wpAny_pyNext_tuple_item->a1Y,wpAny_callSpecial?_slot->a1Z,slicePick->a2a,bindL->a2c,bindC->a2d,wpAny_pyNext_tuple_end->a2h,wpAny_Call_method_late->a2i,wpAny_Assign_Subscript->a2j,seqIndex_neg->a2l,isTrue->a2n,wpAny_isOneOf_keyiter->a2H,wpAny_updateDictKeys->a2Q,wpAny_pyIter_keyiter->a2R,wpAny_letGo->a2S,storedH_new->a2T,setField->a2U,seqIndex_of->a2V,getAttr?->a2X,IntMulOk->a3e,GenState->a3f,wpAny_dictFind_heap->a3g,wpAny_Name->a3q,typeIs_int->a3r,sub_AttributeError->a3s,sliceRange->a3t,entryOfKey->a3u,closureFor->a3v,checkCount->a3w,builtinsNs->a3x,wpAny_pyIter_slot->a3E,wpAny_pyIter_enum->a3F,wpAny_assign_Name->a3G,storedH->a3H,relabel->a3I,call_sum_walkAnyS->a3J,atKey_none_of_get->a3K,MeetsIn->a3Q,wpAny_pyIter_zip->a3U,wpAny_execs_cons->a3V,updateSeq->a3W,lastMarks->a3X,cellsFrom->a3Y,Slot->a4a,call->a4b,typeNameOfWhole->a4n,Sem->a4q,wpAny_tryCatch->a4R,wpAny_fieldsOf->a4S,recursionLimit->a4V,newExc->a4W,isSubtype_stop->a4Y,entry_at->a4Z,Tok->a5a
open PySem.Around renaming under_plainId->Wi
open PySem.Builtin renaming sorted->ZI
open PySem.Builtin.Dict renaming updateFrom->Ww,showsAll->WC,dictSlotArgs->Xj,selfAndRest->Yv,entriesForEmpty->ZD,addKeywords->Z0,samePairs->a0h,pairItems->a0i,quietEq->a0w,noArgs->a0H,readDirectly->a4K,pendingCount->a4L,mergeDict->a4M,merge->a4N,keyAndDefault->a4O,dictSlotNone->a4P
open PySem.Builtin.Dict_items renaming ownsTuple->XR,ownedTupleIsFree->YJ,ownedTupleFields->YK,pairFromOwner->YY,newIterator->a2O,dictOf->a2P
open PySem.Builtin.Int renaming intBits->Vl,intTooBig->XX
open PySem.Builtin.List renaming listExtendWith->Wc,listTooLong->Xr,listSameRef->Xs,listLengthHint->ZJ,listItems->a0g,listUpdate->a4J
open PySem.Builtin.Range renaming rangeSize->a4m
open PySem.Builtin.Str renaming occurrences->V1
open PySem.Builtin.Tuple renaming tupleHashOf->a4k,tupleCompareSizes->a4l
open PySem.Calls renaming callWith_builtin->Xb,spliced_cons->YE,call_function_entry->YI,spliced_nil->YN,Name_function_global->a0G,evalArgs_plain->a1L
open PySem.Challenge renaming rw_creasecourt_k44_stacks_and_edges->VY,pw_creasecourt_k44_stacks_and_edges->VZ
open PySem.Data renaming cell->a0f,fields->a0p,seq->a0Q,dict->a5e
open PySem.F renaming plainAttrs_dict->YQ,slot_dict_setdefault->Z8,slot_dict_items->a0J,slot_dict_clear->a0K,plainAttrs_list->a0L,sub_dict_dict->a1e,slot_dict_get->a1f,slot_dict_ne->a1j,slot_dict_eq->a1k
open PySem.Heap renaming get?_push_of_some->UD,lt_size->UK,get?_push_size->UT,get?_update_self->V2,get?_update_other->V7,SameBut->WX,size_push->X8,ExtBut->a0o
open PySem.Heap.DictOfH renaming new->a4I
open PySem.Heap.IsSliceOf renaming new->a0v
open PySem.Heap.IsTuple renaming push->Zu
open PySem.Heap.SameBut renaming update->Wj,refl->a0Z
open PySem.NameKind renaming free->WB,cell->WQ
open PySem.Obj renaming mapSeq->VW,data_mapDictKeys->XB,isFreed_of_dict->ZH,data_mapFields->a2A,mapDictKeys->a3j,mapFields->a3P
open PySem.Obj.ExactDict renaming mapDictKeys->a4d
open PySem.Paired renaming length->a0M,snoc->a3y
open PySem.PassesOwn renaming never->a1P
open PySem.SeqAt renaming ne_of_list_tuple->Wo,EqAt->Y6
open PySem.SeqAt.EqAt renaming int_int->a1d
open PySem.SetTable renaming below->Yt,slot->a2q,has->a2I
open PySem.SetTable.below renaming go->Yn
open PySem.SetTable.layClean renaming free->ZF
open PySem.SetTable.probe renaming go->Ym
open PySem.Str renaming ofString->X9
open PySem.Value renaming ref->UP,int->Vr,none->VJ,type->Wv,bool->Yd,builtin->a0V,str->a1c
open PySem.W renaming Frag->Ux,kas_place->V9,keepIn->Wm,kia_one->Wy,kas_desc->WA,fnOf->WO,kas_rev->WT,kas_asc->WU,kas_descPart->Xm,findIn->Yy,kas_tail3->YV,nsIn->Y2,codeIn->Za,methodObj->ZG,kas_sort->a0y,kas_bin->a0z,mg_of->a0C,hashAt->a0U,cellsFrom_some->a0W,specialIn->a1M,kitx_list->a1N,kitx_dict->a1O,plainGet->a1V,kas_count->a2b,instObj->a2e,OpenLaw->a2f,kitOne->a2r,WalkO->a2J,isFn->a2Y,KasT->a4j,kHook->a4X
open PySem.W.KasFin renaming intro->a3O
open PySem.W.KasT renaming ret->WW,ask->Zn
open PySem.W.OpenLaw renaming row->a1l
open PySem.W.OpenRow renaming toRowW->a2z
open PySem.W.RowW renaming records->a3N
open PySem.W.WData renaming int->Yq,weightAll->Yz,layable->a0e,weight->a0m,layableAll->a4c
open PySem.W.WShape renaming has->a3M
open PySem.Walks renaming tuple->a3L,list->a3Z
open Std.Legacy.Range renaming size->a3h,forIn_eq_forIn_range'->a3i
open Sum renaming inr->Z5,inl->Z6
open True renaming intro->WZ
local macro_rules|`(tactic| omega) => `(tactic| lia)
set_option compiler.extract_closed false
set_option Elab.async false
set_option linter.all false
set_option maxRecDepth 100000
set_option linter.all false
namespace L2
open PySem PySem.Spec PyProof.Rows
noncomputable abbrev bD:=Sum Int Str
noncomputable def uN:bD->UC->Bool
 | .inl k,v=>Value.isInt k v
 | .inr x,v=>Value.isStrOf x v
noncomputable def Ad (w:Vu):bD->Int
 | .inl k=>hashInt k
 | .inr x=>hashStr w x
theorem jQ:∀ {k:bD}{v:UC},uN k v=true->(∃ i t,k=Z6 i/\v=Vr i t)\/(∃ x t,k=Z5 x/\v=a1c x t)
 | .inl i,v,h=>by
  obtain ⟨t,e⟩:=Value.isInt_shape (k:=i) (v:=v) h
  exact .inl ⟨i,t,rfl,e⟩
 | .inr x,v,h=>by
  obtain ⟨t,e⟩:=Value.isStrOf_shape (x:=x) (v:=v) h
  exact .inr ⟨x,t,rfl,e⟩
theorem Gu (a b:Int):decide ((Z6 a:bD)=Z6 b)=(a == b):=by
 by_cases e:a=b
 ·subst e;simp
 ·have h:¬ (Z6 a:bD)=Z6 b:=fun q=>e (Sum.inl.inj q)
  rw [decide_eq_false h]
  exact (beq_eq_false_iff_ne.mpr e).symm
theorem Gv (a b:Str):decide ((Z5 a:bD)=Z5 b)=decide (a=b):=by
 by_cases e:a=b
 ·subst e;simp
 ·have h:¬ (Z5 a:bD)=Z5 b:=fun q=>e (Sum.inr.inj q)
  rw [decide_eq_false h,decide_eq_false e]
theorem Gw (a:Int)(b:Str):decide ((Z6 a:bD)=Z5 b)=false:=decide_eq_false (fun q=>nomatch q)
theorem Gx (a:Str)(b:Int):decide ((Z5 a:bD)=Z6 b)=false:=decide_eq_false (fun q=>nomatch q)
noncomputable def lR (prog:Va)(w:Vu):PySem.KeyKind prog w bD where
 is:=uN
 hash:=Ad w
 inj:=fun v a b ha hb=>by
  rcases jQ ha with ⟨i,t,rfl,rfl⟩|⟨x,t,rfl,rfl⟩
  ·rcases jQ hb with ⟨j,u,rfl,e⟩|⟨y,u,rfl,e⟩
   ·injection e with e1 _;rw [e1]
   ·exact nomatch e
  ·rcases jQ hb with ⟨j,u,rfl,e⟩|⟨y,u,rfl,e⟩
   ·exact nomatch e
   ·injection e with e1 _;rw [e1]
 byValue:=fun k v h=>by
  rcases jQ h with ⟨i,t,rfl,rfl⟩|⟨x,t,rfl,rfl⟩<;>rfl
 pyHash:=fun hv h=>by
  rcases jQ hv with ⟨i,t,rfl,rfl⟩|⟨x,t,rfl,rfl⟩
  ·exact wpAny_pyHash_int h
  ·exact wpAny_pyHash_str h
 eqBool:=fun hu hv h=>by
  rcases jQ hu with ⟨i,t,rfl,rfl⟩|⟨x,t,rfl,rfl⟩
  ·rcases jQ hv with ⟨j,u,rfl,rfl⟩|⟨y,u,rfl,rfl⟩
   ·rw [Gu] at h;exact wpAny_eqBool_int h
   ·rw [Gw] at h;exact SeqAt.EqAt.int_str i t y u _ _ _ _ h
  ·rcases jQ hv with ⟨j,u,rfl,rfl⟩|⟨y,u,rfl,rfl⟩
   ·rw [Gx] at h;exact SeqAt.EqAt.str_int x t j u _ _ _ _ h
   ·rw [Gv] at h;exact wpAny_eqBool_str h
 «strs»:=fun k x t v h=>by
  rcases jQ h with ⟨i,u,rfl,e⟩|⟨y,u,rfl,e⟩
  ·exact nomatch e
  ·injection e with e1 _
   subst e1
   cases v<;>rfl
end L2
namespace L2
open PySem PySem.Spec PyProof.Rows
inductive V where
 | non|bl (b:Bool)|int (i:Int)|str (x:Str)|byt (b:Array UInt8)|flt (b:UInt64)|ref (a:Addr)|ty (n:String)
 deriving DecidableEq
noncomputable def RelV:V->UC->Prop
 | .non,u=>u=VJ
 | .bl b,u=>u=Yd b
 | .int i,u=>∃ t,u=Vr i t
 | .str x,u=>∃ t,u=a1c x t
 | .byt b,u=>∃ t,u=Value.bytes b t
 | .flt b,u=>∃ t,u=Value.float b t
 | .ref a,u=>u=UP a
 | .ty n,u=>u=Wv n
noncomputable abbrev Vals:List V->List UC->Prop:=Yo RelV
theorem Vals.length {xs:List V}{us:List UC}(r:Vals xs us):xs.length=us.length:=a0M r
theorem Vals.get:∀ {xs:List V}{us:List UC}{i:Nat}{x:V},Vals xs us->xs[i]? = some x->∃ u,us[i]? = some u/\RelV x u
 | _,_,_,_,.nil,e=>by simp at e
 | _,_,0,_,.cons r _,e=>by simp at e;subst e;exact ⟨_,rfl,r⟩
 | _,_,i+1,x,.cons _ t,e=>by
  obtain ⟨u,h1,h2⟩:=Vals.get (i:=i) (x:=x) t (by simpa using e)
  exact ⟨u,by simpa using h1,h2⟩
theorem Vals.set {x:V}{u:UC}(r:RelV x u):∀ {xs:List V}{us:List UC}(i:Nat),Vals xs us->Vals (xs.set i x) (us.set i u)
 | _,_,_,.nil=>.nil
 | _,_,0,.cons _ t=>.cons r t
 | _,_,i+1,.cons q t=>.cons q (Vals.set r i t)
theorem Vals.append:∀ {xs ys:List V}{us ws:List UC},Vals xs us->Vals ys ws->Vals (xs++ys) (us++ws)
 | _,_,_,_,.nil,s=>s
 | _,_,_,_,.cons r t,s=>.cons r (Vals.append t s)
theorem Vals.take:∀ {xs:List V}{us:List UC}(n:Nat),Vals xs us->Vals (xs.take n) (us.take n)
 | _,_,0,_=>.nil
 | _,_,_+1,.nil=>.nil
 | _,_,n+1,.cons r t=>.cons r (Vals.take n t)
theorem Vals.drop:∀ {xs:List V}{us:List UC}(n:Nat),Vals xs us->Vals (xs.drop n) (us.drop n)
 | _,_,0,r=>r
 | _,_,_+1,.nil=>.nil
 | _,_,n+1,.cons _ t=>Vals.drop n t
noncomputable def RelO:Option V->Option UC->Prop
 | some v,some u=>RelV v u
 | none,none=>True
 | _,_=>False
noncomputable def KV {κ:Type}:List (κ×V)->List (κ×UC)->Prop:=Yo fun (p:κ×V)(q:κ×UC)=>p.1=q.1/\RelV p.2 q.2
noncomputable def kV:bD->V
 | .inl i=>.int i
 | .inr x=>.str x
inductive HO where
 | lst (xs:List V)
 | tup (xs:List V)
 | dK (kvs:List (bD×V))|dT (kvs:List (List bD×V))
 | set (S:Int->Bool)(n:Nat)
 | ins (C dx:Addr)(fs:List (Str×V))
 | own (x:Addr)
 | xd (fs:List (Str×V))
 | met (f x:Addr)
 | rng (lo hi:Int)
 | frz (o:Wf)(u:HO)
 | tbl (ps:Array UC)
 | ext (φ:VL->Prop)
noncomputable abbrev Hp:=Addr->Option HO
noncomputable def aK (H:Hp)(a:Addr)(o:HO):Hp:=fun b=>if b=a then some o else H b
theorem cV {H:Hp}{a:Addr}{o:HO}:aK H a o a=some o:=by unfold aK;rw [if_pos rfl]
theorem bE {H:Hp}{a b:Addr}{o:HO}(h:b≠a):aK H a o b=H b:=by unfold aK;rw [if_neg h]
theorem eH {H:Hp}{a b:Addr}{o:HO}(h:H a=some o)(h':H b=none):a≠b:=by
 intro e;subst e;rw [h] at h';cases h'
section
variable (P:Va)(w:Vu)
noncomputable def TupN (h:VL)(a:Addr)(xs:Array UC):Prop:=∃ o,h.get? a=some o/\o.cls=.type "tuple"/\∃ n,o.data=.seq xs n/\o.dict=none
theorem TupN.tup {h:VL}{a:Addr}{xs:Array UC}(x:TupN h a xs):Xy h a xs:=let ⟨o,e,c,n,d,_⟩:=x;⟨o,e,c,n,d⟩
theorem TupN.new (h:VL)(items:Array UC):TupN (h.push { cls:=.type "tuple",data:=.seq items }) h.objs.size items:=⟨_,UT _ rfl,rfl,_,rfl,rfl⟩
noncomputable def ObjOk (H:Hp)(h:VL)(a:Addr):HO->Prop
 | .lst xs=>xs.length<=UM/\∃ (its:List UC)(n:Nat),Vals xs its/\h.get? a=some { cls:=.type "list",data:=.seq its.toArray n }
 | .tup xs=>xs.length<=UM/\∃ its:List UC,Vals xs its/\TupN h a its.toArray
 | .dK kvs=>kvs.length<=UM/\(a == VO)=false/\∃ vs,KV kvs vs/\h.DictOf (lR P w) a vs
 | .dT kvs=>kvs.length<=UM/\(a == VO)=false/\∃ xs:List (List bD×Addr×UC),
   Yo (fun (p:List bD×V)(q:List bD×Addr×UC)=>p.1=q.1/\H q.2.1=some (.tup (p.1.map kV))/\RelV p.2 q.2.2) kvs xs /\
   ∃ o es ep,h.get? a=some o/\o.ExactDict/\o.data=.dict es ep/\es.toList=xs.map (a3u (Wu (lR P w)))/\(xs.map (·.1)).Nodup
 | .set S n=>h.SetOf (WL P w) a S n
 | .ins C dx fs=>H dx=some (.own a)/\fs.length<=1000/\dx≠a/\h.get? a=some (a2e C dx) /\
   ∃ mA,h.Ns1 dx mA/\(∀ f,RelO (fs.lookup f) (mA f))/\PySem.Within mA (fs.map (·.1))
 | .own _=>∃ o,h.get? a=some o
 | .xd fs=>∃ mA,h.Ns1 a mA/\∀ f,RelO (fs.lookup f) (mA f)
 | .rng lo hi=>∃ t u v,h.get? a=some { cls:=.type "range",data:=.fields #[.int lo t,.int hi u,.int 1 v] }
 | .frz o u=>h.get? a=some o/\ObjOk H h a u
 | .tbl ps=>h.get? a=some { cls:=.none,data:=.fields ps }
 | .met f x=>h.get? a=some (ZG (.ref f) (.ref x))
 | .ext φ=>φ h/\(∃ o,h.get? a=some o)/\∀ h1 h2:VL,φ h1->(∀ o,h1.get? a=some o->h2.get? a=some o)->φ h2
noncomputable def HOk (H:Hp)(h:VL):Prop:=∀ a o,H a=some o->ObjOk P w H h a o
end
section
variable {P:Va}{w:Vu}{H H':Hp}{h h':VL}{a:Addr}{o:HO}
theorem ObjOk.lt (x:ObjOk P w H h a o):a<h.objs.size:=by
 cases o with
 | lst xs=>obtain ⟨_,_,_,_,e⟩:=x;exact UK e
 | tup xs=>obtain ⟨_,_,_,p⟩:=x;exact p.tup.lt
 | dK kvs=>obtain ⟨_,_,_,_,o,_,_,e,_⟩:=x;exact UK e
 | dT kvs=>obtain ⟨_,_,_,_,o,_,_,e,_⟩:=x;exact UK e
 | set S n=>obtain ⟨o,_,_,_,e,_⟩:=x;exact UK e
 | ins C dx fs=>obtain ⟨_,_,_,e,_⟩:=x;exact UK e
 | own y=>obtain ⟨_,e⟩:=x;exact UK e
 | xd fs=>obtain ⟨_,⟨_,_,_,e,_⟩,_⟩:=x;exact UK e
 | rng lo hi=>obtain ⟨_,_,_,e⟩:=x;exact UK e
 | frz ob u=>obtain ⟨e,_⟩:=x;exact UK e
 | tbl ps=>exact UK (show h.get? a=some _ from x)
 | met f y=>exact UK (show h.get? a=some _ from x)
 | ext φ=>obtain ⟨_,⟨_,e⟩,_⟩:=x;exact UK e
theorem Yo.mapP {α β:Type}{F G:α->β->Prop}:∀ {l₁:List α}{l₂:List β},Yo F l₁ l₂->(∀ a b,F a b->G a b)->Yo G l₁ l₂
 | _,_,.nil,_=>.nil
 | _,_,.cons r t,f=>.cons (f _ _ r) (Yo.mapP t f)
theorem ObjOk.stay (x:ObjOk P w H h a o)(k:∀ b u,(b=a\/H b=some (.own a))->h.get? b=some u->h'.get? b=some u)
  (ho:∀ b,H b=some (.own a)->H' b=some (.own a))(ht:∀ b xs,H b=some (.tup xs)->H' b=some (.tup xs)):ObjOk P w H' h' a o:=by
 induction o with
 | lst xs=>obtain ⟨z,its,n,r,e⟩:=x;exact ⟨z,its,n,r,k _ _ (.inl rfl) e⟩
 | tup xs=>obtain ⟨z,its,r,ob,e,c⟩:=x;exact ⟨z,its,r,ob,k _ _ (.inl rfl) e,c⟩
 | dK kvs=>obtain ⟨z,y,vs,r,ob,es,ep,e,c⟩:=x;exact ⟨z,y,vs,r,ob,es,ep,k _ _ (.inl rfl) e,c⟩
 | dT kvs=>
  obtain ⟨z,y,xs,r,ob,es,ep,e,c⟩:=x
  exact ⟨z,y,xs,Yo.mapP r fun p q z=>⟨z.1,ht _ _ z.2.1,z.2.2⟩,ob,es,ep,k _ _ (.inl rfl) e,c⟩
 | set S n=>obtain ⟨ob,es,ep,t,e,c⟩:=x;exact ⟨ob,es,ep,t,k _ _ (.inl rfl) e,c⟩
 | ins C dx fs=>
  obtain ⟨d,z,ne,e,mA,⟨od,es,ep,e2,c⟩,r⟩:=x
  exact ⟨ho _ d,z,ne,k _ _ (.inl rfl) e,mA,⟨od,es,ep,k _ _ (.inr d) e2,c⟩,r⟩
 | own y=>obtain ⟨ob,e⟩:=x;exact ⟨ob,k _ _ (.inl rfl) e⟩
 | xd fs=>obtain ⟨mA,⟨od,es,ep,e,c⟩,r⟩:=x;exact ⟨mA,⟨od,es,ep,k _ _ (.inl rfl) e,c⟩,r⟩
 | rng lo hi=>obtain ⟨t,u,v,e⟩:=x;exact ⟨t,u,v,k _ _ (.inl rfl) e⟩
 | frz ob u ih=>obtain ⟨e,q⟩:=x;exact ⟨k _ _ (.inl rfl) e,ih q⟩
 | tbl ps=>
  have e:h.get? a=some { cls:=.none,data:=.fields ps }:=x
  show h'.get? a=some { cls:=.none,data:=.fields ps }
  exact k a _ (.inl rfl) e
 | met f y=>
  have e:h.get? a=some (ZG (.ref f) (.ref y)):=x
  show h'.get? a=some (ZG (.ref f) (.ref y))
  exact k a _ (.inl rfl) e
 | ext φ=>obtain ⟨p,⟨o,e⟩,st⟩:=x;exact ⟨st _ _ p fun o q=>k _ _ (.inl rfl) q,⟨o,k _ _ (.inl rfl) e⟩,st⟩
theorem HOk.lt (x:HOk P w H h)(e:H a=some o):a<h.objs.size:=(x a o e).lt
theorem HOk.fresh (x:HOk P w H h)(e:h.objs.size<=a):H a=none:=by
 cases q:H a with
 | none=>rfl
 | some u=>exact absurd (Vg (x.lt q) e) (WJ _)
theorem HOk.kept (x:HOk P w H h)(k:∀ b u,h.get? b=some u->h'.get? b=some u):HOk P w H h':=fun a o e=>
 (x a o e).stay (fun b u _ q=>k b u q) (fun _ q=>q) fun _ _ q=>q
theorem HOk.laid (x:HOk P w H h)(k:∀ b u,h.get? b=some u->h'.get? b=some u)(hp:h.objs.size<=a)(new:ObjOk P w (aK H a o) h' a o):HOk P w (aK H a o) h':=fun b u e=>by
 have hn:=x.fresh hp
 by_cases hb:b=a
 ·subst hb;rw [cV] at e;cases e;exact new
 ·rw [bE hb] at e
  exact (x b u e).stay (fun c v _ q=>k c v q) (fun c q=>by rw [bE (eH q hn)];exact q) fun c xs q=>by rw [bE (eH q hn)];exact q
end
noncomputable def Rd (H:Hp)(a:Addr)(u:HO):Prop:=H a=some u\/∃ o,H a=some (.frz o u)
theorem Rd.of {H:Hp}{a:Addr}{u:HO}(h:H a=some u):Rd H a u:=.inl h
theorem Rd.ok {P:Va}{w:Vu}{H:Hp}{h:VL}{a:Addr}{u:HO}(r:Rd H a u)(x:HOk P w H h):ObjOk P w H h a u:=by
 rcases r with r|⟨o,r⟩
 ·exact x a u r
 ·obtain ⟨_,q⟩:=x a _ r
  exact q
noncomputable def pB:Option HO->Prop
 | some (.lst _)=>True
 | some (.dK _)=>True
 | some (.dT _)=>True
 | some (.set _ _)=>True
 | some (.ins _ _ _)=>True
 | some (.ext _)=>True
 | _=>False
section
variable {P:Va}{w:Vu}{H:Hp}{h h':VL}{x e:Addr}{o':HO}
theorem HOk.write (ok:HOk P w H h)(mu:pB (H x))(he:e=x\/H e=some (.own x))(k:∀ b u,b≠e->h.get? b=some u->h'.get? b=some u)(heo:∃ u,h'.get? e=some u)
  (new:ObjOk P w (aK H x o') h' x o'):HOk P w (aK H x o') h':=fun b u q=>by
 have nown:∀ c y,H c=some (.own y)->c≠x:=fun c y r z=>by subst z;rw [r] at mu;exact mu
 have ntup:∀ c xs,H c=some (.tup xs)->c≠x:=fun c xs r z=>by subst z;rw [r] at mu;exact mu
 by_cases hb:b=x
 ·subst hb;rw [cV] at q;cases q;exact new
 ·rw [bE hb] at q
  by_cases hbe:b=e
  ·have q':H b=some (.own x):=by
    rcases he with z|z
    ·exact absurd (hbe.trans z) hb
    ·rw [hbe];exact z
   rw [q] at q';cases q'
   obtain ⟨v,hv⟩:=heo
   exact ⟨v,by rw [hbe];exact hv⟩
  ·refine (ok b u q).stay (fun c v hc r=>k c v ?_ r) (fun c r=>by rw [bE (nown c b r)];exact r) fun c xs r=>by rw [bE (ntup c xs r)];exact r
   rcases hc with rfl|hc
   ·exact hbe
   ·rintro rfl
    rcases he with z|z
    ·exact nown c b hc z
    ·rw [hc] at z;cases z;exact hb rfl
end
structure Un (fs ex:List Addr)(H H':Hp)(h h':VL):Prop where
 keep:∀ b o,h.get? b=some o->H b=none->b∉fs->b∉ex->h'.get? b=some o
 slot:∀ b o,h.get? b=some o->H b=none->b∈fs->b∉ex->∃ sl,h'.get? b=some { o with slots:=sl }
 free:∀ b o,h.get? b=some o->H b=none->b∉ex->H' b=none
 there:∀ b o,h.get? b=some o->b∉ex->∃ o',h'.get? b=some o'
 tups:∀ b xs,H b=some (.tup xs)->H' b=some (.tup xs)
 frzs:∀ b o u,H b=some (.frz o u)->H' b=some (.frz o u)
 tbls:∀ b ps,H b=some (.tbl ps)->∃ more,H' b=some (.tbl (ps++more))
section
variable {fs fs' ex ex':List Addr}{H H1 H2:Hp}{h h1 h2 h':VL}{a x e:Addr}{o:HO}
theorem Un.any (u:Un fs ex H H1 h h1){b:Addr}{ob:Wf}(q:h.get? b=some ob)(n:H b=none)(hx:b∉ex):∃ sl,h1.get? b=some { ob with slots:=sl }:=by
 by_cases hb:b∈fs
 ·exact u.slot b ob q n hb hx
 ·exact ⟨ob.slots,u.keep b ob q n hb hx⟩
theorem Un.trans (a:Un fs ex H H1 h h1)(b:Un fs ex H1 H2 h1 h2):Un fs ex H H2 h h2 where
 keep:=fun c ob q n hc hx=>b.keep c ob (a.keep c ob q n hc hx) (a.free c ob q n hx) hc hx
 slot:=fun c ob q n hc hx=>by
  obtain ⟨sl,e1⟩:=a.slot c ob q n hc hx
  obtain ⟨sl',e2⟩:=b.slot c _ e1 (a.free c ob q n hx) hc hx
  exact ⟨sl',e2⟩
 free:=fun c ob q n hx=>by
  obtain ⟨o',e1⟩:=a.there c ob q hx
  exact b.free c o' e1 (a.free c ob q n hx) hx
 there:=fun c ob q hx=>by
  obtain ⟨o',e1⟩:=a.there c ob q hx
  exact b.there c o' e1 hx
 tups:=fun c xs q=>b.tups c xs (a.tups c xs q)
 frzs:=fun c ob xs q=>b.frzs c ob xs (a.frzs c ob xs q)
 tbls:=fun c ps q=>by
  obtain ⟨m1,e1⟩:=a.tbls c ps q
  obtain ⟨m2,e2⟩:=b.tbls c _ e1
  exact ⟨m1++m2,by rw [e2,a1X]⟩
theorem Un.kept (k:∀ b u,h.get? b=some u->h'.get? b=some u):Un fs ex H H h h':=
 ⟨fun b ob q _ _ _=>k b ob q,fun b ob q _ _ _=>⟨ob.slots,k b ob q⟩,fun _ _ _ n _=>n,fun b ob q _=>⟨ob,k b ob q⟩,fun _ _ q=>q,fun _ _ _ q=>q,fun _ ps q=>⟨#[],by rw [q];simp⟩⟩
theorem Un.refl:Un fs ex H H h h:=Un.kept fun _ _ q=>q
theorem Un.laid (k:∀ b u,h.get? b=some u->h'.get? b=some u)(hp:h.objs.size<=a)(hn:H a=none):Un fs ex H (aK H a o) h h' where
 keep:=fun b u q _ _ _=>k b u q
 slot:=fun b u q _ _ _=>⟨u.slots,k b u q⟩
 free:=fun b u q n _=>by rw [bE (UY (Vg (UK q) hp))];exact n
 there:=fun b u q _=>⟨u,k b u q⟩
 tups:=fun b xs q=>by rw [bE (eH q hn)];exact q
 frzs:=fun b u xs q=>by rw [bE (eH q hn)];exact q
 tbls:=fun b ps q=>⟨#[],by rw [bE (eH q hn),q];simp⟩
theorem Un.write (mu:pB (H x))(he:e=x\/H e=some (.own x))(k:∀ b u,b≠e->h.get? b=some u->h'.get? b=some u)(heo:∃ u,h'.get? e=some u):Un fs ex H (aK H x o) h h':=by
 have hx:∀ b,H b=none->b≠x:=fun b n z=>by subst z;rw [n] at mu;exact mu
 have hb:∀ b,H b=none->b≠e:=fun b n z=>by
  subst z
  rcases he with r|r
  ·exact hx b n r
  ·rw [n] at r;cases r
 have hm:∀ b u,H b=some u->¬ pB (some u)->b≠x:=fun b u q nm z=>by subst z;rw [q] at mu;exact nm mu
 refine ⟨fun b u q n _ _=>k b u (hb b n) q,fun b u q n _ _=>⟨u.slots,k b u (hb b n) q⟩,fun b u q n _=>by rw [bE (hx b n)];exact n,fun b u q _=>?_,
  fun b xs q=>by rw [bE (hm b _ q fun z=>z)];exact q,fun b u xs q=>by rw [bE (hm b _ q fun z=>z)];exact q,fun b ps q=>⟨#[],by rw [bE (hm b _ q fun z=>z),q];simp⟩⟩
 by_cases hbe:b=e
 ·subst hbe;exact heo
 ·exact ⟨u,k b u hbe q⟩
end
noncomputable def rB (h:VL)(H:Hp):List Addr:=(Vv h.objs.size).filter fun a=>(H a).isSome
noncomputable def jR (h:VL)(H:Hp):VL:=PySem.W.hideAll h (rB h H)
theorem Gy (h:VL)(H:Hp):(jR h H).objs.size=h.objs.size:=PySem.W.hideAll_size _ _
theorem Gz {h:VL}{H:Hp}{b:Addr}{o:Wf}(e:h.get? b=some o)(n:H b=none):(jR h H).get? b=some o:=
 PySem.W.hideAll_get _ e fun hm=>by
  have q:(H b).isSome=true:=(Xh.mp hm).2
  rw [n] at q;simp at q
theorem GA {h:VL}{H:Hp}{b:Addr}{o:Wf}(e:(jR h H).get? b=some o):h.get? b=some o/\H b=none:=by
 have e':h.get? b=some o:=PySem.W.of_hideAll (rB h H) e
 refine ⟨e',?_⟩
 cases q:H b with
 | none=>rfl
 | some x=>
  have hm:b∈rB h H:=Xh.mpr ⟨VU.mpr (UK e'),by simp [q]⟩
  have z:(jR h H).get? b=none:=PySem.W.hideAll_none (rB h H) hm
  rw [z] at e;cases e
noncomputable def rC (g h:VL)(L:Addr):List (Addr×Wf):=(Vv h.objs.size).filterMap fun a=>if a=L\/(g.get? a).isSome=true then none else (h.get? a).map fun o=>(a,o)
theorem uO {g h:VL}{L a:Addr}{o:Wf}(h1:a≠L)(h2:g.get? a=none)(h3:h.get? a=some o):(a,o)∈rC g h L:=
 XW.mpr ⟨a,VU.mpr (UK h3),by simp [h1,h2,h3]⟩
theorem GB {g h:VL}{L:Addr}{p:Addr×Wf}(hp:p∈rC g h L):p.1≠L/\g.get? p.1=none/\h.get? p.1=some p.2:=by
 obtain ⟨b,_,e⟩:=XW.mp hp
 split at e
 ·cases e
 ·rename_i hn
  cases q:h.get? b with
  | none=>rw [q] at e;simp at e
  | some u=>
   rw [q] at e
   simp only [U7,a5b] at e
   subst e
   refine ⟨fun z=>hn (.inl z),?_,q⟩
   show g.get? b=none
   cases r:g.get? b with
   | none=>rfl
   | some v=>exact (hn (.inr (by simp [r]))).elim
noncomputable def bO (g h:VL)(L d:Addr):List (Addr×Wf):=(rC g h L).filter fun p=>decide (p.1≠d)
theorem GC {g h:VL}{L:Addr}:News g L h (rC g h L):=fun p hp=>let ⟨a,b,c⟩:=GB hp;⟨c,a,b⟩
end L2
namespace L2
open PySem PySem.Spec PyProof.Rows
structure Mod (K:Ux)(mg:Str->Option UC)(base:VL):Prop where
 kin:K.In base
 glob:base.Ns We mg
 blt:∃ mb,base.Ns a3x mb/\∀ x:Str,x ≠ "__name__"->mb x=Wa x
 nolimit:base.NoLimit
structure Cx where
 prog:Va
 w:Vu
 K:Ux
 mg:Str->Option UC
 base:VL
 A:Vh
 N:List Str
 s₀:UE
 H₀:Hp
 env:ZZ
 outer:List ZZ
 stack:List ZZ
 ex:List Addr
 fn:Str->Bool
 calm:Bool
 pn:List (Addr×Wf)
 xe:UC->UE->Prop
noncomputable def gW (l:List ZZ):List Addr:=l.filterMap (·.frame)
noncomputable abbrev Cx.fs (X:Cx):List Addr:=gW X.outer
noncomputable def pC (sc:Xf)(x:Str):Prop:=sc.names.lookup x=some .local\/sc.names.lookup x=some .cell\/sc.names.lookup x=some .free
noncomputable def Loc (sc:Xf)(x:Str):Prop:=sc.names.lookup x=some .local\/sc.names.lookup x=some .cell
noncomputable def GD (env:ZZ)(h:VL)(m:Str->Option UC)(x:Str)(u:UC):Prop:=
 (env.kindOf x=some .local/\m x=some u)\/((env.kindOf x=some .cell\/env.kindOf x=some .free)/\∃ c,env.cells.lookup x=some c/\h.IsCell c (some u))
structure Cx.Ok (X:Cx):Prop where
 mod:Mod X.K X.mg X.base
 kind:X.env.scope.kind=.function
 glob:X.env.globals=We
 blt:X.env.builtins=a3x
 above:X.s₀.heap.objs.size<=X.env.locals
 inj:∀ x y c,X.env.cells.lookup x=some c->X.env.cells.lookup y=some c->x=y
 has:∀ x,(X.env.kindOf x=some .cell\/X.env.kindOf x=some .free)->∃ c,X.env.cells.lookup x=some c
 cab:∀ x c,X.fn x=true->X.env.cells.lookup x=some c->X.s₀.heap.objs.size<=c
 hd:X.calm=true->X.A.handled=none
 frames:X.A.frames=some X.stack
 stk:X.stack=X.outer\/(X.stack=X.env::X.outer/\X.env.frame=some X.env.locals)
 exf:∀ b∈X.ex,b≠X.env.locals/\∀ x c,X.env.cells.lookup x=some c->c≠b
 bs:∀ b o,X.base.get? b=some o->X.s₀.heap.get? b=some o/\X.H₀ b=none
 bsz:X.base.objs.size<=X.s₀.heap.objs.size
 noex:∀ b o,X.base.get? b=some o->b∉X.ex
 exfs:∀ b∈X.ex,b∉X.fs
 funs:X.s₀.heap.FunFrames X.base X.outer
 frf:∀ b∈X.fs,X.H₀ b=none
structure Inv (X:Cx)(a5f:List (Addr×Wf))(σ:List (Option V))(H:Hp)(s:UE):Prop where
 ok:X.Ok
 os:s.os=X.s₀.os
 bare:Z3 s.gens
 base:Un X.fs X.ex X.H₀ H X.s₀.heap s.heap
 loc:∃ m,s.heap.Ns X.env.locals m/\∀ (i:Nat)(x:Str)(v:V),X.N[i]? = some x->σ[i]? = some (some v)->pC X.env.scope x->∃ u,RelV v u/\GD X.env s.heap m x u
 cell:∀ x c,X.env.cells.lookup x=some c->∃ v,s.heap.IsCell c v
 free:H X.env.locals=none
 freeC:∀ x c,X.env.cells.lookup x=some c->H c=none
 pin:∀ p∈X.pn++a5f,s.heap.get? p.1=some p.2/\H p.1=none/\p.1≠X.env.locals/\p.1∉X.fs/\∀ v,p.2.data≠.cell v
 hok:HOk X.prog X.w H s.heap
 len:σ.length=X.N.length
section
variable {X:Cx}{a5f:List (Addr×Wf)}{σ:List (Option V)}{H H':Hp}{s:UE}{h':VL}
theorem Cx.Ok.nofr (ok:X.Ok){b:Addr}{o:Wf}(e:X.base.get? b=some o):b∉X.fs:=fun hb=>by
 have:=(ok.funs.mem hb).1
 rw [e] at this;cases this
theorem Inv.bs (I:Inv X a5f σ H s):∀ b o,X.base.get? b=some o->s.heap.get? b=some o/\H b=none:=fun b o e=>
 ⟨I.base.keep b o (I.ok.bs b o e).1 (I.ok.bs b o e).2 (I.ok.nofr e) (I.ok.noex b o e),I.base.free b o (I.ok.bs b o e).1 (I.ok.bs b o e).2 (I.ok.noex b o e)⟩
theorem Inv.bk (I:Inv X a5f σ H s):∀ b o,X.base.get? b=some o->s.heap.get? b=some o:=fun b o e=>(I.bs b o e).1
theorem Inv.mod (I:Inv X a5f σ H s):Mod X.K X.mg X.base:=I.ok.mod
theorem Inv.kIn (I:Inv X a5f σ H s):X.K.In s.heap:=I.ok.mod.kin.keeps I.bk
theorem Inv.nolimit (I:Inv X a5f σ H s):s.heap.NoLimit:=I.ok.mod.nolimit.keeps I.bk
theorem Inv.fr (I:Inv X a5f σ H s):∃ m,Fr X.base X.env.locals s.heap m:=
 let ⟨m,hn,_⟩:=I.loc
 ⟨m,hn,I.bk,VG I.ok.bsz I.ok.above⟩
theorem Inv.lt (I:Inv X a5f σ H s):X.env.locals<s.heap.objs.size:=let ⟨_,hn,_⟩:=I.loc;hn.lt
theorem Inv.sz (I:Inv X a5f σ H s):X.s₀.heap.objs.size<=s.heap.objs.size:=VG I.ok.above (YD I.lt)
theorem Inv.nofs (I:Inv X a5f σ H s){a:Addr}(h:s.heap.objs.size<=a):a∉X.fs:=fun hb=>by
 obtain ⟨_,o,ho,_⟩:=I.ok.funs.mem hb
 exact absurd (Vg (UK ho) (VG I.sz h)) (WJ _)
theorem Inv.cne (I:Inv X a5f σ H s):∀ x c,X.env.cells.lookup x=some c->c≠X.env.locals:=fun x c e z=>by
 obtain ⟨v,o,ho,hd⟩:=I.cell x c e
 obtain ⟨m,⟨o',es,ep,ho',hd',_⟩,_⟩:=I.loc
 rw [z,ho'] at ho;cases ho;rw [hd'] at hd;cases hd
theorem Inv.funs (I:Inv X a5f σ H s):s.heap.FunFrames X.base X.outer:=by
 have all:∀ (l:List ZZ),(∀ b∈gW l,b∈X.fs)->X.s₀.heap.FunFrames X.base l->s.heap.FunFrames X.base l:=by
  intro l
  induction l with
  | nil=>intro _ _;trivial
  | cons env r ih=>
   intro hs hl
   obtain ⟨hk,⟨L,o,hf,hn,ho,hd⟩,hr⟩:=hl
   have hL:L∈X.fs:=hs L (by unfold gW;rw [WG,hf];exact U2)
   obtain ⟨sl,e⟩:=I.base.slot L o ho (I.ok.frf L hL) hL fun z=>I.ok.exfs L z hL
   exact ⟨hk,⟨L,_,hf,hn,e,hd⟩,ih (fun b hb=>hs b (by unfold gW;rw [WG,hf];exact UX _ hb)) hr⟩
 exact all X.outer (fun _ hb=>hb) I.ok.funs
theorem Inv.stack (I:Inv X a5f σ H s):s.heap.FunFrames X.base X.stack:=by
 rcases I.ok.stk with e|⟨e,hf⟩
 ·rw [e];exact I.funs
 ·rw [e]
  obtain ⟨m,hn,_⟩:=I.loc
  refine .cons (by rw [I.ok.kind];decide) hf hn ?_ I.funs
  exact Heap.get?_none_of_le (VG I.ok.bsz I.ok.above)
theorem Inv.stkSub (I:Inv X a5f σ H s):∀ b∈gW X.stack,b∈X.env.locals::X.fs:=fun b hb=>by
 rcases I.ok.stk with e|⟨e,hf⟩
 ·rw [e] at hb;exact UX _ hb
 ·rw [e] at hb
  unfold gW at hb
  rw [WG,hf] at hb
  exact hb
theorem Inv.stkFree (I:Inv X a5f σ H s):∀ b∈gW X.stack,H b=none:=fun b hb=>by
 rcases U6.mp (I.stkSub b hb) with e|hb
 ·rw [e];exact I.free
 ·obtain ⟨_,o,ho,_⟩:=I.ok.funs.mem hb
  exact I.base.free b o ho (I.ok.frf b hb) fun z=>I.ok.exfs b z hb
theorem Inv.step {g':Array a3f}{t':Nat}{d':Drawn}{ch:List Addr}(I:Inv X a5f σ H s)
  (hch:∀ b∈ch,(b∈X.ex\/X.s₀.heap.objs.size<=b)/\b≠X.env.locals/\(∀ x c,X.env.cells.lookup x=some c->c≠b)/\∀ p∈X.pn++a5f,p.1≠b)
  (keep:∀ b o,b≠X.env.locals->b∉X.fs->b∉ch->s.heap.get? b=some o->H b=none->h'.get? b=some o)
  (slot:∀ b o,b≠X.env.locals->b∈X.fs->b∉ch->s.heap.get? b=some o->H b=none->∃ sl,h'.get? b=some { o with slots:=sl })(free:∀ b o,b∉ch->s.heap.get? b=some o->H b=none->H' b=none)
  (there:∀ b o,b∉ch->s.heap.get? b=some o->∃ o',h'.get? b=some o')
  (tups:∀ b xs,H b=some (.tup xs)->H' b=some (.tup xs))(frzs:∀ b o u,H b=some (.frz o u)->H' b=some (.frz o u))(tbls:∀ b ps,H b=some (.tbl ps)->∃ more,H' b=some (.tbl (ps++more)))
  (ns:∀ m,s.heap.Ns X.env.locals m->h'.Ns X.env.locals m)(hok:HOk X.prog X.w H' h')(hg:Z3 g') :
  Inv X a5f σ H' { s with heap:=h',gens:=g',drawn:=d',toks:=t' }:=by
 have neL:∀ b o,X.s₀.heap.get? b=some o->b≠X.env.locals:=fun b o e=>UY (Vg (UK e) I.ok.above)
 have neC:∀ b o,X.s₀.heap.get? b=some o->b∉X.ex->b∉ch:=fun b o e hx hb=>by
  rcases (hch b hb).1 with z|z
  ·exact hx z
  ·exact absurd (Vg (UK e) z) (WJ _)
 have cellK:∀ x c,X.env.cells.lookup x=some c->∀ v,s.heap.IsCell c v->h'.IsCell c v:=fun x c e v ⟨o,ho,hd⟩=>by
  have nch:c∉ch:=fun z=>(hch c z).2.2.1 x c e rfl
  by_cases hc:c∈X.fs
  ·obtain ⟨sl,q⟩:=slot c o (I.cne x c e) hc nch ho (I.freeC x c e)
   exact ⟨_,q,hd⟩
  ·exact ⟨o,keep c o (I.cne x c e) hc nch ho (I.freeC x c e),hd⟩
 refine ⟨I.ok,I.os,hg,⟨fun b o e n hb hx=>?_,fun b o e n hb hx=>?_,fun b o e n hx=>?_,fun b o e hx=>?_,fun b xs e=>tups b xs (I.base.tups b xs e),fun b o xs e=>frzs b o xs (I.base.frzs b o xs e),fun b ps e=>?_⟩,?_,fun x c e=>?_,?_,fun x c e=>?_,fun p hp=>?_,hok,I.len⟩
 ·exact keep b o (neL b o e) hb (neC b o e hx) (I.base.keep b o e n hb hx) (I.base.free b o e n hx)
 ·obtain ⟨sl,e1⟩:=I.base.slot b o e n hb hx
  obtain ⟨sl',e2⟩:=slot b _ (neL b o e) hb (neC b o e hx) e1 (I.base.free b o e n hx)
  exact ⟨sl',e2⟩
 ·obtain ⟨o',e1⟩:=I.base.there b o e hx
  exact free b o' (neC b o e hx) e1 (I.base.free b o e n hx)
 ·obtain ⟨o',e1⟩:=I.base.there b o e hx
  exact there b o' (neC b o e hx) e1
 ·obtain ⟨m1,e1⟩:=I.base.tbls b ps e
  obtain ⟨m2,e2⟩:=tbls b _ e1
  exact ⟨m1++m2,by rw [e2,a1X]⟩
 ·obtain ⟨m,hn,hl⟩:=I.loc
  refine ⟨m,ns m hn,fun i x v e1 e2 e3=>?_⟩
  obtain ⟨u,r,l⟩:=hl i x v e1 e2 e3
  refine ⟨u,r,?_⟩
  rcases l with l|⟨k,c,e,z⟩
  ·exact .inl l
  ·exact .inr ⟨k,c,e,cellK x c e _ z⟩
 ·obtain ⟨v,z⟩:=I.cell x c e
  exact ⟨v,cellK x c e v z⟩
 ·obtain ⟨m,⟨o,_,_,ho,_⟩,_⟩:=I.loc
  exact free _ o (fun z=>(hch _ z).2.1 rfl) ho I.free
 ·obtain ⟨v,o,ho,hd⟩:=I.cell x c e
  exact free c o (fun z=>(hch c z).2.2.1 x c e rfl) ho (I.freeC x c e)
 ·obtain ⟨e,n,ne,nf,d⟩:=I.pin p hp
  have nch:p.1∉ch:=fun z=>(hch p.1 z).2.2.2 p hp rfl
  exact ⟨keep p.1 p.2 ne nf nch e n,free p.1 p.2 nch e n,ne,nf,d⟩
theorem Inv.un {t':Nat}(I:Inv X a5f σ H s)(u:Un X.fs [] H H' s.heap h')(hok:HOk X.prog X.w H' h'):Inv X a5f σ H' { s with heap:=h',toks:=t' }:=by
 obtain ⟨m,⟨o,es,ep,ho,r⟩,_⟩:=id I.loc
 obtain ⟨sl,hL⟩:=u.any ho I.free (by simp)
 exact I.step (g':=s.gens) (d':=s.drawn) (ch:=[]) (fun _ z=>nomatch z) (fun b o _ hb _ e n=>u.keep b o e n hb (by simp)) (fun b o _ hb _ e n=>u.slot b o e n hb (by simp)) (fun b o _ e n=>u.free b o e n (by simp)) (fun b o _ e=>u.there b o e (by simp)) u.tups u.frzs u.tbls (fun m' hm=>by
  obtain ⟨o',es',ep',ho',r'⟩:=hm
  rw [ho] at ho';cases ho'
  exact ⟨_,es',ep',hL,r'⟩) hok I.bare
theorem Inv.call {g':Array a3f}{t':Nat}{d':Drawn}{ch:List Addr}(I:Inv X a5f σ H s)(u:Un (gW X.stack) ch H H' s.heap h')(hok:HOk X.prog X.w H' h')(hg:Z3 g')
  (hch:∀ b∈ch,(b∈X.ex\/X.s₀.heap.objs.size<=b)/\b≠X.env.locals/\(∀ x c,X.env.cells.lookup x=some c->c≠b)/\∀ p∈X.pn++a5f,p.1≠b) :
  Inv X a5f σ H' { s with heap:=h',gens:=g',drawn:=d',toks:=t' }:=by
 obtain ⟨m,⟨o,es,ep,ho,r⟩,_⟩:=id I.loc
 obtain ⟨sl,hL⟩:=u.any ho I.free fun z=>(hch _ z).2.1 rfl
 exact I.step (ch:=ch) hch (fun b o hL hb hc e n=>u.keep b o e n (fun z=>(U6.mp (I.stkSub b z)).elim hL hb) hc) (fun b o _ _ hc e n=>u.any e n hc) (fun b o hc e n=>u.free b o e n hc) (fun b o hc e=>u.there b o e hc) u.tups u.frzs u.tbls (fun m' hm=>by
  obtain ⟨o',es',ep',ho',r'⟩:=hm
  rw [ho] at ho';cases ho'
  exact ⟨_,es',ep',hL,r'⟩) hok hg
theorem Inv.turned {t':Nat}{it:Addr}(I:Inv X a5f σ H s)(k:∀ b o,b≠it->s.heap.get? b=some o->h'.get? b=some o)(hn:H it=none)(hL:it≠X.env.locals)
  (h1:it∈X.ex\/X.s₀.heap.objs.size<=it)(h2:∀ x c,X.env.cells.lookup x=some c->c≠it)(h3:∀ p∈X.pn++a5f,p.1≠it):Inv X a5f σ H { s with heap:=h',toks:=t' }:=by
 have nit:∀ b u,H b=some u->b≠it:=fun b u e z=>by rw [z,hn] at e;cases e
 refine I.step (g':=s.gens) (d':=s.drawn) (ch:=[it]) (fun b hb=>?_) (fun b o _ _ hc e _=>k b o (fun z=>hc (by simp [z])) e) (fun b o _ _ hc e _=>⟨o.slots,k b o (fun z=>hc (by simp [z])) e⟩) (fun _ _ _ _ n=>n)
  (fun b o hc e=>⟨o,k b o (fun z=>hc (by simp [z])) e⟩) (fun _ _ e=>e) (fun _ _ _ e=>e) (fun b ps e=>⟨#[],by rw [e];simp⟩) (fun m hm=>?_) (fun b u e=>?_) I.bare
 ·have e:b=it:=by simpa using hb
  subst e
  exact ⟨h1,hL,h2,h3⟩
 ·obtain ⟨o,es,ep,ho,r⟩:=hm
  exact ⟨o,es,ep,k _ o (VH hL) ho,r⟩
 ·refine (I.hok b u e).stay (fun c v hc q=>k c v ?_ q) (fun _ q=>q) fun _ _ q=>q
  rcases hc with z|z
  ·rw [z];exact nit b u e
  ·exact nit c _ z
theorem Inv.tok (I:Inv X a5f σ H s)(t:Nat):Inv X a5f σ H { s with toks:=t }:=I.un (h':=s.heap) (t':=t) Un.refl I.hok
theorem Inv.kept {t':Nat}(I:Inv X a5f σ H s)(k:∀ b u,s.heap.get? b=some u->h'.get? b=some u):Inv X a5f σ H { s with heap:=h',toks:=t' }:=I.un (Un.kept k) (I.hok.kept k)
theorem Inv.laid {a:Addr}{o:HO}{t':Nat}(I:Inv X a5f σ H s)(k:∀ b u,s.heap.get? b=some u->h'.get? b=some u)(hp:s.heap.objs.size<=a)(new:ObjOk X.prog X.w (aK H a o) h' a o) :
  Inv X a5f σ (aK H a o) { s with heap:=h',toks:=t' }:=I.un (Un.laid k hp (I.hok.fresh hp)) (I.hok.laid k hp new)
theorem Inv.write {x e:Addr}{o:HO}{t':Nat}(I:Inv X a5f σ H s)(mu:pB (H x))(he:e=x\/H e=some (.own x))(k:∀ b u,b≠e->s.heap.get? b=some u->h'.get? b=some u)(heo:∃ u,h'.get? e=some u)
  (new:ObjOk X.prog X.w (aK H x o) h' x o):Inv X a5f σ (aK H x o) { s with heap:=h',toks:=t' }:=I.un (Un.write mu he k heo) (I.hok.write mu he k heo new)
theorem Inv.pins_of {pins':List (Addr×Wf)}(I:Inv X a5f σ H s)(h:∀ p∈pins',s.heap.get? p.1=some p.2/\H p.1=none/\p.1≠X.env.locals/\p.1∉X.fs/\∀ v,p.2.data≠.cell v):Inv X pins' σ H s:=
 ⟨I.ok,I.os,I.bare,I.base,I.loc,I.cell,I.free,I.freeC,fun p hp=>(Vz.mp hp).elim (fun z=>I.pin p (a1R _ z)) (h p),I.hok,I.len⟩
theorem Ae {N:List Str}(hN:N.Nodup){i j:Nat}{x:Str}(a:N[i]? = some x)(b:N[j]? = some x):i=j:=by
 obtain ⟨h1,e1⟩:=UA.mp a
 obtain ⟨h2,e2⟩:=UA.mp b
 exact (List.getElem_inj hN).mp (e1.trans e2.symm)
theorem Af {M:Model}{A:Vh}{E:UC->UE->Prop}{i:Nat}{x:Str}{v:V}{u:UC}{Q:Unit->UE->Prop}(I:Inv X a5f σ H s)(hN:X.N.Nodup)(hi:X.N[i]? = some x)(hx:Loc X.env.scope x)(r:RelV v u)
  (h:∀ s',Inv X a5f (σ.set i (some v)) H s'->(∃ a,WX a s.heap s'.heap/\(a=X.env.locals\/X.env.cells.lookup x=some a))->Q () s')(hf:X.fn x=true\/X.env.scope.names.lookup x=some .local:=by first|exact .inl rfl|exact .inr rfl|assumption):U3 M A (storeName X.env x u) Q E s:=by
 obtain ⟨m,hn,hl⟩:=id I.loc
 have hcls:(X.env.scope.kind == .class||(X.env.scope.kind == .module&&X.env.locals != X.env.globals))=false:=by rw [I.ok.kind];rfl
 have hiσ:i<σ.length:=by rw [I.len];exact (UA.mp hi).1
 have cne:=I.cne
 have tracked:∀ {a:Addr}{h':VL},(∃ o,s.heap.get? a=some o/\H a=none)->WX a s.heap h'->HOk X.prog X.w H h':=fun {a h'} ha hs b ob e=>by
  obtain ⟨_,_,hfree⟩:=ha
  refine (I.hok b ob e).stay (fun c w' hc q=>(hs.2 c ?_).trans q) (fun _ q=>q) fun _ _ q=>q
  rintro rfl
  rcases hc with rfl|hc
  ·rw [hfree] at e;cases e
  ·rw [hfree] at hc;cases hc
 rcases hx with hk|hk
 ·refine wpAny_storeName_local hk hn (fun h' hn' hs=>?_) hcls
  obtain ⟨oL,_,_,hoL,_⟩:=id hn
  refine h _ ⟨I.ok,I.os,I.bare,⟨fun b o e n hb hx=>?_,fun b o e n hb hx=>?_,I.base.free,fun b o e hx=>?_,I.base.tups,I.base.frzs,I.base.tbls⟩,⟨_,hn',fun j y v' e1 e2 e3=>?_⟩,fun y c e=>?_,I.free,I.freeC,fun p hp=>?_,tracked ⟨oL,hoL,I.free⟩ hs,by simpa using I.len⟩ ⟨_,hs,.inl rfl⟩
  ·exact (hs.2 b (UY (Vg (UK e) I.ok.above))).trans (I.base.keep b o e n hb hx)
  ·obtain ⟨sl,e1⟩:=I.base.slot b o e n hb hx
   exact ⟨sl,(hs.2 b (UY (Vg (UK e) I.ok.above))).trans e1⟩
  ·obtain ⟨o',e1⟩:=I.base.there b o e hx
   exact ⟨o',(hs.2 b (UY (Vg (UK e) I.ok.above))).trans e1⟩
  ·by_cases hj:j=i
   ·subst hj
    rw [hi] at e1;cases e1
    rw [VC hiσ] at e2
    cases e2
    exact ⟨u,r,.inl ⟨hk,by simp⟩⟩
   ·rw [U1 (VH hj)] at e2
    obtain ⟨u',r',q⟩:=hl j y v' e1 e2 e3
    refine ⟨u',r',?_⟩
    rcases q with ⟨k,e⟩|⟨k,c,e,z⟩
    ·refine .inl ⟨k,?_⟩
     have:y≠x:=fun e=>hj (Ae hN e1 (e ▸ hi))
     simp [this,e]
    ·exact .inr ⟨k,c,e,z.sameBut hs (cne y c e)⟩
  ·obtain ⟨w',z⟩:=I.cell y c e
   exact ⟨w',z.sameBut hs (cne y c e)⟩
  ·obtain ⟨e,n,ne,nf,d⟩:=I.pin p hp
   exact ⟨(hs.2 p.1 ne).trans e,n,ne,nf,d⟩
 ·have hfn:X.fn x=true:=by
   rcases hf with z|z
   ·exact z
   ·rw [z] at hk;cases hk
  obtain ⟨c,hc⟩:=I.ok.has x (.inl hk)
  obtain ⟨w',z⟩:=I.cell x c hc
  refine wpAny_storeName_cell I.ok.kind hk hc z (fun h' hc' hs=>?_)
  obtain ⟨oc,hoc,hocd⟩:=id z
  refine h { s with heap:=h' } ⟨I.ok,I.os,I.bare,⟨fun b o e n hb hx=>?_,fun b o e n hb hx=>?_,I.base.free,fun b o e hx=>?_,I.base.tups,I.base.frzs,I.base.tbls⟩,⟨m,hn.sameBut hs (VH (cne x c hc)),fun j y v' e1 e2 e3=>?_⟩,fun y c' e=>?_,I.free,I.freeC,fun p hp=>?_,tracked ⟨oc,hoc,I.freeC x c hc⟩ hs,by simpa using I.len⟩ ⟨c,hs,.inr hc⟩
  ·exact (hs.2 b (UY (Vg (UK e) (I.ok.cab x c hfn hc)))).trans (I.base.keep b o e n hb hx)
  ·obtain ⟨sl,e1⟩:=I.base.slot b o e n hb hx
   exact ⟨sl,(hs.2 b (UY (Vg (UK e) (I.ok.cab x c hfn hc)))).trans e1⟩
  ·obtain ⟨o',e1⟩:=I.base.there b o e hx
   exact ⟨o',(hs.2 b (UY (Vg (UK e) (I.ok.cab x c hfn hc)))).trans e1⟩
  ·by_cases hj:j=i
   ·subst hj
    rw [hi] at e1;cases e1
    rw [VC hiσ] at e2
    cases e2
    exact ⟨u,r,.inr ⟨.inl hk,c,hc,hc'⟩⟩
   ·rw [U1 (VH hj)] at e2
    obtain ⟨u',r',q⟩:=hl j y v' e1 e2 e3
    refine ⟨u',r',?_⟩
    rcases q with q|⟨k,c',e,z'⟩
    ·exact .inl q
    ·refine .inr ⟨k,c',e,z'.sameBut hs ?_⟩
     rintro rfl
     exact hj (Ae hN e1 (I.ok.inj _ _ _ e hc ▸ hi))
  ·by_cases hcc:c'=c
   ·subst hcc;exact ⟨_,hc'⟩
   ·obtain ⟨w2,z2⟩:=I.cell y c' e
    exact ⟨w2,z2.sameBut hs hcc⟩
  ·obtain ⟨e,n,ne,nf,d⟩:=I.pin p hp
   refine ⟨(hs.2 p.1 ?_).trans e,n,ne,nf,d⟩
   intro q
   rw [q,hoc] at e
   have q':oc=p.2:=U9 e
   exact d w' (by rw [<- q'];exact hocd)
theorem Ag {M:Model}{A:Vh}{E:UC->UE->Prop}{i:Nat}{x:Str}{v:V}{u:UC}{Q:Unit->UE->Prop}(I:Inv X a5f σ H s)(hN:X.N.Nodup)(hi:X.N[i]? = some x)(hx:Loc X.env.scope x)(r:RelV v u)
  (h:∀ s',Inv X a5f (σ.set i (some v)) H s'->Q () s')(hf:X.fn x=true\/X.env.scope.names.lookup x=some .local:=by first|exact .inl rfl|exact .inr rfl|assumption):U3 M A (storeName X.env x u) Q E s:=
 Af I hN hi hx r (fun s' I' _=>h s' I') hf
end
noncomputable abbrev XK:=UC->Option Addr->Hp->Prop
noncomputable abbrev St:=List (Option V)
noncomputable abbrev VK:=V->Hp->Prop
noncomputable abbrev TE:=St->Hp->VK->Prop
noncomputable abbrev TT:=St->Hp->(Bool->Hp->Prop)->Prop
noncomputable abbrev TA:=St->Hp->(List V->Hp->Prop)->Prop
structure Ends where
 nx:St->Hp->Prop
 rt:VK
 bk:St->Hp->Prop:=fun _ _=>False
 ct:St->Hp->Prop:=fun _ _=>False
noncomputable abbrev TS:=Ends->St->Hp->Prop
noncomputable def EP (X:Cx)(a5f:List (Addr×Wf))(σ:St)(Q:VK)(u:UC)(s':UE):Prop:=∃ v H',Inv X a5f σ H' s'/\RelV v u/\Q v H'
noncomputable def TP (X:Cx)(a5f:List (Addr×Wf))(σ:St)(Q:Bool->Hp->Prop)(b:Bool)(s':UE):Prop:=∃ H',Inv X a5f σ H' s'/\Q b H'
noncomputable def AP (X:Cx)(a5f:List (Addr×Wf))(σ:St)(Q:List V->Hp->Prop)(us:List UC)(s':UE):Prop:=∃ vs H',Inv X a5f σ H' s'/\Vals vs us/\Q vs H'
noncomputable def SP (X:Cx)(a5f:List (Addr×Wf))(D:Ends)(f:Flow)(s':UE):Prop:=
 match f with
 | .next=>∃ σ' H',Inv X a5f σ' H' s'/\D.nx σ' H'
 | .brk=>∃ σ' H',Inv X a5f σ' H' s'/\D.bk σ' H'
 | .cont=>∃ σ' H',Inv X a5f σ' H' s'/\D.ct σ' H'
 | .ret u=>∃ v σ' H',Inv X a5f σ' H' s'/\RelV v u/\D.rt v H'
noncomputable def PE (X:Cx)(e:UO)(t:TE):Prop:=
 ∀ (a5f:List (Addr×Wf))(s:UE)(σ:St)(H:Hp)(Q:VK),Inv X a5f σ H s->t σ H Q->U3 (U8 X.prog X.w) X.A (eval e X.env) (EP X a5f σ Q) X.xe s
noncomputable def PT (X:Cx)(e:UO)(t:TT):Prop:=
 ∀ (a5f:List (Addr×Wf))(s:UE)(σ:St)(H:Hp)(Q:Bool->Hp->Prop),Inv X a5f σ H s->t σ H Q->U3 (U8 X.prog X.w) X.A (a2n e X.env (eval e X.env)) (TP X a5f σ Q) X.xe s
noncomputable def PW (X:Cx)(e:UO)(t:TT):Prop:=
 ∀ (whole:a4q UC)(a5f:List (Addr×Wf))(s:UE)(σ:St)(H:Hp)(Q:Bool->Hp->Prop),Inv X a5f σ H s->t σ H Q->U3 (U8 X.prog X.w) X.A (a2n e X.env whole) (TP X a5f σ Q) X.xe s
theorem PW.pt {X:Cx}{e:UO}{t:TT}(h:PW X e t):PT X e t:=h _
noncomputable def PA (X:Cx)(es:List UO)(t:TA):Prop:=
 ∀ (pos:Wl)(a5f:List (Addr×Wf))(s:UE)(σ:St)(H:Hp)(Q:List V->Hp->Prop),Inv X a5f σ H s->t σ H Q->U3 (U8 X.prog X.w) X.A (spliced (W0 pos (Vj es X.env))) (AP X a5f σ Q) X.xe s
noncomputable def PS (X:Cx)(st:Stmt)(t:TS):Prop:=
 ∀ (a5f:List (Addr×Wf))(s:UE)(σ:St)(H:Hp)(D:Ends),Inv X a5f σ H s->t D σ H->U3 (U8 X.prog X.w) X.A (exec st X.env) (SP X a5f D) X.xe s
noncomputable def PSs (X:Cx)(st:List Stmt)(t:TS):Prop:=
 ∀ (a5f:List (Addr×Wf))(s:UE)(σ:St)(H:Hp)(D:Ends),Inv X a5f σ H s->t D σ H->U3 (U8 X.prog X.w) X.A (execs st X.env) (SP X a5f D) X.xe s
theorem aU {α:Type}{t:a4q α}{Q Q':α->UE->Prop}{M:Model}{A:Vh}{E:UC->UE->Prop}{s:UE}(h:U3 M A t Q E s)(hQ:∀ a s,Q a s->Q' a s):U3 M A t Q' E s:=VP h hQ fun _ _ x=>x
end L2
namespace L2
open PySem PySem.Spec PyProof.Rows
section
variable {X:Cx}
noncomputable def Ah (i:Nat):TE:=fun σ H Q=>∃ v,σ[i]? = some (some v)/\Q v H
noncomputable def tC (v:V):TE:=fun _ H Q=>Q v H
theorem GF {i:Nat}{x:Str}{pos:Wl}(hN:X.N[i]? = some x)(hv:pC X.env.scope x)(hd:(x == ("__debug__":Str))=false:=by decide) (hcd:(x == ("__classdict__":Str))=false:=by decide):PE X (.Name x pos) (Ah i):=by
 intro a5f s σ H Q I h
 obtain ⟨v,e,h⟩:=h
 obtain ⟨m,hn,hl⟩:=I.loc
 obtain ⟨u,r,l⟩:=hl i x v hN e hv
 have fin:EP X a5f σ Q u s:=⟨v,H,I,r,h⟩
 rcases l with ⟨hk,hm⟩|⟨hk,c,hc,hcell⟩
 ·exact a3q (wpAny_loadName_local I.ok.kind hk hn hm fin) hd
 ·rcases hk with hk|hk
  ·exact a3q (wpAny_loadName_cell I.ok.kind hk hc hcell fin) hd
  ·exact a3q (wpAny_loadName_free I.ok.kind hk hc hcell fin hcd) hd
theorem GG {i j pos}:PE X (.Constant (.int i) j pos) (tC (.int i)):=fun _ _ _ H _ I h=>wpAny_Constant_int ⟨.int i,H,I.tok _,⟨_,rfl⟩,h⟩
theorem GH {b j pos}:PE X (.Constant (.bool b) j pos) (tC (.bl b)):=fun _ _ _ H _ I h=>Constant_bool ⟨.bl b,H,I,rfl,h⟩
theorem GJ {j pos}:PE X (.Constant .none j pos) (tC .non):=fun _ _ _ H _ I h=>Constant_none ⟨.non,H,I,rfl,h⟩
theorem GK {x j pos}:PE X (.Constant (.str x) j pos) (tC (.str x)):=fun _ _ _ H _ I h=>Calls.Constant_str ⟨.str x,H,I.tok _,⟨_,rfl⟩,h⟩
noncomputable def Gl (X:Cx)(x:Str):Prop:=X.env.kindOf x=some .globalImplicit
theorem uP {E:UC->UE->Prop}{a5f:List (Addr×Wf)}{s:UE}{σ:St}{H:Hp}{x:Str}{u:UC}{pos:Wl}{Q:UC->UE->Prop}(I:Inv X a5f σ H s)(hg:Gl X x)(hm:X.mg x=some u)(h:Q u s)
  (hd:(x == ("__debug__":Str))=false:=by decide):U3 (U8 X.prog X.w) X.A (eval (.Name x pos) X.env) Q E s:=
 a0G I.ok.kind hg (Calls.loadGlobal_global (by rw [I.ok.glob];exact I.mod.glob.keeps I.bk) hm h) hd
theorem iM {E:UC->UE->Prop}{a5f:List (Addr×Wf)}{s:UE}{σ:St}{H:Hp}{x:Str}{u:UC}{pos:Wl}{Q:UC->UE->Prop}(I:Inv X a5f σ H s)(hg:Gl X x)(hm:X.mg x=none)(hv:Wa x=some u)(h:Q u s)
  (hn:x ≠ "__name__":=by decide) (hd:(x == ("__debug__":Str))=false:=by decide):U3 (U8 X.prog X.w) X.A (eval (.Name x pos) X.env) Q E s:=by
 obtain ⟨mb,h1,h2⟩:=I.mod.blt
 exact a0G I.ok.kind hg (Calls.loadGlobal_builtin (by rw [I.ok.glob];exact I.mod.glob.keeps I.bk) hm (by rw [I.ok.blt];exact h1.keeps I.bk) ((h2 x hn).trans hv) h) hd
theorem GL {x:Str}{v:V}{u:UC}{pos:Wl}(hg:Gl X x)(hm:X.mg x=some u)(r:RelV v u)(hd:(x == ("__debug__":Str))=false:=by decide):PE X (.Name x pos) (tC v):=
 fun _ _ _ H _ I h=>uP I hg hm ⟨v,H,I,r,h⟩ hd
theorem GN {x:Str}{v:V}{u:UC}{pos:Wl}(hg:Gl X x)(hm:X.mg x=none)(hv:Wa x=some u)(r:RelV v u)(hn:x ≠ "__name__":=by decide) (hd:(x == ("__debug__":Str))=false:=by decide):PE X (.Name x pos) (tC v):=
 fun _ _ _ H _ I h=>iM I hg hm hv ⟨v,H,I,r,h⟩ hn hd
variable {a b:UO}{ta tb:TE}{pos:Wl}
variable {tA tB':TT}{bO:List UO}
noncomputable def GO (t u:TT):TT:=fun σ H Q=>t σ H fun c H1=>if c=true then u σ H1 Q else Q false H1
noncomputable def GP (t u:TT):TT:=fun σ H Q=>t σ H fun c H1=>if c=true then Q true H1 else u σ H1 Q
noncomputable def GQ (t:TT):TT:=fun σ H Q=>t σ H fun c H1=>Q (!c) H1
theorem GR (ha:PT X a tA):PW X (.BoolOp .And [a] pos) tA:=by
 intro wh a5f s σ H Q I h
 refine isTrue_and (aU (ha a5f s σ H Q I h) fun c s1 e=>?_)
 cases c with
 | true=>exact isTrue_and_nil e
 | false=>exact e
theorem GS (ha:PT X a tA):PW X (.BoolOp .Or [a] pos) tA:=by
 intro wh a5f s σ H Q I h
 refine isTrue_or (aU (ha a5f s σ H Q I h) fun c s1 e=>?_)
 cases c with
 | false=>exact isTrue_or_nil e
 | true=>exact e
theorem GU (ha:PT X a tA)(hb:PW X (.BoolOp .And (b::bO) pos) tB'):PW X (.BoolOp .And (a::b::bO) pos) (GO tA tB'):=by
 intro wh a5f s σ H Q I h
 refine isTrue_and (aU (ha a5f s σ H _ I h) fun c s1 ⟨H1,I1,q1⟩=>?_)
 cases c with
 | true=>exact hb wh a5f s1 σ H1 Q I1 q1
 | false=>exact ⟨H1,I1,q1⟩
theorem GV (ha:PT X a tA)(hb:PW X (.BoolOp .Or (b::bO) pos) tB'):PW X (.BoolOp .Or (a::b::bO) pos) (GP tA tB'):=by
 intro wh a5f s σ H Q I h
 refine isTrue_or (aU (ha a5f s σ H _ I h) fun c s1 ⟨H1,I1,q1⟩=>?_)
 cases c with
 | true=>exact ⟨H1,I1,q1⟩
 | false=>exact hb wh a5f s1 σ H1 Q I1 q1
theorem GW (ha:PT X a tA):PT X (.UnaryOp .Not a pos) (GQ tA):=by
 intro a5f s σ H Q I h
 exact isTrue_not (ha a5f s σ H (fun c H1=>Q (!c) H1) I h)
noncomputable def GX (ta tb:TE):TE:=fun σ H Q=>ta σ H fun x H1=>∃ c,x=.bl c/\if c=true then tb σ H1 Q else Q (.bl false) H1
noncomputable def GY (ta tb:TE):TE:=fun σ H Q=>ta σ H fun x H1=>∃ c,x=.bl c/\if c=true then Q (.bl true) H1 else tb σ H1 Q
noncomputable def G0 (ta:TE):TE:=fun σ H Q=>ta σ H fun x H1=>∃ c,x=.bl c/\Q (.bl (!c)) H1
theorem G1 {op} {t:TE}(h:PE X a t):PE X (.BoolOp op [a] pos) t:=fun a5f s σ H Q I hw=>BoolOp_one (h a5f s σ H Q I hw)
theorem G6 (ha:PE X a ta)(hb:PE X (.BoolOp .And (b::bO) pos) tb):PE X (.BoolOp .And (a::b::bO) pos) (GX ta tb):=by
 intro a5f s σ H Q I h
 refine BoolOp_and (aU (ha a5f s σ H _ I h) fun v s1 ⟨x,H1,I1,r1,q1⟩=>?_)
 obtain ⟨c,rfl,q1⟩:=q1
 cases r1
 refine Ws ?_
 cases c with
 | true=>exact hb a5f s1 σ H1 Q I1 q1
 | false=>exact ⟨.bl false,H1,I1,rfl,q1⟩
theorem G7 (ha:PE X a ta)(hb:PE X (.BoolOp .Or (b::bO) pos) tb):PE X (.BoolOp .Or (a::b::bO) pos) (GY ta tb):=by
 intro a5f s σ H Q I h
 refine BoolOp_or (aU (ha a5f s σ H _ I h) fun v s1 ⟨x,H1,I1,r1,q1⟩=>?_)
 obtain ⟨c,rfl,q1⟩:=q1
 cases r1
 refine Ws ?_
 cases c with
 | false=>exact hb a5f s1 σ H1 Q I1 q1
 | true=>exact ⟨.bl true,H1,I1,rfl,q1⟩
theorem G8 (ha:PE X a ta):PE X (.UnaryOp .Not a pos) (G0 ta):=by
 intro a5f s σ H Q I h
 refine UnaryOp_ (aU (ha a5f s σ H _ I h) fun v s1 ⟨x,H1,I1,r1,q1⟩=>?_)
 obtain ⟨c,rfl,q1⟩:=q1
 cases r1
 exact not_of (Ws ⟨.bl (!c),H1,I1,rfl,q1⟩)
noncomputable def G9 (t:TT)(ta tb:TE):TE:=fun σ H Q=>t σ H fun c H1=>if c=true then ta σ H1 Q else tb σ H1 Q
theorem Ha {c:UO}(hc:PT X c tA)(ha:PE X a ta)(hb:PE X b tb):PE X (.IfExp c a b pos) (G9 tA ta tb):=by
 intro a5f s σ H Q I h
 refine wpAny_IfExp (aU (hc a5f s σ H _ I h) fun d s1 ⟨H1,I1,q1⟩=>?_)
 cases d with
 | true=>exact ha a5f s1 σ H1 Q I1 q1
 | false=>exact hb a5f s1 σ H1 Q I1 q1
end
end L2
namespace L2
open PySem PySem.Spec PyProof.Rows
noncomputable def SqL (K:Ux)(H:Hp)(a:Addr)(xs:List V):Prop:=
 Rd H a (.lst xs) \/
  ∃ (o:Wf)(its:Array UC)(n:Nat),K.lookup a=some o/\o.cls=.type "list"/\o.dict=none/\o.data=.seq its n/\its.size<=UM/\Vals xs its.toList
noncomputable def SqT (K:Ux)(H:Hp)(a:Addr)(xs:List V):Prop:=
 Rd H a (.tup xs) \/
  ∃ (o:Wf)(its:Array UC)(n:Nat),K.lookup a=some o/\o.cls=.type "tuple"/\o.dict=none/\o.data=.seq its n/\its.size<=UM/\Vals xs its.toList
noncomputable def Hb:UC->Option V
 | .none=>some .non
 | .bool b=>some (.bl b)
 | .int i _=>some (.int i)
 | .str x _=>some (.str x)
 | .bytes b _=>some (.byt b)
 | .float b _=>some (.flt b)
 | .ref a=>some (.ref a)
 | .type n=>some (.ty n)
 | _=>none
theorem RelV.abs {x:V}{u:UC}(r:RelV x u):Hb u=some x:=by
 cases x with
 | non=>cases r;rfl
 | bl _=>cases r;rfl
 | int _=>obtain ⟨t,rfl⟩:=r;rfl
 | str _=>obtain ⟨t,rfl⟩:=r;rfl
 | byt _=>obtain ⟨t,rfl⟩:=r;rfl
 | flt _=>obtain ⟨t,rfl⟩:=r;rfl
 | ref _=>cases r;rfl
 | ty _=>cases r;rfl
theorem RelV.inj {x y:V}{u:UC}(r:RelV x u)(q:RelV y u):x=y:=U9 (r.abs.symm.trans q.abs)
theorem Vals.inj:∀ {xs ys:List V}{us:List UC},Vals xs us->Vals ys us->xs=ys
 | _,_,_,.nil,.nil=>rfl
 | _,_,_,.cons r t,.cons r' t'=>by rw [r.inj r',Vals.inj t t']
section
variable {X:Cx}{a5f:List (Addr×Wf)}{σ:St}{H:Hp}{s:UE}{a:Addr}{xs ys:List V}
theorem SqL.of {K:Ux}(h:H a=some (.lst xs)):SqL K H a xs:=.inl (.inl h)
theorem SqT.of {K:Ux}(h:H a=some (.tup xs)):SqT K H a xs:=.inl (.inl h)
theorem Inv.list (I:Inv X a5f σ H s)(h:SqL X.K H a xs):∃ its:List UC,Vals xs its/\PlainL s.heap a its.toArray/\xs.length<=UM:=by
 rcases h with h|⟨o,its,n,hk,hc,hd,hs,hz,r⟩
 ·obtain ⟨z,its,n,r,e⟩:=h.ok I.hok
  exact ⟨its,r,⟨_,n,e,rfl,rfl,rfl⟩,z⟩
 ·refine ⟨its.toList,r,⟨o,n,I.kIn a o hk,hc,hd,by simpa using hs⟩,?_⟩
  have e:=r.length
  simp only [WD] at e
  omega
theorem Inv.tuple (I:Inv X a5f σ H s)(h:SqT X.K H a xs):∃ its:List UC,Vals xs its/\Xy s.heap a its.toArray/\xs.length<=UM:=by
 rcases h with h|⟨o,its,n,hk,hc,hd,hs,hz,r⟩
 ·obtain ⟨z,its,r,p⟩:=h.ok I.hok
  exact ⟨its,r,p.tup,z⟩
 ·refine ⟨its.toList,r,⟨o,I.kIn a o hk,hc,n,by simpa using hs⟩,?_⟩
  have e:=r.length
  simp only [WD] at e
  omega
theorem Inv.tupN (I:Inv X a5f σ H s)(h:SqT X.K H a xs):∃ its:List UC,Vals xs its/\TupN s.heap a its.toArray:=by
 rcases h with h|⟨o,its,n,hk,hc,hd,hs,hz,r⟩
 ·obtain ⟨z,its,r,p⟩:=h.ok I.hok
  exact ⟨its,r,p⟩
 ·exact ⟨its.toList,r,o,I.kIn a o hk,hc,n,by simpa using hs,hd⟩
theorem Inv.list_inj (I:Inv X a5f σ H s)(h:SqL X.K H a xs)(h':SqL X.K H a ys):xs=ys:=by
 obtain ⟨its,r,⟨o,n,e,_,_,d⟩,_⟩:=I.list h
 obtain ⟨its',r',⟨o',n',e',_,_,d'⟩,_⟩:=I.list h'
 rw [e] at e';cases e'
 rw [d] at d'
 injection d' with d1 _
 have:its=its':=by simpa using congrArg a3D d1
 subst this
 exact r.inj r'
theorem Inv.tuple_inj (I:Inv X a5f σ H s)(h:SqT X.K H a xs)(h':SqT X.K H a ys):xs=ys:=by
 obtain ⟨its,r,⟨o,e,_,n,d⟩,_⟩:=I.tuple h
 obtain ⟨its',r',⟨o',e',_,n',d'⟩,_⟩:=I.tuple h'
 rw [e] at e';cases e'
 rw [d] at d'
 injection d' with d1 _
 have:its=its':=by simpa using congrArg a3D d1
 subst this
 exact r.inj r'
end
noncomputable abbrev Cx.wish (X:Cx)(E:UC->UE->Prop):Cx:={ X with xe:=E }
noncomputable abbrev Cx.nox (X:Cx):Cx:=X.wish fun _ _=>False
theorem Cx.Ok.wish {X:Cx}(ok:X.Ok)(E:UC->UE->Prop):(X.wish E).Ok:=
 ⟨ok.mod,ok.kind,ok.glob,ok.blt,ok.above,ok.inj,ok.has,ok.cab,ok.hd,ok.frames,ok.stk,ok.exf,ok.bs,ok.bsz,ok.noex,ok.exfs,ok.funs,ok.frf⟩
theorem Cx.Ok.unwish {X:Cx}{E:UC->UE->Prop}(ok:(X.wish E).Ok):X.Ok:=
 ⟨ok.mod,ok.kind,ok.glob,ok.blt,ok.above,ok.inj,ok.has,ok.cab,ok.hd,ok.frames,ok.stk,ok.exf,ok.bs,ok.bsz,ok.noex,ok.exfs,ok.funs,ok.frf⟩
section
variable {X:Cx}{a5f:List (Addr×Wf)}{σ:St}{H:Hp}{s:UE}{E:UC->UE->Prop}
theorem Inv.wish (I:Inv X a5f σ H s)(E:UC->UE->Prop):Inv (X.wish E) a5f σ H s:=⟨I.ok.wish E,I.os,I.bare,I.base,I.loc,I.cell,I.free,I.freeC,I.pin,I.hok,I.len⟩
theorem Inv.unwish (I:Inv (X.wish E) a5f σ H s):Inv X a5f σ H s:=⟨I.ok.unwish,I.os,I.bare,I.base,I.loc,I.cell,I.free,I.freeC,I.pin,I.hok,I.len⟩
theorem SP.unwish {D:Ends}{f:Flow}{s':UE}(h:SP (X.wish E) a5f D f s'):SP X a5f D f s':=by
 cases f with
 | next=>obtain ⟨σ',H',I,q⟩:=h;exact ⟨σ',H',I.unwish,q⟩
 | brk=>obtain ⟨σ',H',I,q⟩:=h;exact ⟨σ',H',I.unwish,q⟩
 | cont=>obtain ⟨σ',H',I,q⟩:=h;exact ⟨σ',H',I.unwish,q⟩
 | ret u=>obtain ⟨v,σ',H',I,r,q⟩:=h;exact ⟨v,σ',H',I.unwish,r,q⟩
theorem PSs.nox {st:List Stmt}{t:TS}(h:PSs X.nox st t):PSs X st t:=fun a5f s σ H D I hw=>
 VP (h a5f s σ H D (I.wish _) hw) (fun _ _ q=>q.unwish) fun _ _ z=>Wz z
end
section
variable {X:Cx}{st:Stmt}{bO:List Stmt}{t u:TS}{e:UO}{te:TE}{pos:Wl}
noncomputable def Ai:TS:=fun D σ H=>D.nx σ H
noncomputable def Hc (t u:TS):TS:=fun D σ H=>t { D with nx:=u D } σ H
theorem Hd:PSs X [] Ai:=fun _ _ σ H _ I h=>Zx ⟨σ,H,I,h⟩
theorem He (h1:PS X st t)(h2:PSs X bO u):PSs X (st::bO) (Hc t u):=by
 intro a5f s σ H D I h
 refine a3V (aU (h1 a5f s σ H { D with nx:=u D } I h) fun f s1 q=>?_)
 cases f with
 | next=>
  obtain ⟨σ',H',I',q⟩:=q
  exact h2 a5f s1 σ' H' D I' q
 | ret v=>exact q
 | brk=>exact q
 | cont=>exact q
theorem Hf (h1:PS X st t):PSs X [st] t:=by
 intro a5f s σ H D I h
 refine a3V (aU (h1 a5f s σ H D I h) fun f s1 q=>?_)
 cases f with
 | next=>exact Zx q
 | ret v=>exact q
 | brk=>exact q
 | cont=>exact q
theorem Hg:PS X (.Pass pos) Ai:=fun _ _ σ H _ I h=>wpAny_Pass ⟨σ,H,I,h⟩
theorem Inv.quiet {a5f:List (Addr×Wf)}{σ:St}{H:Hp}{s:UE}(I:Inv X a5f σ H s):interactive X.env=false:=by simp [interactive,I.ok.kind]
noncomputable def Hh (te:TE):TS:=fun D σ H=>te σ H fun _ H1=>D.nx σ H1
theorem Hi (he:PE X e te)(hs:Yx e none pos.line X.env=pure false:=by rfl):PS X (.Expr e pos) (Hh te):=by
 intro a5f s σ H D I h
 exact wpAny_Expr_any (aU (he a5f s σ H _ I h) fun v s1 ⟨x,H1,I1,r1,q1⟩=>⟨σ,H1,I1,q1⟩) I.quiet hs
noncomputable def Hj (te:TE):TS:=fun D σ H=>te σ H D.rt
theorem Hk (he:PE X e te):PS X (.Return (some e) pos) (Hj te):=by
 intro a5f s σ H D I h
 exact wpAny_Return_some (aU (he a5f s σ H _ I h) fun v s1 ⟨x,H1,I1,r1,q1⟩=>⟨x,σ,H1,I1,r1,q1⟩)
noncomputable def Hl:TS:=fun D _ H=>D.rt .non H
theorem Hn:PS X (.Return none pos) Hl:=fun _ _ σ H _ I h=>wpAny_Return_none ⟨.non,σ,H,I,rfl,h⟩
noncomputable def Ho (c:TT)(t u:TS):TS:=fun D σ H=>c σ H fun b H1=>if b=true then t D σ H1 else u D σ H1
theorem Hq {c:UO}{a b:List Stmt}{tc:TT}(hc:PT X c tc)(ha:PSs X a t)(hb:PSs X b u):PS X (.If c a b pos) (Ho tc t u):=by
 intro a5f s σ H D I h
 refine wpAny_If (aU (hc a5f s σ H _ I h) fun d s1 ⟨H1,I1,q1⟩=>?_)
 cases d with
 | true=>exact ha a5f s1 σ H1 D I1 q1
 | false=>exact hb a5f s1 σ H1 D I1 q1
end
noncomputable abbrev TG:=V->St->Hp->(St->Hp->Prop)->Prop
noncomputable abbrev m7:=List V->St->Hp->(St->Hp->Prop)->Prop
noncomputable def PG (X:Cx)(target:UO)(t:TG):Prop:=
 ∀ (a5f:List (Addr×Wf))(s:UE)(σ:St)(H:Hp)(v:V)(u:UC)(Q:St->Hp->Prop),Inv X a5f σ H s->RelV v u->t v σ H Q->
  U3 (U8 X.prog X.w) X.A (a0k target X.env u) (fun _ s'=>∃ σ' H',Inv X a5f σ' H' s'/\Q σ' H') X.xe s
noncomputable def pD (X:Cx)(ts:List UO)(t:m7):Prop:=
 ∀ (a5f:List (Addr×Wf))(s:UE)(σ:St)(H:Hp)(vs:List V)(us:List UC)(Q:St->Hp->Prop),Inv X a5f σ H s->Vals vs us->t vs σ H Q->
  U3 (U8 X.prog X.w) X.A (assignInOrder ((WH ts X.env).map (·.2)) us) (fun _ s'=>∃ σ' H',Inv X a5f σ' H' s'/\Q σ' H') X.xe s
noncomputable abbrev Aj:=V->V->V->Hp->(Hp->Prop)->Prop
noncomputable def Hr (X:Cx)(t:Aj):Prop:=
 ∀ (a5f:List (Addr×Wf))(s:UE)(σ:St)(H:Hp)(o i v:V)(ov iv u:UC)(Q:Hp->Prop),Inv X a5f σ H s->RelV o ov->RelV i iv->RelV v u->t o i v H Q->
  U3 (U8 X.prog X.w) X.A (setItem ov iv u) (fun _ s'=>∃ H',Inv X a5f σ H' s'/\Q H') X.xe s
section
variable {X:Cx}{pos:Wl}
noncomputable def uQ (i:Nat):TG:=fun v σ H Q=>Q (σ.set i (some v)) H
theorem Ak {i:Nat}{x:Str}(hN:X.N.Nodup)(hi:X.N[i]? = some x)(hx:Loc X.env.scope x)(hf:X.fn x=true\/X.env.scope.names.lookup x=some .local:=by first|exact .inl rfl|exact .inr rfl|assumption):PG X (.Name x pos) (uQ i):=by
 intro a5f s σ H v u Q I r h
 exact a3G (Ag I hN hi hx r (fun s' I'=>⟨_,H,I',h⟩) hf)
noncomputable def Al:m7:=fun vs σ H Q=>vs=[]/\Q σ H
noncomputable def Am (t:TG)(u:m7):m7:=fun vs σ H Q=>∃ v r,vs=v::r/\t v σ H fun σ' H'=>u r σ' H' Q
theorem Hs:pD X [] Al:=by
 intro a5f s σ H vs us Q I r h
 obtain ⟨e,h⟩:=h
 subst e
 cases r
 exact assignInOrder_nil ⟨σ,H,I,h⟩
theorem Ht {e:UO}{es:List UO}{t:TG}{u:m7}(h1:PG X e t)(h2:pD X es u)
  (hs:(WH (e::es) X.env).map (·.2)=a0k e X.env::(WH es X.env).map (·.2):=by rfl):pD X (e::es) (Am t u):=by
 intro a5f s σ H vs us Q I r h
 obtain ⟨v,vr,e1,h⟩:=h
 subst e1
 cases r with
 | cons r rr=>
  rw [hs]
  refine assignInOrder_cons (aU (h1 a5f s σ H _ _ _ I r h) fun _ s1 ⟨σ1,H1,I1,q1⟩=>?_)
  exact h2 a5f s1 σ1 H1 _ _ Q I1 rr q1
noncomputable def An (te:TE)(g:TG):TS:=fun D σ H=>te σ H fun x H1=>g x σ H1 D.nx
theorem Hu {tg e:UO}{te:TE}{g:TG}(he:PE X e te)(hg:PG X tg g)(hs:swapsWithSole [tg] e pos.line X.env=pure false:=by rfl)(hw:a1U [tg] e X.env=pure none:=by rfl)
  (h1:(WH [tg] X.env).map (·.2)=[a0k tg X.env]:=by rfl):PS X (.Assign [tg] e pos) (An te g):=by
 intro a5f s σ H D I h
 refine wpAny_Assign_stores (aU (he a5f s σ H _ I h) fun v s1 ⟨x,H1,I1,r1,q1⟩=>?_) hs hw
 rw [h1]
 exact aU (hg a5f s1 σ H1 x v _ I1 r1 q1) fun _ s2 q=>q
theorem Hv {i:Nat}{x:Str}{e:UO}{te:TE}{pos':Wl}(hN:X.N.Nodup)(hi:X.N[i]? = some x)(hx:Loc X.env.scope x)(he:PE X e te)(hs:Yx e (some (.Name x pos')) pos.line X.env=pure false:=by rfl)(hf:X.fn x=true\/X.env.scope.names.lookup x=some .local:=by first|exact .inl rfl|exact .inr rfl|assumption) :
  PS X (.Assign [.Name x pos'] e pos) (An te (uQ i)):=by
 intro a5f s σ H D I h
 refine wpAny_Assign_Name (aU (he a5f s σ H _ I h) fun v s1 ⟨y,H1,I1,r1,q1⟩=>?_) hs
 exact Ag I1 hN hi hx r1 (fun s2 I2=>⟨_,H1,I2,q1⟩) hf
end
section
variable {X:Cx}{pos:Wl}
noncomputable def Hw (c:TT)(tb:TS):TS:=fun D σ H=>∃ W:Nat->St->Hp->Prop,(∃ m,W m σ H)/\∀ m σ H,W m σ H->
 c σ H fun b H1=>if b=true then ∃ N:St->Hp->Prop,(∀ σ' H',N σ' H'->∃ m',m'<m/\W m' σ' H')/\tb { D with nx:=N,ct:=N,bk:=D.nx } σ H1 else D.nx σ H1
theorem Hx {c:UO}{body:List Stmt}{tc:TT}{tb:TS}(hp:a0X (U8 X.prog X.w) X.A X.env X.xe)(hc:PT X c tc)(hb:PSs X body tb):PS X (.While c body [] pos) (Hw tc tb):=by
 intro a5f s σ H D I h
 obtain ⟨W,⟨m0,w0⟩,turn⟩:=h
 refine wpAny_While (codeAny_whileLoop (fun n s'=>∃ σ' H',Inv X a5f σ' H' s'/\W n σ' H') ?_ m0 ⟨σ,H,I,w0⟩)
 rintro n s1 ⟨σ1,H1,I1,w1⟩
 refine Xu hp (aU (hc a5f s1 σ1 H1 _ I1 (turn n σ1 H1 w1)) fun b s2 ⟨H2,I2,q2⟩=>?_)
 cases b with
 | true=>
  obtain ⟨N,hN,q2⟩:=q2
  rw [if_pos rfl]
  refine Xu hp (aU (hb a5f s2 σ1 H2 _ I2 q2) fun f s3 q3=>?_)
  cases f with
  | next=>
   obtain ⟨σ3,H3,I3,n3⟩:=q3
   obtain ⟨m',hm,w3⟩:=hN σ3 H3 n3
   exact ⟨m',hm,σ3,H3,I3,w3⟩
  | cont=>
   obtain ⟨σ3,H3,I3,n3⟩:=q3
   obtain ⟨m',hm,w3⟩:=hN σ3 H3 n3
   exact ⟨m',hm,σ3,H3,I3,w3⟩
  | brk=>exact q3
  | ret v=>exact q3
 | false=>
  rw [if_neg Vn]
  exact Zx ⟨σ1,H2,I2,q2⟩
end
structure It where
 go:Nat->Hp->Prop
 yld:Nat->Hp->V->Hp->Prop
 stop:Nat->Hp->Prop
noncomputable def fF (X:Cx)(a5f:List (Addr×Wf))(H:Hp)(b:Addr):Prop:=
 H b=none/\b≠X.env.locals/\b∉X.fs/\(b∈X.ex\/X.s₀.heap.objs.size<=b)/\(∀ x c,X.env.cells.lookup x=some c->c≠b)/\∀ p∈X.pn++a5f,p.1≠b
theorem Inv.fpOk {X:Cx}{a5f:List (Addr×Wf)}{σ:St}{H H':Hp}{s:UE}{b:Addr}(I:Inv X a5f σ H s)(hb:s.heap.objs.size<=b)(hn:H' b=none):fF X a5f H' b:=by
 refine ⟨hn,Wh (Vg I.lt hb),I.nofs hb,.inr (VG I.sz hb),fun x c e z=>?_,fun p hp z=>?_⟩
 ·obtain ⟨v,q⟩:=I.cell x c e
  exact absurd (Vg q.lt (by rw [z];exact hb)) (WJ _)
 ·exact absurd (Vg (UK (I.pin p hp).1) (by rw [z];exact hb)) (WJ _)
structure Turn (P:Va)(w:Vu)(K:Ux)(tg:UO)(J:It)(fp:List Addr)(it:Addr)(tn:Nat->VL->Prop):Prop where
 mem:it∈fp
 obj:∀ i h,tn i h->∀ b∈fp,∃ o,h.get? b=some o/\∀ v,o.data≠.cell v
 keep:∀ i h h',tn i h->(∀ b∈fp,∀ o,h.get? b=some o->h'.get? b=some o)->tn i h'
 item:∀ (X:Cx),X.prog=P->X.w=w->X.K=K->X.calm=true->∀ (i:Nat)(a5f:List (Addr×Wf))(s:UE)(σ:St)(H:Hp)(E:UC->UE->Prop),Inv X a5f σ H s->(∀ b∈fp,fF X a5f H b)->tn i s.heap->J.go i H->
  U3 (U8 P w) X.A (YG (.ref it)) (fun r s1=>∃ u,r=some u /\
   U3 (U8 P w) X.A (Zz tg (.ref it) u) (fun _ s2=>∃ x H',Inv X a5f σ H' s2/\RelV x u/\J.yld i H x H'/\tn (i+1) s2.heap/\∀ b∈fp,H' b=none) E s1) E s
 done:∀ (X:Cx),X.prog=P->X.w=w->X.K=K->X.calm=true->∀ (i:Nat)(a5f:List (Addr×Wf))(s:UE)(σ:St)(H:Hp)(E:UC->UE->Prop),Inv X a5f σ H s->(∀ b∈fp,fF X a5f H b)->tn i s.heap->J.stop i H->
  U3 (U8 P w) X.A (YG (.ref it)) (fun r s1=>r=none/\Inv X a5f σ H s1) E s
 self:∀ (A:Vh)(i:Nat)(s:UE)(Q:UC->UE->Prop)(E:UC->UE->Prop),tn i s.heap->Q (.ref it) s->U3 (U8 P w) A (a1z (.ref it)) Q E s
noncomputable abbrev TI:=St->Hp->(It->Hp->Prop)->Prop
noncomputable def rD (X:Cx)(a5f:List (Addr×Wf))(σ:St)(tg:UO)(R:It->Hp->Prop)(itv:UC)(s2:UE):Prop:=
 ∃ (it:Addr)(fp:List Addr)(tn:Nat->VL->Prop)(J:It)(H':Hp),itv=.ref it/\Inv X a5f σ H' s2/\Turn X.prog X.w X.K tg J fp it tn/\tn 0 s2.heap/\(∀ b∈fp,fF X a5f H' b)/\R J H'
noncomputable def PI (X:Cx)(tg iter:UO)(wi:TI):Prop:=
 ∀ (a5f:List (Addr×Wf))(s:UE)(σ:St)(H:Hp)(R:It->Hp->Prop),Inv X a5f σ H s->wi σ H R->
  U3 (U8 X.prog X.w) X.A (eval iter X.env) (fun v s1=>U3 (U8 X.prog X.w) X.A (a1z v) (rD X a5f σ tg R) X.xe s1) X.xe s
theorem rF {M:Model}{A:Vh}{E:UC->UE->Prop}{s:UE}{tg:UO}{it:Addr}{u:UC}{o:Wf}{n:String}{vs:Array UC}{Q:Unit->UE->Prop}(ho:s.heap.get? it=some o)(hc:o.cls=.type n)(hd:o.data=.fields vs)
  (hn:["enumerate","zip","dict_itemiterator","dict_reverseitemiterator","odict_iterator","itertools.zip_longest","itertools.pairwise"].contains n=false) (hQ:Q () s):U3 M A (Zz tg (.ref it) u) Q E s:=by
 unfold Zz
 cases tg<;>first
  | exact UG hQ
  | (cases u<;>first
    | exact UG hQ
    | (refine Uy (a0j ho ?_)
       rw [hc,hd]
       show U3 M A (if (["enumerate","zip","dict_itemiterator","dict_reverseitemiterator","odict_iterator","itertools.zip_longest","itertools.pairwise"].contains n&&vs[0]? == some (XY _))=true then _ else _) Q E s
       rw [if_neg (by intro h;rw [hn,a3n] at h;cases h)]
       exact UG hQ))
noncomputable def uR (K:Ux)(a:Addr):It:=
 ⟨fun i H=>∃ xs x,SqL K H a xs/\xs[i]? = some x,fun i H x H'=>H'=H/\∀ xs,SqL K H a xs->xs[i]? = some x,fun i H=>∃ xs,SqL K H a xs/\xs.length<=i⟩
noncomputable def uS (K:Ux)(a:Addr):It:=
 ⟨fun i H=>∃ xs x,SqT K H a xs/\xs[i]? = some x,fun i H x H'=>H'=H/\∀ xs,SqT K H a xs->xs[i]? = some x,fun i H=>∃ xs,SqT K H a xs/\xs.length<=i⟩
noncomputable def pE (lo:Int)(n:Nat):It:=⟨fun i _=>i<n,fun i H x H'=>H'=H/\x=.int (lo+i),fun i _=>n<=i⟩
theorem Hy {P:Va}{w:Vu}{K:Ux}{tg:UO}(a it:Addr):Turn P w K tg (uR K a) [it] it (fun i h=>h.IsListIter it a i) where
 mem:=by simp
 obj:=fun i h st b hb=>by
  have e:b=it:=by simpa using hb
  subst e
  obtain ⟨o,e,c,d⟩:=st
  exact ⟨o,e,fun v z=>by rw [d] at z;cases z⟩
 keep:=fun i h h' st k=>st.at fun o e=>k it (by simp) o e
 item:=by
  intro X hP hw hK hc i a5f s σ H E I hf st hg
  subst hP hw hK
  obtain ⟨xs,x,hq,hx⟩:=hg
  obtain ⟨its,rv,p,hz⟩:=I.list hq
  obtain ⟨u,hu,ru⟩:=rv.get hx
  obtain ⟨f0,f1,f2,f3,f4,f5⟩:=hf it (by simp)
  refine Zo st p.isList (x:=u) (by simpa using hu) fun h' st' sb=>?_
  have I1:Inv X a5f σ H { s with heap:=h' }:=I.turned (t':=s.toks) (fun b o hb e=>(sb.2 b hb).trans e) f0 f1 f3 f4 f5
  obtain ⟨o,e,c,d⟩:=id st'
  exact ⟨u,rfl,rF (s:={ s with heap:=h' }) e c d (by decide) ⟨x,H,I1,ru,⟨rfl,fun ys hy=>by rw [I.list_inj hy hq];exact hx⟩,st',fun b hb=>(hf b hb).1⟩⟩
 done:=by
  intro X hP hw hK hc i a5f s σ H E I hf st hg
  subst hP hw hK
  obtain ⟨xs,hq,hx⟩:=hg
  obtain ⟨its,rv,p,hz⟩:=I.list hq
  obtain ⟨f0,f1,f2,f3,f4,f5⟩:=hf it (by simp)
  have hl:=rv.length
  exact ZE (I.ok.hd hc) st p.isList (by simp;omega) fun h' eb=>⟨rfl,I.turned (t':=s.toks) (fun b o hb e=>eb b o hb e) f0 f1 f3 f4 f5⟩
 self:=fun _ _ _ _ _ st h=>wpAny_pyIter_listiter st h
theorem Hz {P:Va}{w:Vu}{K:Ux}{tg:UO}(a it:Addr):Turn P w K tg (uS K a) [it] it (fun i h=>h.IsTupleIter it a i) where
 mem:=by simp
 obj:=fun i h st b hb=>by
  have e:b=it:=by simpa using hb
  subst e
  obtain ⟨o,e,c,d⟩:=st
  exact ⟨o,e,fun v z=>by rw [d] at z;cases z⟩
 keep:=fun i h h' st k=>st.at fun o e=>k it (by simp) o e
 item:=by
  intro X hP hw hK hc i a5f s σ H E I hf st hg
  subst hP hw hK
  obtain ⟨xs,x,hq,hx⟩:=hg
  obtain ⟨its,rv,p,hz⟩:=I.tuple hq
  obtain ⟨u,hu,ru⟩:=rv.get hx
  obtain ⟨f0,f1,f2,f3,f4,f5⟩:=hf it (by simp)
  refine a1Y st (show s.heap.IsTuple a its.toArray from p) (x:=u) (by simpa using hu) fun h' st' sb=>?_
  have I1:Inv X a5f σ H { s with heap:=h' }:=I.turned (t':=s.toks) (fun b o hb e=>(sb.2 b hb).trans e) f0 f1 f3 f4 f5
  obtain ⟨o,e,c,d⟩:=id st'
  exact ⟨u,rfl,rF (s:={ s with heap:=h' }) e c d (by decide) ⟨x,H,I1,ru,⟨rfl,fun ys hy=>by rw [I.tuple_inj hy hq];exact hx⟩,st',fun b hb=>(hf b hb).1⟩⟩
 done:=by
  intro X hP hw hK hc i a5f s σ H E I hf st hg
  subst hP hw hK
  obtain ⟨xs,hq,hx⟩:=hg
  obtain ⟨its,rv,p,hz⟩:=I.tuple hq
  obtain ⟨f0,f1,f2,f3,f4,f5⟩:=hf it (by simp)
  have hl:=rv.length
  exact a2h (I.ok.hd hc) st (show s.heap.IsTuple a its.toArray from p) (by simp;omega) fun h' eb=>⟨rfl,I.turned (t':=s.toks) (fun b o hb e=>eb b o hb e) f0 f1 f3 f4 f5⟩
 self:=fun _ _ _ _ _ st h=>wpAny_pyIter_tupleiter st h
theorem HA {P:Va}{w:Vu}{K:Ux}{tg:UO}(it:Addr)(lo:Int)(n:Nat):Turn P w K tg (pE lo n) [it] it (fun i h=>IsRangeIter h it (lo+(i:Nat) * 1) ((n:Int) - (i:Nat)) 1) where
 mem:=by simp
 obj:=fun i h st b hb=>by
  have e:b=it:=by simpa using hb
  subst e
  exact ⟨_,st,fun v z=>by
   have z':a0p _=a0f v:=z
   cases z'⟩
 keep:=fun i h h' st k=>k it (by simp) _ st
 item:=by
  intro X hP hw hK hc i a5f s σ H E I hf st hg
  subst hP hw hK
  obtain ⟨f0,f1,f2,f3,f4,f5⟩:=hf it (by simp)
  have W:=Walks.range (prog:=X.prog) (w:=X.w) (I.ok.hd hc) it lo 1 n
  refine W.item i s _ _ hg st fun v h' tk hv st' kk=>?_
  obtain ⟨t,rfl⟩:=hv
  have I1:Inv X a5f σ H { s with heap:=h',toks:=tk }:=I.turned (fun b o hb e=>kk b o (by simpa using hb) e) f0 f1 f3 f4 f5
  refine ⟨_,rfl,rF (s:={ s with heap:=h',toks:=tk }) (n:="range_iterator") st' rfl rfl (by decide) ⟨.int (lo+i),H,I1,⟨t,?_⟩,⟨rfl,rfl⟩,st',fun b hb=>(hf b hb).1⟩⟩
  rw [Int.mul_one]
 done:=by
  intro X hP hw hK hc i a5f s σ H E I hf st hg
  subst hP hw hK
  obtain ⟨f0,f1,f2,f3,f4,f5⟩:=hf it (by simp)
  exact wpAny_pyNext_range_end (I.ok.hd hc) st (by have:n<=i:=hg;omega) fun h' eb=>⟨rfl,I.turned (t':=s.toks) (fun b o hb e=>eb b o hb e) f0 f1 f3 f4 f5⟩
 self:=fun _ _ _ _ _ st h=>wpAny_pyIter_rangeiter st h
end L2
namespace L2
open PySem PySem.Spec PyProof.Rows
section
variable {X:Cx}{tg:UO}
theorem Ao {a5f:List (Addr×Wf)}{σ:St}{H:Hp}{s:UE}{R:It->Hp->Prop}{E:UC->UE->Prop}{lo hi:Int}{t u v:a5a}{tk:Nat}(I:Inv X a5f σ H s)(h1:-(2 ^ 62)<=lo)(h2:lo<2 ^ 62)(h3:-(2 ^ 62)<=hi)(h4:hi<2 ^ 62)
  (q:R (pE lo (hi - lo).toNat) H):U3 (U8 X.prog X.w) X.A (a1z (.ref s.heap.objs.size)) (rD X a5f σ tg R) E { s with heap:=s.heap.push { cls:=.type "range",data:=.fields #[.int lo t,.int hi u,.int 1 v] },toks:=tk }:=by
 refine wpAny_pyIter_range (IsRange.new ..) (small_one h1 h2 h3 h4) ?_
 have I1:Inv X a5f σ H { s with heap:=s.heap.push { cls:=.type "range",data:=.fields #[.int lo t,.int hi u,.int 1 v] },toks:=tk }:=I.kept fun b o e=>UD _ e
 refine ⟨(s.heap.push { cls:=.type "range",data:=.fields #[.int lo t,.int hi u,.int 1 v] }).objs.size,[(s.heap.push { cls:=.type "range",data:=.fields #[.int lo t,.int hi u,.int 1 v] }).objs.size],_,_,H,rfl,
  I1.kept (t':=tk) fun b o e=>UD _ e,HA _ lo (hi - lo).toNat,?_,fun b hb=>?_,q⟩
 ·have e1:lo+((0:Nat):Int) * 1=lo:=by simp
  have e2:(((hi - lo).toNat:Nat):Int) - ((0:Nat):Int)=a4m lo hi 1:=by rw [rangeSize_one];split<;>omega
  show IsRangeIter _ _ (lo+((0:Nat):Int) * 1) ((((hi - lo).toNat:Nat):Int) - ((0:Nat):Int)) 1
  rw [e1,e2]
  exact UT _ rfl
 ·have e:b=(s.heap.push { cls:=.type "range",data:=.fields #[.int lo t,.int hi u,.int 1 v] }).objs.size:=by simpa using hb
  subst e
  exact I1.fpOk (UJ _) (I1.hok.fresh (UJ _))
noncomputable def HB (ta:TA):TI:=fun σ H R=>ta σ H fun vs H1=>∃ j:Int,vs=[.int j]/\-(2 ^ 62)<=j/\j<2 ^ 62/\R (pE 0 j.toNat) H1
noncomputable def HC (ta:TA):TI:=fun σ H R=>ta σ H fun vs H1=>∃ i j:Int,vs=[.int i,.int j]/\(-(2 ^ 62)<=i/\i<2 ^ 62/\-(2 ^ 62)<=j/\j<2 ^ 62)/\R (pE i (j - i).toNat) H1
theorem HD {a:UO}{ta:TA}{p pos:Wl}(hg:Gl X "range") (hm:X.mg "range" = none) (ha:PA X [a] ta)(hs:Vj [a] X.env=[(false,eval a X.env)]:=by rfl):PI X tg (.Call (.Name "range" p) [a] [] pos) (HB ta):=by
 intro a5f s σ H R I h
 refine Call_ (iM I hg hm boot_range (V0 (aU (ha pos a5f s σ H _ I h) fun us s1 ⟨vs,H1,I1,r1,q1⟩=>?_) hs rfl))
 obtain ⟨j,e,q1,q2,q⟩:=q1
 subst e
 cases r1 with
 | cons r rr=>
  cases rr
  obtain ⟨t,rfl⟩:=r
  exact call_range_1 (Ao I1 (by omega) (by omega) q1 q2 (by simpa using q))
theorem HE {a b:UO}{ta:TA}{p pos:Wl}(hg:Gl X "range") (hm:X.mg "range" = none) (ha:PA X [a,b] ta)(hs:Vj [a,b] X.env=[(false,eval a X.env),(false,eval b X.env)]:=by rfl)(hs2:Vj [b] X.env=[(false,eval b X.env)]:=by rfl) :
  PI X tg (.Call (.Name "range" p) [a,b] [] pos) (HC ta):=by
 intro a5f s σ H R I h
 refine Call_ (iM I hg hm boot_range (V0 (aU (ha pos a5f s σ H _ I h) fun us s1 ⟨vs,H1,I1,r1,q1⟩=>?_) (by rw [hs,hs2]) (by rw [hs2];rfl)))
 obtain ⟨i,j,e,⟨q1,q2,q3,q4⟩,q⟩:=q1
 subst e
 cases r1 with
 | cons r rr=>
  cases rr with
  | cons r' rr=>
   cases rr
   obtain ⟨t,rfl⟩:=r
   obtain ⟨t',rfl⟩:=r'
   exact call_range_2 (Ao I1 q1 q2 q3 q4 q)
noncomputable def HF (wi:TI)(g:TG)(tb:TS):TS:=fun D σ H=>wi σ H fun J H1=>∃ W:Nat->Nat->St->Hp->Prop,(∃ m,W 0 m σ H1)/\∀ i m σ H,W i m σ H->
 (J.stop i H/\D.nx σ H)\/(J.go i H/\∃ N:St->Hp->Prop,(∀ σ' H',N σ' H'->∃ m',m'<m/\W (i+1) m' σ' H')/\∀ x H',J.yld i H x H'->g x σ H' fun σ2 H2=>tb { D with nx:=N,ct:=N,bk:=D.nx } σ2 H2)
noncomputable def pF (fp:List Addr)(h:VL):List (Addr×Wf):=fp.filterMap fun b=>(h.get? b).map fun o=>(b,o)
theorem rG {fp:List Addr}{h:VL}{b:Addr}{o:Wf}(hb:b∈fp)(e:h.get? b=some o):(b,o)∈pF fp h:=XW.mpr ⟨b,hb,by rw [e];rfl⟩
theorem HG {fp:List Addr}{h:VL}{p:Addr×Wf}(hp:p∈pF fp h):p.1∈fp/\h.get? p.1=some p.2:=by
 obtain ⟨b,hb,e⟩:=XW.mp hp
 cases q:h.get? b with
 | none=>rw [q] at e;cases e
 | some o=>
  rw [q] at e
  have e':(b,o)=p:=U9 e
  subst e'
  exact ⟨hb,q⟩
theorem Inv.pinned {a5f:List (Addr×Wf)}{σ:St}{H:Hp}{s:UE}{fp:List Addr}(I:Inv X a5f σ H s)(hf:∀ b∈fp,fF X a5f H b)(ho:∀ b∈fp,∃ o,s.heap.get? b=some o/\∀ v,o.data≠.cell v):Inv X (a5f++pF fp s.heap) σ H s:=
 I.pins_of fun p hp=>(Vz.mp hp).elim (fun z=>I.pin p (VR _ z)) fun z=>by
  obtain ⟨hb,e⟩:=HG z
  obtain ⟨f0,f1,f2,_⟩:=hf p.1 hb
  obtain ⟨o,e',d⟩:=ho p.1 hb
  rw [e] at e';cases e'
  exact ⟨e,f0,f1,f2,d⟩
theorem Inv.unpinned {a5f pl:List (Addr×Wf)}{σ:St}{H:Hp}{s:UE}(I:Inv X (a5f++pl) σ H s):Inv X a5f σ H s:=I.pins_of fun p hp=>I.pin p (VR _ (a1R _ hp))
theorem HH {iter:UO}{body:List Stmt}{wi:TI}{g:TG}{tb:TS}{pos:Wl}(hp:a0X (U8 X.prog X.w) X.A X.env X.xe)(hc:X.calm=true)(hi:PI X tg iter wi)(hg:PG X tg g)(hb:PSs X body tb)
  (hs:∀ x,Yj iter X.env x=pure x:=by intro _;rfl):PS X (.For tg iter body [] pos) (HF wi g tb):=by
 intro a5f s σ H D I h
 refine wpAny_For (aU (hi a5f s σ H _ I h) fun v s1 h1=>aU h1 fun itv s2 h2=>?_) hs
 obtain ⟨it,fp,tn,J,H2,e,I2,T,st2,f2,W,⟨m0,w0⟩,turn⟩:=h2
 subst e
  -- what stays true of the iterator's objects through the loop
 have stat:∀ {H':Hp},(∀ b∈fp,H' b=none)->∀ b∈fp,fF X a5f H' b:=fun hn b hb=>⟨hn b hb,(f2 b hb).2⟩
 refine codeAny_forLoop_any (fun n s'=>∃ i σ' H',Inv X a5f σ' H' s'/\tn i s'.heap/\(∀ b∈fp,H' b=none)/\W i n σ' H') ?_ m0 ⟨0,σ,H2,I2,st2,fun b hb=>(f2 b hb).1,w0⟩
 rintro n s3 ⟨i,σ3,H3,I3,st3,fr3,w3⟩
 rcases turn i n σ3 H3 w3 with ⟨stop,qn⟩|⟨go,N,hN,step⟩
 ·refine Xu hp (aU (T.done X rfl rfl rfl hc i a5f s3 σ3 H3 X.xe I3 (stat fr3) st3 stop) fun r s4 ⟨hr,I4⟩=>?_)
  subst hr
  exact Zx ⟨σ3,H3,I4,qn⟩
 ·refine Xu hp (aU (T.item X rfl rfl rfl hc i a5f s3 σ3 H3 X.xe I3 (stat fr3) st3 go) fun r s4 ⟨u,hr,h4⟩=>?_)
  subst hr
  refine Xu hp (aU h4 fun _ s5 ⟨x,H5,I5,r5,y5,st5,fr5⟩=>?_)
  have I5':=I5.pinned (stat fr5) (T.obj _ _ st5)
  refine Xu hp (aU (hg _ s5 σ3 H5 x u _ I5' r5 (step x H5 y5)) fun _ s6 ⟨σ6,H6,I6,q6⟩=>?_)
  refine Xu hp (aU (hb _ s6 σ6 H6 _ I6 q6) fun f s7 q7=>?_)
  have again:∀ {σ7:St}{H7:Hp},Inv X (a5f++pF fp s5.heap) σ7 H7 s7->N σ7 H7->∃ m,m<n/\∃ i σ' H',Inv X a5f σ' H' s7/\tn i s7.heap/\(∀ b∈fp,H' b=none)/\W i m σ' H':=fun {σ7 H7} I7 n7=>by
   obtain ⟨m',hm,w7⟩:=hN σ7 H7 n7
   refine ⟨m',hm,i+1,σ7,H7,I7.unpinned,T.keep _ _ _ st5 fun b hb o e=>(I7.pin (b,o) (VR _ (VR _ (rG hb e)))).1,fun b hb=>?_,w7⟩
   obtain ⟨o,e,d⟩:=T.obj _ _ st5 b hb
   exact (I7.pin (b,o) (VR _ (VR _ (rG hb e)))).2.1
  cases f with
  | next=>obtain ⟨σ7,H7,I7,n7⟩:=q7;exact again I7 n7
  | cont=>obtain ⟨σ7,H7,I7,n7⟩:=q7;exact again I7 n7
  | brk=>obtain ⟨σ7,H7,I7,q7⟩:=q7;exact ⟨σ7,H7,I7.unpinned,q7⟩
  | ret v=>obtain ⟨x7,σ7,H7,I7,r7,q7⟩:=q7;exact ⟨x7,σ7,H7,I7.unpinned,r7,q7⟩
end
end L2
namespace L2
open PySem PySem.Spec PyProof.Rows
noncomputable abbrev R2:=V->V->Hp->VK->Prop
noncomputable def OpR (X:Cx)(f:UC->UC->a4q UC)(r:R2):Prop:=
 ∀ (a5f:List (Addr×Wf))(s:UE)(σ:St)(H:Hp)(x y:V)(v u:UC)(Q:VK),Inv X a5f σ H s->RelV x v->RelV y u->r x y H Q->
  U3 (U8 X.prog X.w) X.A (f v u) (EP X a5f σ Q) X.xe s
noncomputable def uT (X:Cx)(f:UC->a4q UC)(r:V->Hp->VK->Prop):Prop:=
 ∀ (a5f:List (Addr×Wf))(s:UE)(σ:St)(H:Hp)(x:V)(v:UC)(Q:VK),Inv X a5f σ H s->RelV x v->r x H Q->
  U3 (U8 X.prog X.w) X.A (f v) (EP X a5f σ Q) X.xe s
noncomputable def CallR (X:Cx)(f:UC)(r:List V->Hp->VK->Prop):Prop:=
 ∀ (a5f:List (Addr×Wf))(s:UE)(σ:St)(H:Hp)(xs:List V)(us:List UC)(Q:VK),Inv X a5f σ H s->Vals xs us->r xs H Q->
  U3 (U8 X.prog X.w) X.A (call f us) (EP X a5f σ Q) X.xe s
noncomputable def HI (X:Cx)(r:V->Hp->(Bool->Hp->Prop)->Prop):Prop:=
 ∀ (a5f:List (Addr×Wf))(s:UE)(σ:St)(H:Hp)(x:V)(v:UC)(Q:Bool->Hp->Prop),Inv X a5f σ H s->RelV x v->r x H Q->
  U3 (U8 X.prog X.w) X.A (truthy v) (TP X a5f σ Q) X.xe s
noncomputable def pG (r:R2)(ta tb:TE):TE:=fun σ H Q=>ta σ H fun x H1=>tb σ H1 fun y H2=>r x y H2 Q
noncomputable def HJ (r:V->Hp->VK->Prop)(ta:TE):TE:=fun σ H Q=>ta σ H fun x H1=>r x H1 Q
noncomputable def rI (C:Int->Int->Prop)(g:Int->Int->V):R2:=fun x y H Q=>∃ i j,x=.int i/\y=.int j/\C i j/\Q (g i j) H
noncomputable def fU (g:Int->Int->V):R2:=fun x y H Q=>∃ i j,x=.int i/\y=.int j/\Q (g i j) H
noncomputable def rU (g:Int->V):V->Hp->VK->Prop:=fun x H Q=>∃ i,x=.int i/\Q (g i) H
section
variable {X:Cx}{a b c:UO}{ta tb tc:TE}{pos:Wl}
theorem uU (ha:PE X a ta)(hb:PE X b tb){a5f:List (Addr×Wf)}{s:UE}{σ:St}{H:Hp}{R:V->V->Hp->Prop}(I:Inv X a5f σ H s)
  (h:ta σ H fun x H1=>tb σ H1 fun y H2=>R x y H2){Q:UC->UE->Prop}{f:UC->UC->a4q UC}
  (hf:∀ v u s2 x y H2,Inv X a5f σ H2 s2->RelV x v->RelV y u->R x y H2->U3 (U8 X.prog X.w) X.A (f v u) Q X.xe s2) :
  U3 (U8 X.prog X.w) X.A (eval a X.env) (fun v s₁=>U3 (U8 X.prog X.w) X.A (eval b X.env) (fun u s₂=>U3 (U8 X.prog X.w) X.A (f v u) Q X.xe s₂) X.xe s₁) X.xe s:=by
 refine aU (ha a5f s σ H _ I h) fun v s1 ⟨x,H1,I1,r1,q1⟩=>?_
 refine aU (hb a5f s1 σ H1 _ I1 q1) fun u s2 ⟨y,H2,I2,r2,q2⟩=>?_
 exact hf v u s2 x y H2 I2 r1 r2 q2
theorem HK {op:a1E}{r:R2}(ho:OpR X (XO op) r)(ha:PE X a ta)(hb:PE X b tb):PE X (.BinOp a op b pos) (pG r ta tb):=by
 intro a5f s σ H Q I h
 exact wpAny_BinOp (uU ha hb I h fun v u s2 x y H2 I2 rx ry q=>ho a5f s2 σ H2 x y v u Q I2 rx ry q)
theorem HL {op:UnaryOp}{r:V->Hp->VK->Prop}(ho:uT X (unaryOp op) r)(ha:PE X a ta):PE X (.UnaryOp op a pos) (HJ r ta):=by
 intro a5f s σ H Q I h
 exact UnaryOp_ (aU (ha a5f s σ H _ I h) fun v s1 ⟨x,H1,I1,r1,q1⟩=>ho a5f s1 σ H1 x v Q I1 r1 q1)
theorem rH {f:UC->UC->a4q UC}{C:Int->Int->Prop}{g:Int->Int->Int}
  (rule:∀ (i j:Int)(t u:a5a)(s:UE)(Q:UC->UE->Prop)(E:UC->UE->Prop),C i j->Q (.int (g i j) s.toks) { s with toks:=s.toks+1 }->U3 (U8 X.prog X.w) X.A (f (.int i t) (.int j u)) Q E s) :
  OpR X f (rI C fun i j=>.int (g i j)):=by
 intro a5f s σ H x y v u Q I rx ry h
 obtain ⟨i,j,rfl,rfl,hc,q⟩:=h
 obtain ⟨t,rfl⟩:=rx
 obtain ⟨t',rfl⟩:=ry
 exact rule i j t t' s _ _ hc ⟨.int (g i j),H,I.tok _,⟨_,rfl⟩,q⟩
theorem Ap {f:UC->UC->a4q UC}{g:Int->Int->Int}
  (rule:∀ (i j:Int)(t u:a5a)(s:UE)(Q:UC->UE->Prop)(E:UC->UE->Prop),Q (.int (g i j) s.toks) { s with toks:=s.toks+1 }->U3 (U8 X.prog X.w) X.A (f (.int i t) (.int j u)) Q E s) :
  OpR X f (fU fun i j=>.int (g i j)):=by
 intro a5f s σ H x y v u Q I rx ry h
 obtain ⟨i,j,rfl,rfl,q⟩:=h
 obtain ⟨t,rfl⟩:=rx
 obtain ⟨t',rfl⟩:=ry
 exact rule i j t t' s _ _ ⟨.int (g i j),H,I.tok _,⟨_,rfl⟩,q⟩
theorem rJ {f:UC->UC->a4q UC}{g:Int->Int->Bool}
  (rule:∀ (i j:Int)(t u:a5a)(s:UE)(Q:UC->UE->Prop)(E:UC->UE->Prop),Q (.bool (g i j)) s->U3 (U8 X.prog X.w) X.A (f (.int i t) (.int j u)) Q E s) :
  OpR X f (fU fun i j=>.bl (g i j)):=by
 intro a5f s σ H x y v u Q I rx ry h
 obtain ⟨i,j,rfl,rfl,q⟩:=h
 obtain ⟨t,rfl⟩:=rx
 obtain ⟨t',rfl⟩:=ry
 exact rule i j t t' s _ _ ⟨.bl (g i j),H,I,rfl,q⟩
noncomputable def HM (i j:Int):Prop:=0<=j/\j<=1000000/\i.natAbs<2 ^ 64
noncomputable def CMul (i j:Int):Prop:=(-(2 ^ 64)<i/\i<2 ^ 64)\/(-(2 ^ 64)<j/\j<2 ^ 64)
theorem CMul.ok {i j:Int}(h:CMul i j):a3e i j:=by
 rcases h with ⟨h1,h2⟩|⟨h1,h2⟩
 ·exact .of_left (intBits_le_64 h1 h2)
 ·exact .of_right (intBits_le_64 h1 h2)
theorem op_add:OpR X (XO .Add) (fU fun i j=>.int (i+j)):=Ap fun _ _ _ _ _ _ _ q=>add_int q
theorem HN:OpR X (XO .Sub) (fU fun i j=>.int (i - j)):=Ap fun _ _ _ _ _ _ _ q=>sub_int q
theorem HQ:OpR X (XO .Mod) (rI (fun _ j=>0<j) fun i j=>.int (i % j)):=rH fun i j _ _ _ _ _ hc q=>by
 have h1:(0:Int)<j:=hc
 exact mod_int' (by omega) (by rw [Int.fmod_eq_emod_of_nonneg i (by omega)];exact q)
theorem kJ {f:UC->a4q UC}{g:Int->Int}
  (rule:∀ (i:Int)(t:a5a)(s:UE)(Q:UC->UE->Prop)(E:UC->UE->Prop),Q (.int (g i) s.toks) { s with toks:=s.toks+1 }->U3 (U8 X.prog X.w) X.A (f (.int i t)) Q E s) :
  uT X f (rU fun i=>.int (g i)):=by
 intro a5f s σ H x v Q I rx h
 obtain ⟨i,rfl,q⟩:=h
 obtain ⟨t,rfl⟩:=rx
 exact rule i t s _ _ ⟨.int (g i),H,I.tok _,⟨_,rfl⟩,q⟩
theorem HR:uT X (unaryOp .USub) (rU fun i=>.int (-i)):=kJ fun _ _ _ _ _ q=>neg_int q
end
section
variable {X:Cx}{a b c:UO}{ta tb tc:TE}{pos:Wl}
theorem lS {a5f:List (Addr×Wf)}{σ:St}{H:Hp}{s:UE}{Q:VK}{k k':Bool}(I:Inv X a5f σ H s)(q:Q (.bl k) H)(e:k=k'):EP X a5f σ Q (.bool k') s:=by
 subst e
 exact ⟨.bl k,H,I,rfl,q⟩
theorem uV:OpR X (VD .Lt) (fU fun i j=>.bl (decide (i<j))):=rJ fun _ _ _ _ _ _ _ q=>lt_int q
theorem uW:OpR X (VD .LtE) (fU fun i j=>.bl (decide (i<=j))):=rJ fun _ _ _ _ _ _ _ q=>le_int q
theorem uX:OpR X (VD .Gt) (fU fun i j=>.bl (decide (j<i))):=rJ fun _ _ _ _ _ _ _ q=>gt_int q
theorem uY:OpR X (VD .GtE) (fU fun i j=>.bl (decide (j<=i))):=rJ fun _ _ _ _ _ _ _ q=>ge_int q
theorem Aq:OpR X (VD .In) (fun x y H Q=>∃ i j,x=.str i/\y=.str j/\Q (.bl (!(V1 j i 0 j.length 1).isEmpty)) H):=by
 intro a5f s σ H x y v u Q I rx ry h
 obtain ⟨i,j,rfl,rfl,q⟩:=h
 obtain ⟨t,rfl⟩:=rx
 obtain ⟨t',rfl⟩:=ry
 exact in_str (lS I q rfl)
theorem Ar:OpR X (VD .Is) (fun x y H Q=>y=.non/\Q (.bl (decide (x=.non))) H):=by
 intro a5f s σ H x y v u Q I rx ry h
 obtain ⟨rfl,q⟩:=h
 cases ry
 refine is_none_gen (lS I q ?_)
 cases x<;>first
  | (cases rx;rfl)
  | (obtain ⟨t,rfl⟩:=rx;rfl)
theorem Au:OpR X (VD .IsNot) (fun x y H Q=>y=.non/\Q (.bl (!decide (x=.non))) H):=by
 intro a5f s σ H x y v u Q I rx ry h
 obtain ⟨rfl,q⟩:=h
 cases ry
 refine isnot_none_gen (lS I q ?_)
 cases x<;>first
  | (cases rx;rfl)
  | (obtain ⟨t,rfl⟩:=rx;rfl)
theorem OpR.or {f:UC->UC->a4q UC}{r r':R2}(h:OpR X f r)(h':OpR X f r'):OpR X f (fun x y H Q=>r x y H Q\/r' x y H Q):=by
 intro a5f s σ H x y v u Q I rx ry q
 rcases q with q|q
 ·exact h a5f s σ H x y v u Q I rx ry q
 ·exact h' a5f s σ H x y v u Q I rx ry q
theorem cW (b:UO){op:X3}(h:op≠.In:=by decide)(h2:op≠.NotIn:=by decide):Xw op b=false:=by
 have e1:(op == CmpOp.In)=false:=by cases op<;>first|rfl|exact absurd rfl h
 have e2:(op == CmpOp.NotIn)=false:=by cases op<;>first|rfl|exact absurd rfl h2
 cases b<;>simp [Xw,e1,e2]
theorem HS {op:X3}{r:R2}(ho:OpR X (VD op) r)(ha:PE X a ta)(hb:PE X b tb)(hm:Xw op b=false):PE X (.Compare a [op] [b] pos) (pG r ta tb):=by
 intro a5f s σ H Q I h
 exact wpAny_Compare1 (uU ha hb I h fun v u s2 x y H2 I2 rx ry q=>ho a5f s2 σ H2 x y v u Q I2 rx ry q) hm
noncomputable def Av (t:TE):TT:=fun σ H Q=>t σ H fun x H'=>∃ k,x=.bl k/\Q k H'
theorem HU {op:X3}{r:R2}(ho:OpR X (VD op) r)(ha:PE X a ta)(hb:PE X b tb)(hm:Xw op b=false):PT X (.Compare a [op] [b] pos) (Av (pG r ta tb)):=by
 intro a5f s σ H Q I h
 refine wpAny_isTrue_Compare1 (aU (ha a5f s σ H _ I h) fun v s1 ⟨x,H1,I1,r1,q1⟩=>aU (hb a5f s1 σ H1 _ I1 q1) fun u s2 ⟨y,H2,I2,r2,q2⟩=>
  aU (ho a5f s2 σ H2 x y v u _ I2 r1 r2 q2) fun c s3 ⟨z,H3,I3,r3,k,e,q3⟩=>?_) hm
 subst e
 cases r3
 exact Ws ⟨H3,I3,q3⟩
noncomputable def uZ (r r':R2)(ta tb tc:TE):TE:=fun σ H Q=>ta σ H fun x H1=>tb σ H1 fun y H2=>r x y H2 fun z H3=>∃ k,z=.bl k /\
 (if k=true then tc σ H3 fun w' H4=>r' y w' H4 Q else Q (.bl false) H3)
theorem HV {op op':X3}{r r':R2}(ho:OpR X (VD op) r)(ho':OpR X (VD op') r')(ha:PE X a ta)(hb:PE X b tb)(hc:PE X c tc)
  (hm:a3X [op,op'] [b,c]=false:=by with_unfolding_all rfl):PE X (.Compare a [op,op'] [b,c] pos) (uZ r r' ta tb tc):=by
 intro a5f s σ H Q I h
 refine Compare_chain (aU (ha a5f s σ H _ I h) fun v s1 ⟨x,H1,I1,r1,q1⟩=>chain_link (aU (hb a5f s1 σ H1 _ I1 q1) fun u s2 ⟨y,H2,I2,r2,q2⟩=>
  aU (ho a5f s2 σ H2 x y v u _ I2 r1 r2 q2) fun d s3 ⟨z,H3,I3,r3,k,e,q3⟩=>?_)) hm
 subst e
 cases r3
 refine Ws ?_
 cases k with
 | false=>exact ite_ff ⟨.bl false,H3,I3,rfl,q3⟩
 | true=>exact ite_tt (chain_last (aU (hc a5f s3 σ H3 _ I3 q3) fun w' s4 ⟨z',H4,I4,r4,q4⟩=>ho' a5f s4 σ H4 y z' u w' Q I4 r2 r4 q4))
theorem HW {op op':X3}{r r':R2}(ho:OpR X (VD op) r)(ho':OpR X (VD op') r')(ha:PE X a ta)(hb:PE X b tb)(hc:PE X c tc)
  (hm:a3X [op,op'] [b,c]=false:=by with_unfolding_all rfl):PT X (.Compare a [op,op'] [b,c] pos) (Av (uZ r r' ta tb tc)):=by
 intro a5f s σ H Q I h
 refine isTrue_chain (aU (ha a5f s σ H _ I h) fun v s1 ⟨x,H1,I1,r1,q1⟩=>test_link (aU (hb a5f s1 σ H1 _ I1 q1) fun u s2 ⟨y,H2,I2,r2,q2⟩=>
  aU (ho a5f s2 σ H2 x y v u _ I2 r1 r2 q2) fun d s3 ⟨z,H3,I3,r3,k,e,q3⟩=>?_)) hm
 subst e
 cases r3
 refine Ws ?_
 cases k with
 | false=>
  obtain ⟨k',e',q'⟩:=q3
  cases e'
  exact ite_ff ⟨H3,I3,q'⟩
 | true=>
  refine ite_tt (test_last (aU (hc a5f s3 σ H3 _ I3 q3) fun w' s4 ⟨z',H4,I4,r4,q4⟩=>aU (ho' a5f s4 σ H4 y z' u w' _ I4 r2 r4 q4) fun d' s5 ⟨z2,H5,I5,r5,k2,e2,q5⟩=>?_))
  subst e2
  cases r5
  exact Ws ⟨H5,I5,q5⟩
noncomputable def u3 (K:Ux)(x:V)(H:Hp)(k:Bool):Prop:=
 match x with
 | .non=>k=false
 | .bl b=>k=b
 | .int i=>k=(i != 0)
 | .str y=>y.length<=UM/\k=((y.length:Int) != 0)
 | .byt y=>y.size<=UM/\k=((y.size:Int) != 0)
 | .ref p=>(∃ xs,SqL K H p xs/\k = !xs.isEmpty)\/(∃ xs,SqT K H p xs/\k = !xs.isEmpty)\/∃ kvs,H p=some (.dK kvs)/\k = !kvs.isEmpty
 | _=>False
theorem HX {κ:Type}{kvs:List (κ×V)}{vs:List (κ×UC)}(r:KV kvs vs):(!vs.isEmpty) = !kvs.isEmpty:=by
 cases r<;>rfl
theorem Aw {xs:List V}{its:List UC}(r:Vals xs its):(!its.toArray.isEmpty) = !xs.isEmpty:=by
 cases r<;>simp
theorem kK:(UM:Nat)<2 ^ 63:=by rw [U4];decide
theorem HY:HI X (fun x H Q=>∃ k,u3 X.K x H k/\Q k H):=by
 intro a5f s σ H x v Q I rx h
 obtain ⟨k,e,q⟩:=h
 have hl:=kK
 have hs:UM=16777216:=U4
 cases x with
 | non=>
  cases rx
  have e':k=false:=e
  subst e'
  exact truthy_none ⟨H,I,q⟩
 | bl b=>
  cases rx
  have e':k=b:=e
  subst e'
  exact Ws ⟨H,I,q⟩
 | int i=>
  obtain ⟨t,rfl⟩:=rx
  have e':k=(i != 0):=e
  subst e'
  exact PySem.P.truthy_int ⟨H,I,q⟩
 | str y=>
  obtain ⟨t,rfl⟩:=rx
  obtain ⟨hy,e'⟩:y.length<=UM/\k=((y.length:Int) != 0):=e
  subst e'
  exact PySem.P.truthy_str (by omega) ⟨H,I.tok _,q⟩
 | byt y=>
  obtain ⟨t,rfl⟩:=rx
  obtain ⟨hy,e'⟩:y.size<=UM/\k=((y.size:Int) != 0):=e
  subst e'
  exact PySem.W.truthy_bytes (by omega) ⟨H,I.tok _,q⟩
 | ref p=>
  cases rx
  have e':(∃ xs,SqL X.K H p xs/\k = !xs.isEmpty)\/(∃ xs,SqT X.K H p xs/\k = !xs.isEmpty)\/∃ kvs,H p=some (.dK kvs)/\k = !kvs.isEmpty:=e
  rcases e' with ⟨xs,hx,e'⟩|⟨xs,hx,e'⟩|⟨kvs,hx,e'⟩
  ·subst e'
   obtain ⟨its,r,pl,hz⟩:=I.list hx
   have hlen:=r.length
   exact wpAny_truthy_list pl.isList (by simp only [US];omega) ⟨H,I.tok _,by rw [Aw r];exact q⟩
  ·subst e'
   obtain ⟨its,r,pl,hz⟩:=I.tuple hx
   have hlen:=r.length
   exact truthy_tuple pl (by simp only [US];omega) ⟨H,I.tok _,by rw [Aw r];exact q⟩
  ·subst e'
   obtain ⟨hz,hS,vs,r,m⟩:kvs.length<=UM/\(p == VO)=false/\∃ vs,KV kvs vs/\s.heap.DictOf (lR X.prog X.w) p vs:=I.hok p _ hx
   have hlen:kvs.length=vs.length:=a0M r
   exact wpAny_truthy_dict hS m (by omega) ⟨H,I.tok _,by rw [HX r];exact q⟩
 | _=>exact (show False from e).elim
theorem HZ (ha:PE X a ta)(he:∀ whole,a2n a X.env whole=(do let v <- whole;standAt a.pos;holding [v] (truthy v))) :
  PT X a (fun σ H Q=>ta σ H fun x H'=>∃ k,u3 X.K x H' k/\Q k H'):=by
 intro a5f s σ H Q I h
 exact isTrue_plain (aU (ha a5f s σ H _ I h) fun v s1 ⟨x,H1,I1,r1,q1⟩=>HY a5f s1 σ H1 x v Q I1 r1 q1) (he _)
theorem op_add_str:OpR X (XO .Add) (fun x y H Q=>∃ i j,x=.str i/\y=.str j/\i.length+j.length<=UM/\Q (.str (i++j)) H):=by
 intro a5f s σ H x y v u Q I rx ry h
 obtain ⟨i,j,rfl,rfl,hz,q⟩:=h
 obtain ⟨t,rfl⟩:=rx
 obtain ⟨t',rfl⟩:=ry
 exact add_str (fun t' tk=>⟨.str (i++j),H,I.tok _,⟨_,rfl⟩,q⟩) hz
theorem eB {x:V}{us:List UC}(r:Vals [x] us):∃ u,us=[u]/\RelV x u:=by
 cases r with
 | cons r1 r2=>cases r2;exact ⟨_,rfl,r1⟩
theorem Ia {x y:V}{us:List UC}(r:Vals [x,y] us):∃ u w',us=[u,w']/\RelV x u/\RelV y w':=by
 cases r with
 | cons r1 r2=>
  cases r2 with
  | cons r3 r4=>cases r4;exact ⟨_,_,rfl,r1,r3⟩
theorem Ib:CallR X (.type "int") (fun xs H Q=>(∃ i,xs=[.int i]/\Q (.int i) H)\/∃ k,xs=[.bl k]/\Q (.int (if k then 1 else 0)) H):=by
 intro a5f s σ H xs us Q I r h
 rcases h with ⟨i,rfl,q⟩|⟨k,rfl,q⟩
 ·obtain ⟨u,rfl,t,rfl⟩:=eB r
  exact call_int_int ⟨.int i,H,I,⟨_,rfl⟩,q⟩
 ·obtain ⟨u,rfl,r1⟩:=eB r
  cases r1
  exact call_int_bool ⟨.int (if k then 1 else 0),H,I.tok _,⟨_,rfl⟩,q⟩
end
end L2
namespace L2
open PySem PySem.Spec PyProof.Rows
structure ObjM (h:VL)(x dx C:Addr)(mA:Str->Option UC):Prop where
 obj:h.get? x=some (a2e C dx)
 ns:h.Ns1 dx mA
 ne:dx≠x
section
variable {prog:Va}{w:Vu}{A:Vh}{E:UC->UE->Prop}{s:UE}{K:Ux}{x dx C f:Addr}{mA:Str->Option UC}{name:Str}{v:UC}
end
theorem RelO.some_of {v:V}{o:Option UC}(r:RelO (some v) o):∃ u,o=some u/\RelV v u:=by
 cases o with
 | none=>exact (show False from r).elim
 | some u=>exact ⟨u,rfl,r⟩
section
variable {P:Va}{w:Vu}{H H':Hp}{h h':VL}{a C dx:Addr}{fs fs':List (Str×V)}
end
structure Cls (K:Ux)(C:Addr):Prop where
 pg:a1V K C Str.empty=true
 hd:PySem.W.hasDictIn K C=true
 po:PySem.W.plainOver K C=true
 sa:Yy K (.ref C) "__setattr__" = some (some (.builtin "object.__setattr__"))
theorem Cls.get {K:Ux}{C:Addr}(c:Cls K C)(f:Str):a1V K C f=true:=c.pg
structure Con (K:Ux)(C:Addr)(f:Str)(v:V)(u:UC):Prop where
 at_:Yy K (.ref C) f=some (some u)
 rel:RelV v u
 get:a1M K u "__get__" = some none
 cp:PySem.W.copiedNames.contains f=false
structure Meth (K:Ux)(C:Addr)(m:Str)(f:Addr):Prop where
 at_:Yy K (.ref C) m=some (some (.ref f))
 fn:a2Y K (.ref f)=true
 kp:Wm K (.ref f)=true
section
variable {X:Cx}{a5f:List (Addr×Wf)}{σ:St}{H:Hp}{s:UE}{a C dx:Addr}{fs:List (Str×V)}{f:Str}{v:V}{A:Vh}{E:UC->UE->Prop}
end
section
variable {X:Cx}{o e value:UO}{f:Str}{pos pos' tpos:Wl}{ta tv:TE}
end
section
variable {X:Cx}{a5f:List (Addr×Wf)}{σ:St}{H:Hp}{s:UE}{A:Vh}{E:UC->UE->Prop}{Q:UC->UE->Prop}{c:UC}{b:Bool}
inductive TyOf (K:Ux)(H:Hp):V->UC->Prop where
 | non:TyOf K H .non (.type "NoneType")
 | bl (x:Bool):TyOf K H (.bl x) (.type "bool")
 | int (i:Int):TyOf K H (.int i) (.type "int")
 | str (x:Str):TyOf K H (.str x) (.type "str")
 | flt (x:UInt64):TyOf K H (.flt x) (.type "float")
 | lst {a:Addr}{xs:List V}(e:H a=some (.lst xs)):TyOf K H (.ref a) (.type "list")
 | frz {a:Addr}{o:Wf}{xs:List V}(e:H a=some (.frz o (.lst xs))):TyOf K H (.ref a) (.type "list")
 | tup {a:Addr}{xs:List V}(e:H a=some (.tup xs)):TyOf K H (.ref a) (.type "tuple")
 | dK {a:Addr}{kvs:List (bD×V)}(e:H a=some (.dK kvs)):TyOf K H (.ref a) (.type "dict")
 | dT {a:Addr}{kvs:List (List bD×V)}(e:H a=some (.dT kvs)):TyOf K H (.ref a) (.type "dict")
 | ins {a C dx:Addr}{fs:List (Str×V)}(e:H a=some (.ins C dx fs))(cl:Cls K C)(ha:Yy K (.ref C) "__class__" = some (some (.builtin "object.__class__")))
   (hn:a1M K (.builtin "object.__class__") "__get__" = some (some (.builtin "getset_descriptor.__get__"))) (htk:PySem.W.takesIn K (.builtin "object.__class__")=some true)
   (hm:PySem.W.mroIn K C (.type "object")=some true):TyOf K H (.ref a) (.ref C)
end
end L2
namespace L2
open PySem PySem.Spec PyProof.Rows
structure Room (k:Nat)(A:Vh):Prop where
 hd:A.handled=none
 dp:A.depth+3 * k+5<a4V
 un:A.units+16 * k+200<V3
theorem Room.deeper {k:Nat}{A:Vh}(r:Room (k+1) A)(env:ZZ):Room k (A.deeper env):=
 ⟨r.hd,by have:=r.dp;show A.depth+1+3 * k+5<_;omega,by have:=r.un;show A.units+3+16 * k+200<_;omega⟩
theorem Room.depth {k:Nat}{A:Vh}(r:Room k A):A.depth<a4V:=by have:=r.dp;omega
theorem Room.units {k:Nat}{A:Vh}(r:Room k A):A.units+64<V3:=by have:=r.un;omega
noncomputable def Ax:TA:=fun _ H Q=>Q [] H
noncomputable def Ic (ta:TE)(tr:TA):TA:=fun σ H Q=>ta σ H fun x H1=>tr σ H1 fun xs H2=>Q (x::xs) H2
section
variable {X:Cx}{e:UO}{es:List UO}{te:TE}{t:TA}{pos:Wl}
theorem Ie:PA X [] Ax:=fun _ _ _ _ H Q I h=>YN ⟨[],H,I,.nil,h⟩
theorem Ig (ha:PE X e te)(hr:PA X es t)(hs:Vj (e::es) X.env=(false,eval e X.env)::Vj es X.env:=by rfl):PA X (e::es) (Ic te t):=by
 intro pos a5f s σ H Q I h
 rw [hs]
 show U3 _ _ (spliced ((false,eval e X.env)::W0 pos (Vj es X.env))) _ _ s
 refine YE (aU (ha a5f s σ H _ I h) fun u s1 ⟨x,H1,I1,r1,q1⟩=>?_)
 exact aU (hr pos a5f s1 σ H1 _ I1 q1) fun us s2 ⟨xs,H2,I2,r2,q2⟩=>⟨x::xs,H2,I2,.cons r1 r2,q2⟩
noncomputable def Ih (t:TA):TE:=fun σ H Q=>t σ H fun xs H1=>xs.length<=UM/\∀ p,H1 p=none->Q (.ref p) (aK H1 p (.tup xs))
noncomputable def Ii (t:TA):TE:=fun σ H Q=>t σ H fun xs H1=>xs.length<=UM/\∀ p,H1 p=none->Q (.ref p) (aK H1 p (.lst xs))
theorem Ij {x1} (h:PA X es t):PE X (.Tuple es x1 pos) (Ih t):=by
 intro a5f s σ H Q I hq
 refine wpAny_Tuple_spliced (aU (h pos a5f s σ H _ I hq) fun us s1 ⟨xs,H1,I1,r,z,q⟩=>⟨by rw [<- r.length];exact z,?_⟩)
 have hf:H1 s1.heap.objs.size=none:=I1.hok.fresh (UJ _)
 refine ⟨.ref s1.heap.objs.size,aK H1 s1.heap.objs.size (.tup xs),I1.laid (t':=s1.toks) (fun b u e=>UD _ e) (UJ _) ?_,rfl,q _ hf⟩
 exact ⟨z,us,r,⟨_,UT _ rfl,rfl,_,rfl,rfl⟩⟩
theorem Ik (h:PA X es t):PE X (.List es pos) (Ii t):=by
 intro a5f s σ H Q I hq
 refine wpAny_List_spliced (aU (h pos a5f s σ H _ I hq) fun us s1 ⟨xs,H1,I1,r,z,q⟩=>⟨by rw [<- r.length];exact z,?_⟩)
 have hf:H1 s1.heap.objs.size=none:=I1.hok.fresh (UJ _)
 refine ⟨.ref s1.heap.objs.size,aK H1 s1.heap.objs.size (.lst xs),I1.laid (t':=s1.toks) (fun b u e=>UD _ e) (UJ _) ?_,rfl,q _ hf⟩
 exact ⟨z,us,0,r,UT _ rfl⟩
end
noncomputable abbrev Sp:=List V->Hp->VK->XK->Prop
noncomputable abbrev i8:=List ZZ->Hp->UE->XK->UC->UE->Prop
structure Env0 (P:Va)(w:Vu)(K:Ux)(mg:Str->Option UC)(base:VL)(A:Vh)(outer:List ZZ)(s:UE)(H:Hp):Prop where
 frames:A.frames=some outer
 mod:Mod K mg base
 bs:∀ b o,base.get? b=some o->s.heap.get? b=some o/\H b=none
 bsz:base.objs.size<=s.heap.objs.size
 funs:s.heap.FunFrames base outer
 frf:∀ b∈gW outer,H b=none
 hok:HOk P w H s.heap
 bare:Z3 s.gens
noncomputable def CE (outer:List ZZ)(P:Va)(w:Vu)(H:Hp)(s:UE)(Q:VK)(u:UC)(s':UE):Prop:=
 ∃ v H',s'.os=s.os/\Z3 s'.gens/\Un (gW outer) [] H H' s.heap s'.heap/\HOk P w H' s'.heap/\RelV v u/\Q v H'
noncomputable def CR (CX:i8)(outer:List ZZ)(P:Va)(w:Vu)(H:Hp)(s:UE)(Q:VK)(E:XK)(r:a0l)(s':UE):Prop:=
 match r with
 | .ok (.ret u)=>CE outer P w H s Q u s'
 | .ok _=>False
 | .error e=>CX outer H s E e s'
structure FnOk (P:Va)(w:Vu)(K:Ux)(mg:Str->Option UC)(base:VL)(CX:i8)(k:Nat)(f:Addr)(fd:WS)(ps:List Str)(sp:Sp):Prop where
 len:∀ vs H Q E,sp vs H Q E->vs.length=ps.length
 run:∀ (A:Vh)(outer:List ZZ)(s:UE)(H:Hp)(args:Args)(us:List UC)(vs:List V)(Q:VK)(E:XK),Room k A->Env0 P w K mg base A outer s H->a0I s fd args (ps.zip us)->Vals vs us->sp vs H Q E->
  X7 (U8 P w) A (.call (.ref f) args) (CR CX outer P w H s Q E) s
section
variable {X:Cx}{a5f:List (Addr×Wf)}{σ:St}{H:Hp}{s s':UE}
theorem Inv.env0 (I:Inv X a5f σ H s):Env0 X.prog X.w X.K X.mg X.base X.A X.stack s H:=
 ⟨I.ok.frames,I.ok.mod,I.bs,VG I.ok.bsz I.sz,I.stack,I.stkFree,I.hok,I.bare⟩
theorem Inv.after {Q:VK}{u:UC}(I:Inv X a5f σ H s)(h:CE X.stack X.prog X.w H s Q u s'):EP X a5f σ Q u s':=by
 obtain ⟨v,H',os,bare,un,hok,r,q⟩:=h
 obtain ⟨hh,g,d,t,os'⟩:=s'
 obtain rfl:os'=s.os:=os
 exact ⟨v,H',I.call (h':=hh) (g':=g) (d':=d) (t':=t) (ch:=[]) un hok bare (fun b z=>absurd z (by simp)),r,q⟩
end
noncomputable def u4 (sp:Sp)(dvs:List V)(E:XK)(t:TA):TE:=fun σ H Q=>t σ H fun vs H1=>sp (vs++dvs) H1 Q E
noncomputable def Binds (K:Ux)(fd:WS)(ps:List Str)(ds:List UC):Prop:=
 ∀ (s:UE)(us:List UC),K.In s.heap->(us++ds).length=ps.length->a0I s fd ⟨us,[]⟩ (ps.zip (us++ds))
theorem Binds.all {K:Ux}{fd:WS}{ps:List Str}(h:∀ us:List UC,us.length=ps.length->a1B fd ⟨us,[]⟩=pure (ps.zip us)):Binds K fd ps []:=fun s us _ hl=>by
 rw [a0u] at hl ⊢
 exact .of_eq (h us hl)
noncomputable def rK (CX:i8)(X:Cx)(E:XK):Prop:=∀ (a5f:List (Addr×Wf))(σ:St)(H:Hp)(s:UE)(e:UC)(s':UE),Inv X a5f σ H s->CX X.stack H s E e s'->X.xe e s'
section
variable {X:Cx}{CX:i8}{k:Nat}{f C:Addr}{fd:WS}{ps:List Str}{sp:Sp}{dvs:List V}{ds:List UC}{E:XK}{x m:Str}{p pos apos:Wl}{e o:UO}{es:List UO}{ta:TE}{t:TA}
theorem Ay {a5f:List (Addr×Wf)}{σ:St}{H:Hp}{s:UE}{Q:VK}{us:List UC}{vs:List V}(F:FnOk X.prog X.w X.K X.mg X.base CX k f fd ps sp)(hr:Room k X.A)(hb:Binds X.K fd ps ds)(hd:Vals dvs ds)(hx:rK CX X E)
  (I:Inv X a5f σ H s)(r:Vals vs us)(h:sp (vs++dvs) H Q E):U3 (U8 X.prog X.w) X.A (call (.ref f) us) (EP X a5f σ Q) X.xe s:=by
 have r2:Vals (vs++dvs) (us++ds):=r.append hd
 have hl:(us++ds).length=ps.length:=by rw [<- r2.length];exact F.len _ _ _ _ h
 refine wpAny_call (a0A (F.run X.A X.stack s H ⟨us,[]⟩ (us++ds) (vs++dvs) Q E hr I.env0 (hb s us I.kIn hl) r2 h) fun r s' hq=>?_)
 cases r with
 | error e=>exact hx a5f σ H s e s' I hq
 | ok fl=>
  cases fl with
  | ret u=>exact I.after hq
  | next=>exact Wz hq
  | brk=>exact Wz hq
  | cont=>exact Wz hq
theorem Il (F:FnOk X.prog X.w X.K X.mg X.base CX k f fd ps sp)(hr:Room k X.A)(hg:Gl X x)(hm:X.mg x=some (.ref f))(hk:Wm X.K (.ref f)=true)(hb:Binds X.K fd ps ds)(hd:Vals dvs ds)(hx:rK CX X E)
  (ha:PA X (e::es) t)(hdb:(x == ("__debug__":Str))=false:=by decide) (he:Vj (e::es) X.env=(false,eval e X.env)::Vj es X.env:=by rfl)(hpl:(W0 pos (Vj es X.env)).any (·.1)=false:=by rfl) :
  PE X (.Call (.Name x p) (e::es) [] pos) (u4 sp dvs E t):=by
 intro a5f s σ H Q I h
 refine Wx (uP I hg hm ?_ hdb)
 refine PySem.W.callWith_K (h₀:=X.base) I.ok.mod.kin hk (aU (ha pos a5f s σ H _ I h) fun us s1 ⟨vs,H1,I1,r,q⟩=>⟨I1.kIn,?_⟩) he hpl
 exact Ay F hr hb hd hx I1 r q
theorem Im (F:FnOk X.prog X.w X.K X.mg X.base CX k f fd ps sp)(hr:Room k X.A)(hg:Gl X x)(hm:X.mg x=some (.ref f))(hk:Wm X.K (.ref f)=true)(hb:Binds X.K fd ps ds)(hd:Vals dvs ds)(hx:rK CX X E)
  (hdb:(x == ("__debug__":Str))=false:=by decide):PE X (.Call (.Name x p) [] [] pos) (u4 sp dvs E Ax):=by
 intro a5f s σ H Q I h
 refine Wx (uP I hg hm ?_ hdb)
 exact PySem.W.callWith_K0 I.kIn hk (Ay (us:=[]) F hr hb hd hx I .nil h)
structure Mk (K:Ux)(C f:Addr):Prop where
 makes:PySem.W.makesIn K C=true
 init:Yy K (.ref C) "__init__" = some (some (.ref f))
 fn:a2Y K (.ref f)=true
 kp:Wm K (.ref C)=true
end
section
variable {X:Cx}{CX:i8}{k:Nat}{f C:Addr}{fd:WS}{ps ks:List Str}{sp:Sp}{E:XK}{x m:Str}{p pos apos kpos:Wl}{e o:UO}{es:List UO}{kws:List XT}{te ta:TE}{t tk:TA}{nm:Option Str}
structure KBinds (K:Ux)(fd:WS)(ps ks:List Str)(g:List UC->List UC->List UC)(gV:List V->List V->List V):Prop where
 to:∀ (s:UE)(us ws:List UC),K.In s.heap->(g us ws).length=ps.length->a0I s fd ⟨us,ks.zip ws⟩ (ps.zip (g us ws))
 rel:∀ {vs:List V}{us:List UC}{zs:List V}{ws:List UC},Vals vs us->Vals zs ws->Vals (gV vs zs) (g us ws)
variable {g:List UC->List UC->List UC}{gV:List V->List V->List V}
end
structure FnScope (N P:List Str)(sc:Xf):Prop where
 kind:sc.kind=.function
 co:sc.isCoroutine=false
 gen:sc.isGenerator=false
 nd:N.Nodup
 pre:N.take P.length=P
 par:∀ x∈P,sc.names.lookup x=some .local\/sc.names.lookup x=some .cell
 nofree:∀ y∈sc.names,y.2≠.free
theorem Az {kindOf:Str->Option W3}{x:Str}:∀ {binds:List (Str×UC)}{m:Str->Option UC},(∀ v,(x,v)∉binds)->a2c kindOf binds m x=m x
 | [],_,_=>rfl
 | (n,v)::r,m,h=>by
  unfold a2c
  rw [Az fun w hw=>h w (UX _ hw)]
  split
  ·have:x≠n:=by rintro rfl;exact h v U2
   simp [this]
  ·rfl
theorem AA {kindOf:Str->Option W3}{x:Str}:∀ {binds:List (Str×UC)}{m:Str->Option UC},(∀ v,(x,v)∉binds)->a2d kindOf binds m x=m x
 | [],_,_=>rfl
 | (n,v)::r,m,h=>by
  unfold a2d
  rw [AA fun w hw=>h w (UX _ hw)]
  split
  ·rfl
  ·have:x≠n:=by rintro rfl;exact h v U2
   simp [this]
theorem AB {kindOf:Str->Option W3}{x:Str}{v:UC}:∀ {P:List Str}{vs:List UC}{i:Nat}{m:Str->Option UC},P.Nodup->P[i]? = some x->vs[i]? = some v->kindOf x=some .local->
  a2c kindOf (P.zip vs) m x=some v
 | [],_,_,_,_,h,_,_=>by simp at h
 | _::_,[],_,_,_,_,h,_=>by simp at h
 | p::P,w::vs,0,m,nd,h1,h2,hk=>by
  simp at h1 h2;subst h1;subst h2
  show a2c kindOf ((p,w)::P.zip vs) m p=_
  unfold a2c
  rw [Az fun v hv=>(Wr.mp nd).1 (a0s hv).1,if_pos hk]
  simp
 | p::P,w::vs,i+1,m,nd,h1,h2,hk=>by
  show a2c kindOf ((p,w)::P.zip vs) m x=_
  unfold a2c
  exact AB (i:=i) (Wr.mp nd).2 (by simpa using h1) (by simpa using h2) hk
theorem AD {kindOf:Str->Option W3}{x:Str}{v:UC}:∀ {P:List Str}{vs:List UC}{i:Nat}{m:Str->Option UC},P.Nodup->P[i]? = some x->vs[i]? = some v->kindOf x≠some .local->
  a2d kindOf (P.zip vs) m x=some v
 | [],_,_,_,_,h,_,_=>by simp at h
 | _::_,[],_,_,_,_,h,_=>by simp at h
 | p::P,w::vs,0,m,nd,h1,h2,hk=>by
  simp at h1 h2;subst h1;subst h2
  show a2d kindOf ((p,w)::P.zip vs) m p=_
  unfold a2d
  rw [AA fun v hv=>(Wr.mp nd).1 (a0s hv).1,if_neg hk]
  simp
 | p::P,w::vs,i+1,m,nd,h1,h2,hk=>by
  show a2d kindOf ((p,w)::P.zip vs) m x=_
  unfold a2d
  exact AD (i:=i) (Wr.mp nd).2 (by simpa using h1) (by simpa using h2) hk
noncomputable def start (N:List Str)(vs:List V):St:=vs.map some++Vi (N.length - vs.length) none
noncomputable def jS (CX:i8)(P:Va)(w:Vu)(K:Ux)(mg:Str->Option UC)(base:VL)(N:List Str)(qual:Str)(scope:Xf)(f:Addr)(cd:UC)(A:Vh)(outer:List ZZ)(s:UE)(H:Hp)(E:XK):Cx where
 prog:=P
 w:=w
 K:=K
 mg:=mg
 base:=base
 A:=A.deeper (envOfC qual scope s.heap.objs.size f cd)
 N:=N
 s₀:=s
 H₀:=H
 env:=envOfC qual scope s.heap.objs.size f cd
 outer:=outer
 stack:=envOfC qual scope s.heap.objs.size f cd::outer
 ex:=[]
 calm:=true
 fn:=fun _=>true
 pn:=[]
 xe:=fun e s'=>U3 (U8 P w) (A.deeper (envOfC qual scope s.heap.objs.size f cd)) (leaving (envOfC qual scope s.heap.objs.size f cd) e) (fun _ s''=>CX outer H s E e s'') (fun e' s''=>CX outer H s E e' s'') s'
theorem AE {sc:Xf}{n:Nat}{x:Str}(h:sc.names.lookup x=some .cell):∃ c,(a3Y n sc.names []).lookup x=some c:=by
 have q:=a0W sc.names n [] (.inl h)
 exact XJ.mp q
theorem Io {CX:i8}{P:Va}{w:Vu}{K:Ux}{mg:Str->Option UC}{base:VL}{N ps:List Str}{qual:Str}{scope:Xf}{f:Addr}{cd:UC}{A:Vh}{outer:List ZZ}{s s1:UE}{H:Hp}{E:XK}{us:List UC}{vs:List V}
  (S:FnScope N ps scope)(hd:A.handled=none)(e0:Env0 P w K mg base A outer s H)(hl:vs.length=ps.length)(r:Vals vs us)
  (x:InCallC s s.heap.objs.size (a2c (envOfC qual scope s.heap.objs.size f cd).kindOf (ps.zip us) fun _=>none) (a3Y (s.heap.objs.size+1) scope.names []) (a2d (envOfC qual scope s.heap.objs.size f cd).kindOf (ps.zip us) fun _=>none) s1) :
  Inv (jS CX P w K mg base N qual scope f cd A outer s H E) [] (start N vs) H s1:=by
 have hpl:ps.length<=N.length:=by have:=congrArg Vq S.pre;rw [W5] at this;omega
 obtain ⟨h1,tk,rfl,hk⟩:=x.done
 have noA:∀ b:Addr,b∉(jS CX P w K mg base N qual scope f cd A outer s H E).ex:=fun b z=>absurd (show b∈([]:List Addr) from z) (by simp)
 refine ⟨⟨e0.mod,S.kind,rfl,rfl,UJ _,fun y z c h1 h2=>?_,fun y hy=>?_,fun y c _ h=>?_,fun _=>hd,Around.frames_deeper e0.frames,.inr ⟨rfl,rfl⟩,fun b z=>absurd z (noA b),e0.bs,e0.bsz,fun b _ _=>noA b,fun b z=>absurd z (noA b),e0.funs,e0.frf⟩,
  rfl,e0.bare,Un.kept hk,⟨_,x.toInCall.ns,fun i y v h1 h2 h3=>?_⟩,fun y c h=>⟨_,x.cell y c h⟩,e0.hok.fresh (UJ _),fun y c h=>?_,fun p hp=>absurd (show p∈([]:List (Addr×Wf)) from hp) (by simp),e0.hok.kept hk,?_⟩
 ·exact name_of_addr x.apart (VQ h1) (VQ h2)
 ·have hy:scope.names.lookup y=some .cell\/scope.names.lookup y=some .free:=hy
  rcases hy with hy|hy
  ·exact AE hy
  ·exact absurd rfl (S.nofree _ (VQ hy))
 ·exact YD (x.above y c (VQ h))
 ·have hi:i<vs.length:=by
   unfold start at h2
   by_cases hi:i<vs.length
   ·exact hi
   ·rw [Wq (by simpa using hi)] at h2
    rw [W6] at h2
    split at h2<;>cases h2
  have ha:vs[i]? = some v:=by
   unfold start at h2
   rw [Vt (by simpa using hi),Vd] at h2
   cases e:vs[i]? with
   | none=>rw [e] at h2;cases h2
   | some a=>rw [e] at h2;cases h2;rfl
  obtain ⟨u,hu,rv⟩:=r.get ha
  have hp:ps[i]? = some y:=by
   rw [<- S.pre,List.getElem?_take_of_lt (by omega)];exact h1
  have ndP:ps.Nodup:=by rw [<- S.pre];exact S.nd.sublist (a2B _ _)
  refine ⟨u,rv,?_⟩
  rcases S.par y (Ve hp) with k|k
  ·exact .inl ⟨k,AB ndP hp hu k⟩
  ·obtain ⟨c,e⟩:=AE (n:=s.heap.objs.size+1) k
   refine .inr ⟨.inl k,c,e,?_⟩
   have q:=x.cell y c e
   rw [AD ndP hp hu (by show scope.names.lookup y≠_;rw [k];decide)] at q
   exact q
 ·exact e0.hok.fresh (YD (x.above y c (VQ h)))
 ·unfold start
  show _=N.length
  rw [U5,Uz,WM]
  omega
theorem Ip {CX:i8}{P:Va}{w:Vu}{K:Ux}{mg:Str->Option UC}{base:VL}{k:Nat}{f:Addr}{name qual:Str}{params:Arguments}{body:List Stmt}{scope:Xf}{dV kV doc pm cdv ct oc:UC}{an od:Option Addr}
  {osl:Array (Option UC)}{N ps:List Str}{sp:Sp}(lk:K.lookup f=some ⟨oc,od,.func (WO name qual params body scope dV kV doc pm an cdv ct),osl⟩)(hcd:Za K cdv qual=true)(S:FnScope N ps scope)
  (len:∀ vs H Q E,sp vs H Q E->vs.length=ps.length)
  (hbody:∀ (A:Vh)(outer:List ZZ)(s:UE)(H:Hp)(vs:List V)(Q:VK)(E:XK),Room k (A.deeper (envOfC qual scope s.heap.objs.size f cdv))->sp vs H Q E->
   ∃ t,PSs (jS CX P w K mg base N qual scope f cdv A outer s H E) body t/\t { nx:=fun _ H'=>Q .non H',rt:=Q } (start N vs) H) :
  FnOk P w K mg base CX (k+1) f (WO name qual params body scope dV kV doc pm an cdv ct) ps sp:=by
 refine ⟨len,fun A outer s H args us vs Q E hr e0 hb r hsp=>?_⟩
 have hl:=len _ _ _ _ hsp
 have KX:K.In s.heap:=e0.mod.kin.keeps fun b o e=>(e0.bs b o e).1
 have lim:s.heap.NoLimit:=e0.mod.nolimit.keeps fun b o e=>(e0.bs b o e).1
 have hkind:∀ y∈ps.zip us,scope.names.lookup y.1=some .local\/(scope.names.lookup y.1=some .cell/\((a3Y (s.heap.objs.size+1) scope.names []).lookup y.1).isSome=true):=fun ⟨n,v⟩ hy=>by
  rcases S.par n (a0s hy).1 with q|q
  ·exact .inl q
  ·exact .inr ⟨q,a0W _ _ _ (.inl q)⟩
 refine codeAny_call_function hr.depth (KX _ _ lk) rfl S.co S.gen rfl (PySem.W.codeRec_of KX hcd) (hb _ _ _ _ ?_)
 refine wpAny_newFunctionEnv_cells S.kind hkind fun env he s1 x=>?_
 subst he
 refine ⟨lim.keeps x.toInCall.keep,codeAny_func ?_⟩
 obtain ⟨t,ht,hq⟩:=hbody A outer s H vs Q E (hr.deeper _) hsp
 have I:Inv (jS CX P w K mg base N qual scope f cdv A outer s H E) [] (start N vs) H s1:=Io S hr.hd e0 hl r x
 refine VP (ht [] s1 (start N vs) H _ I hq) (fun fl s' hs=>?_) fun e s' hs=>hs
 have fin:∀ {σ':St}{H':Hp}{v:V}{u:UC},Inv (jS CX P w K mg base N qual scope f cdv A outer s H E) [] σ' H' s'->RelV v u->Q v H'->CE outer P w H s Q u s':=
  fun {σ' H' v u} J rv q=>⟨v,H',J.os,J.bare,J.base,J.hok,rv,q⟩
 cases fl with
 | ret u=>
  obtain ⟨v,σ',H',J,rv,q⟩:=hs
  exact fin J rv q
 | next=>
  obtain ⟨σ',H',J,q⟩:=hs
  exact fin (v:=V.non) (u:=VJ) J rfl q
 | brk=>
  obtain ⟨_,_,_,q⟩:=hs
  exact Wz q
 | cont=>
  obtain ⟨_,_,_,q⟩:=hs
  exact Wz q
end L2
namespace L2
open PySem PySem.Spec PyProof.Rows
section
variable {X:Cx}{x:Str}{p pos:Wl}{e:UO}{es:List UO}{t:TA}{id T:String}{r:List V->Hp->VK->Prop}
noncomputable def rL (r:List V->Hp->VK->Prop)(t:TA):TE:=fun σ H Q=>t σ H fun vs H1=>r vs H1 Q
theorem Iq (hc:CallR X (.builtin id) r)(hg:Gl X x)(hm:X.mg x=none)(hv:Wa x=some (.builtin id))(ha:PA X (e::es) t)(hn:x ≠ "__name__":=by decide) (hdb:(x == ("__debug__":Str))=false:=by decide)
  (he:Vj (e::es) X.env=(false,eval e X.env)::Vj es X.env:=by rfl)(hpl:(W0 pos (Vj es X.env)).any (·.1)=false:=by rfl):PE X (.Call (.Name x p) (e::es) [] pos) (rL r t):=by
 intro a5f s σ H Q I h
 refine Wx (iM I hg hm hv ?_ hn hdb)
 exact Zj (aU (ha pos a5f s σ H _ I h) fun us s1 ⟨vs,H1,I1,r1,q1⟩=>hc a5f s1 σ H1 vs us Q I1 r1 q1) he hpl
theorem Ir (hc:CallR X (.type T) r)(hg:Gl X x)(hm:X.mg x=none)(hv:Wa x=some (.type T))(ha:PA X (e::es) t)(hn:x ≠ "__name__":=by decide) (hdb:(x == ("__debug__":Str))=false:=by decide)
  (he:Vj (e::es) X.env=(false,eval e X.env)::Vj es X.env:=by rfl)(hpl:(W0 pos (Vj es X.env)).any (·.1)=false:=by rfl):PE X (.Call (.Name x p) (e::es) [] pos) (rL r t):=by
 intro a5f s σ H Q I h
 refine Wx (iM I hg hm hv ?_ hn hdb)
 exact V0 (aU (ha pos a5f s σ H _ I h) fun us s1 ⟨vs,H1,I1,r1,q1⟩=>hc a5f s1 σ H1 vs us Q I1 r1 q1) he hpl
end
end L2
namespace L2
open PySem PySem.Spec PyProof.Rows
section
variable {κ:Type} [DecidableEq κ]
noncomputable def eI (kvs:List (κ×V))(k:κ):Option V:=(kvs.find? fun kv=>decide (kv.1=k)).map (·.2)
noncomputable def rM (kvs:List (κ×V))(k:κ)(v:V):List (κ×V):=
 if (kvs.any fun kv=>decide (kv.1=k))=true then kvs.map (fun kv=>if kv.1=k then (kv.1,v) else kv) else kvs++[(k,v)]
noncomputable def AF (kvs:List (κ×V))(k:κ):List (κ×V):=kvs.filter fun kv=>decide (kv.1≠k)
theorem AG {p:κ×V}{r:List (κ×V)}{k:κ}(e:p.1=k):eI (p::r) k=some p.2:=by simp [eI,VE,e]
theorem AH {p:κ×V}{r:List (κ×V)}{k:κ}(e:¬ p.1=k):eI (p::r) k=eI r k:=by simp [eI,VE,e]
theorem RelO.isSome_eq {o:Option V}{u:Option UC}(r:RelO o u):o.isSome=u.isSome:=by
 cases o with
 | none=>cases u with
  | none=>rfl
  | some _=>exact (show False from r).elim
 | some _=>cases u with
  | none=>exact (show False from r).elim
  | some _=>rfl
theorem RelO.getD {o:Option V}{u:Option UC}{d:V}{d':UC}(r:RelO o u)(rd:RelV d d'):RelV (o.getD d) (u.getD d'):=by
 cases o with
 | none=>cases u with
  | none=>exact rd
  | some _=>exact (show False from r).elim
 | some _=>cases u with
  | none=>exact (show False from r).elim
  | some _=>exact r
theorem KV.val {kvs:List (κ×V)}{vs:List (κ×UC)}(r:KV kvs vs)(k:κ):RelO (eI kvs k) (a1o vs k):=by
 unfold KV at r
 induction r with
 | nil=>exact WZ
 | @cons p q ps qs h t ih=>
  obtain ⟨h1,h2⟩:=h
  by_cases e:p.1=k
  ·have e':q.1=k:=h1.symm.trans e
   have b:a1o (q::qs) k=some q.2:=by simp [a1o,VE,e']
   rw [AG e,b];exact h2
  ·have e':¬ q.1=k:=fun z=>e (h1.trans z)
   have b:a1o (q::qs) k=a1o qs k:=by simp [a1o,VE,e']
   rw [AH e,b];exact ih
theorem KV.any {kvs:List (κ×V)}{vs:List (κ×UC)}(r:KV kvs vs)(k:κ):(kvs.any fun kv=>decide (kv.1=k))=vs.any fun kv=>decide (kv.1=k):=by
 unfold KV at r
 induction r with
 | nil=>rfl
 | cons h t ih=>rw [XQ,XQ,ih,h.1]
theorem KV.drop {kvs:List (κ×V)}{vs:List (κ×UC)}(r:KV kvs vs)(k:κ):KV (AF kvs k) (without vs k):=by
 unfold KV at r ⊢
 unfold AF without
 induction r with
 | nil=>exact .nil
 | @cons p q ps qs h t ih=>
  obtain ⟨h1,h2⟩:=h
  rw [Y4,Y4]
  by_cases e:p.1=k
  ·have a:¬ decide (p.1≠k)=true:=by simp [e]
   have b:¬ decide (q.1≠k)=true:=by simp [h1.symm.trans e]
   rw [if_neg a,if_neg b];exact ih
  ·have e':¬ q.1=k:=fun z=>e (h1.trans z)
   have a:decide (p.1≠k)=true:=by simp [e]
   have b:decide (q.1≠k)=true:=by simp [e']
   rw [if_pos a,if_pos b];exact .cons ⟨h1,h2⟩ ih
theorem KV.keys {kvs:List (κ×V)}{vs:List (κ×UC)}(r:KV kvs vs):kvs.map (·.1)=vs.map (·.1):=by
 unfold KV at r
 induction r with
 | nil=>rfl
 | cons h t ih=>rw [UQ,UQ,ih,h.1]
theorem KV.length {kvs:List (κ×V)}{vs:List (κ×UC)}(r:KV kvs vs):kvs.length=vs.length:=a0M r
end
noncomputable abbrev KT (H:Hp):List (List bD×V)->List (List bD×Addr×UC)->Prop:=Yo fun p q=>p.1=q.1/\H q.2.1=some (.tup (p.1.map kV))/\RelV p.2 q.2.2
theorem KT.val {H:Hp}{kvs:List (List bD×V)}{xs:List (List bD×Addr×UC)}(r:KT H kvs xs)(k:List bD):RelO (eI kvs k) ((Yl xs k).map (·.2)):=by
 induction r with
 | nil=>exact WZ
 | @cons p q ps qs h t ih=>
  obtain ⟨h1,_,h2⟩:=h
  by_cases e:p.1=k
  ·have e':q.1=k:=h1.symm.trans e
   have b:Yl (q::qs) k=some q.2:=by simp [Yl,VE,e']
   rw [AG e,b];exact h2
  ·have e':¬ q.1=k:=fun z=>e (h1.trans z)
   have b:Yl (q::qs) k=Yl qs k:=by simp [Yl,VE,e']
   rw [AH e,b];exact ih
theorem KT.keeps {H H':Hp}{kvs:List (List bD×V)}{xs:List (List bD×Addr×UC)}(r:KT H kvs xs)(ht:∀ b ys,H b=some (.tup ys)->H' b=some (.tup ys)):KT H' kvs xs:=
 Yo.mapP r fun _ _ z=>⟨z.1,ht _ _ z.2.1,z.2.2⟩
section
variable {P:Va}{w:Vu}{H:Hp}{h:VL}{a:Addr}
end
noncomputable def DGet (H:Hp)(a:Addr)(y:V)(r:Option V):Prop:=
 (∃ kvs k,Rd H a (.dK kvs)/\y=kV k/\r=eI kvs k)\/∃ kvs k b,Rd H a (.dT kvs)/\y=.ref b/\H b=some (.tup (k.map kV))/\r=eI kvs k
noncomputable def DPut (H:Hp)(a:Addr)(y v:V)(H':Hp):Prop:=
 (∃ kvs k,H a=some (.dK kvs)/\y=kV k/\kvs.length<UM/\H'=aK H a (.dK (rM kvs k v))) \/
 ∃ kvs k b,H a=some (.dT kvs)/\y=.ref b/\H b=some (.tup (k.map kV))/\kvs.length<UM/\H'=aK H a (.dT (rM kvs k v))
theorem DGet.k {H:Hp}{a:Addr}{kvs:List (bD×V)}{k:bD}(e:H a=some (.dK kvs)):DGet H a (kV k) (eI kvs k):=.inl ⟨kvs,k,.inl e,rfl,rfl⟩
theorem DGet.t {H:Hp}{a b:Addr}{kvs:List (List bD×V)}{k:List bD}(e:H a=some (.dT kvs))(eb:H b=some (.tup (k.map kV))):DGet H a (.ref b) (eI kvs k):=.inr ⟨kvs,k,b,.inl e,rfl,eb,rfl⟩
theorem DPut.k {H:Hp}{a:Addr}{kvs:List (bD×V)}{k:bD}{v:V}(e:H a=some (.dK kvs))(hl:kvs.length<UM):DPut H a (kV k) v (aK H a (.dK (rM kvs k v))):=.inl ⟨kvs,k,e,rfl,hl,rfl⟩
theorem DPut.t {H:Hp}{a b:Addr}{kvs:List (List bD×V)}{k:List bD}{v:V}(e:H a=some (.dT kvs))(eb:H b=some (.tup (k.map kV)))(hl:kvs.length<UM) :
  DPut H a (.ref b) v (aK H a (.dT (rM kvs k v))):=.inr ⟨kvs,k,b,e,rfl,eb,hl,rfl⟩
section
variable {X:Cx}{a5f:List (Addr×Wf)}{σ:St}{H:Hp}{s:UE}{a:Addr}{y v:V}{u r:UC}{o:Option V}{A:Vh}{E:UC->UE->Prop}
theorem Inv.big (I:Inv X a5f σ H s):VO<s.heap.objs.size:=by
 have h:We<s.heap.objs.size:=(I.mod.glob.keeps I.bk).lt
 exact XH (by decide) h
theorem rN {h':VL}{t':Nat}{ob:HO}(I:Inv X a5f σ H s)(mu:pB (H a))(hs:WX a s.heap h')(he:∃ q,h'.get? a=some q)(new:ObjOk X.prog X.w (aK H a ob) h' a ob) :
  Inv X a5f σ (aK H a ob) { s with heap:=h',toks:=t' }:=
 I.write (x:=a) (e:=a) mu (.inl rfl) (fun b q hb z=>(hs.2 b hb).trans z) he new
end
section
variable {X:Cx}{a5f:List (Addr×Wf)}{σ:St}{H:Hp}{s:UE}{a:Addr}{kvs:List (bD×V)}{k:bD}{u:UC}{A:Vh}{E:UC->UE->Prop}
end
noncomputable def AI (i:UO):Prop:=∀ ov iv,a1a i false ov iv=operate [ov,iv] (a1p ov iv)
theorem Iu {prog:Va}{w:Vu}{A:Vh}{E:UC->UE->Prop}{s:UE}{env:ZZ}{value slice:UO}{pos:Wl}{T id:String}{Q:UC->UE->Prop}
  (hl:Zq (.type T) "__getitem__" = pure (some (.builtin id))) (hs:AI slice)
  (h:U3 (U8 prog w) A (eval value env) (fun o s₁=>U3 (U8 prog w) A (eval slice env) (fun i s₂=>s₂.TypeIs o T/\U3 (U8 prog w) A (a1p o i) Q E s₂) E s₁) E s) :
  U3 (U8 prog w) A (eval (.Subscript value slice pos) env) Q E s:=by
 refine a1D (VP h (fun o s₁ h₁=>VP h₁ (fun i s₂ h₂=>?_) fun _ _ x=>x) fun _ _ x=>x)
 obtain ⟨hT,h₂⟩:=h₂
 unfold a0c
 refine Uy ?_
 rw [getitemInPython_of_ne hT.not_modules]
 refine Uy (X5 hT hl ?_)
 have fin:U3 (U8 prog w) A (a1a slice false o i) (fun r s₃=>U3 (U8 prog w) A (letTemporaryGo value o r >>= fun _=>pure r) Q E s₃) E s₂:=by
  rw [hs o i]
  exact wpAny_operating (VP h₂ (fun r s₃ h₃=>Uy (wpAny_letTemporaryGo (UG h₃))) fun _ _ x=>x)
 first
  | exact UG (Uy fin)
  | exact Uy (UG (Uy fin))
  | exact Uy fin
section
variable {X:Cx}{o i e value:UO}{pos pos' tpos:Wl}{td ty tv:TE}
end
section
variable {X:Cx}{pos:Wl}
end
noncomputable def AJ:List (TE×TE)->St->Hp->(List (V×V)->Hp->Prop)->Prop
 | [],_,H,Q=>Q [] H
 | (tk,tv)::r,σ,H,Q=>tk σ H fun x H1=>tv σ H1 fun y H2=>AJ r σ H2 fun ps H3=>Q ((x,y)::ps) H3
noncomputable abbrev VV:List (V×V)->List (UC×UC)->Prop:=Yo fun p q=>RelV p.1 q.1/\RelV p.2 q.2
noncomputable def Iv (X:Cx)(pos:Wl)(keys:List (Option UO))(values:List UO)(trs:List (TE×TE)):Prop:=
 ∀ (a5f:List (Addr×Wf))(s:UE)(σ:St)(H:Hp)(Q:List (V×V)->Hp->Prop),Inv X a5f σ H s->AJ trs σ H Q->
  U3 (U8 X.prog X.w) X.A (evalPairs (pairTrees keys values X.env pos)) (fun vs s'=>∃ ps H',Inv X a5f σ H' s'/\VV ps vs/\Q ps H') X.xe s
structure M1 (X:Cx)(o:UO)(m:Str)(apos:Wl)(e:UO)(cpos:Wl):Prop where
 base:Xx o m X.env (eval o X.env)=eval o X.env
 few:((W0 cpos (Vj [e] X.env)).all (fun x=>!x.1)&&(a1C cpos (ZO [] X.env)).all (fun x=>x.1.isSome)
  && decide (([e]:List UO).length+([]:List XT).length+(if ([]:List XT).isEmpty then 0 else 1)<30))=true
 line:(apos.endLine == cpos.line)=true
 trees:W0 cpos (Vj [e] X.env)=[(false,eval e X.env)]
structure M2 (X:Cx)(o:UO)(m:Str)(apos:Wl)(e f:UO)(cpos:Wl):Prop where
 base:Xx o m X.env (eval o X.env)=eval o X.env
 few:((W0 cpos (Vj [e,f] X.env)).all (fun x=>!x.1)&&(a1C cpos (ZO [] X.env)).all (fun x=>x.1.isSome)
  && decide (([e,f]:List UO).length+([]:List XT).length+(if ([]:List XT).isEmpty then 0 else 1)<30))=true
 line:(apos.endLine == cpos.line)=true
 trees:W0 cpos (Vj [e,f] X.env)=[(false,eval e X.env),(false,eval f X.env)]
noncomputable def IsD (H:Hp)(a:Addr):Prop:=(∃ kvs,Rd H a (.dK kvs))\/∃ kvs,Rd H a (.dT kvs)
section
variable {X:Cx}{a5f:List (Addr×Wf)}{σ:St}{H:Hp}{s:UE}{a:Addr}{y d:V}{u r:UC}{o:Option V}{A:Vh}{E:UC->UE->Prop}
end
section
variable {X:Cx}{o e f:UO}{apos cpos:Wl}{td ty tx:TE}
end
section
variable {X:Cx}{a5f:List (Addr×Wf)}{σ:St}{H:Hp}{s:UE}{a:Addr}{kvs:List (bD×V)}{A:Vh}{E:UC->UE->Prop}
end
section
variable {X:Cx}{a5f:List (Addr×Wf)}{σ:St}{H:Hp}{s:UE}{a:Addr}{y:V}{u:UC}{A:Vh}{E:UC->UE->Prop}
end
end L2
namespace HT
open PySem PyProof.Rows
noncomputable def lexLt:List Int->List Int->Bool
 | [],[]=>false
 | [],_::_=>true
 | _::_,[]=>false
 | x::xs,y::ys=>if x=y then lexLt xs ys else decide (x<y)
theorem lexLt_cons (x y:Int)(xs ys:List Int):lexLt (x::xs) (y::ys)=if x=y then lexLt xs ys else decide (x<y):=rfl
theorem Iw:lexLt [] []=false:=rfl
theorem Iy (y:Int)(ys:List Int):lexLt [] (y::ys)=true:=rfl
theorem Iz (x:Int)(xs:List Int):lexLt (x::xs) []=false:=rfl
theorem IA (A:Vh)(s:UE)(a:Int)(t:a5a)(c:Int)(u:a5a):∃ e,Y6 A s (.int a t) (.int c u) e/\(e=true↔a=c):=
 ⟨(a == c),a1d a t c u,by simp⟩
theorem IB (A:Vh)(s:UE)(a:Int)(t:a5a)(c:Int)(u:a5a)(prog:Va)(w:Vu)(E:UC->UE->Prop)(Q:UC->UE->Prop)(h:Q (.bool (decide (a<c))) s) :
  U3 (U8 prog w) A (richCompare .Lt (.int a t) (.int c u)) Q E s:=
 (a0D h:U3 (U8 prog w) A (VD .Lt (.int a t) (.int c u)) Q E s)
section
open PySem.SeqAt
open PySem.AutoSeq1 (wpAny_loadPart')
open PySem.MeetsSeq PySem.MeetsSeq2 PySem.MeetsSeq3
theorem IC (l b:Addr)(items items2:Array UC)(n n2:Nat)(dd dd2:Option Addr)(sl sl2:Array (Option UC))(ns ms:List Int)(hi:Xe items.toList ns)(hj:Xe items2.toList ms) :
  Meets (Builtin.«tuple.__lt__» ⟨[.ref l,.ref b],[]⟩)
   (fun _ R s=>s.heap.get? l=some { cls:=.type "tuple",dict:=dd,data:=.seq items n,slots:=sl }/\s.heap.get? b=some { cls:=.type "tuple",dict:=dd2,data:=.seq items2 n2,slots:=sl2 } /\
    R (.ok (.ret (.bool (lexLt ns ms)))) s):=
 .of_wp fun prog w A R s h=>by
  obtain ⟨hp,g,d,tk,os⟩:=s;obtain ⟨hl,hb,h⟩:=h
  have f2:=AutoSeq1.sub_tuple_tuple
  have z1:items.size=ns.length:=by rw [<- hi.length];simp
  have z2:items2.size=ms.length:=by rw [<- hj.length];simp
  wp_walk using Zw hl,Zw hb,a0R _ (fun bO b s'=>b.1=none/\s'=⟨hp,g,d,tk,os⟩/\∃ (vs ws:List UC)(ns' ms':List Int),bO=vs.zip ws /\
   Xe vs ns'/\Xe ws ms'/\ns'.length+items2.size=ms'.length+items.size/\R (.ok (.ret (.bool (lexLt ns' ms')))) ⟨hp,g,d,tk,os⟩) _
  case turn=>
   rintro ⟨y,x⟩ bO b s' ⟨hb',rfl,vs,ws,ns',ms',hz,hvi,hwi,hlen,hR⟩
   cases hvi with
   | nil=>rw [List.zip_nil_left] at hz;cases hz
   | cons a t hvi'=>
    cases hwi with
    | nil=>rw [ZM] at hz;cases hz
    | cons c u hwi'=>
     rw [XU] at hz
     injection hz with hyx hrest
     injection hyx with hy hx
     subst hy hx
     rw [lexLt_cons] at hR
     simp only [Vm] at hlen
     obtain ⟨e,he,hiff⟩:=IA A.in1 ⟨hp,g,d,tk,os⟩ a t c u
     refine Uy (he prog w _ _ ?_)
     cases e with
     | true=>
      rw [if_pos (hiff.mp rfl)] at hR
      wp_walk
      exact ⟨rfl,rfl,_,_,_,_,hrest,hvi',hwi',by omega,hR⟩
     | false=>
      rw [if_neg (fun q=>absurd (hiff.mpr q) Vn)] at hR
      have hri:=IB A.in1 ⟨hp,g,d,tk,os⟩ a t c u prog w
      wp_walk using hri
      exact ⟨_,rfl,by simpa using hR⟩
  case fin=>
   rintro ⟨b1,b2⟩ s' ⟨hb',rfl,vs,ws,ns',ms',hz,hvi,hwi,hlen,hR⟩
   simp only at hb'
   subst hb'
   have hv:lexLt ns' ms'=decide (items.size<items2.size):=by
    cases hvi with
    | nil=>
     cases hwi with
     | nil=>
      simp only [Yu] at hlen
      rw [Iw]
      exact (decide_eq_false (by omega)).symm
     | cons c u hw=>
      simp only [Yu,Vm] at hlen
      rw [Iy]
      exact (decide_eq_true (by omega)).symm
    | cons a t hv=>
     cases hwi with
     | nil=>
      simp only [Yu,Vm] at hlen
      rw [Iz]
      exact (decide_eq_false (by omega)).symm
     | cons c u hw=>
      rw [XU] at hz
      cases hz
   rw [hv] at hR
   wp_walk
   exact ⟨_,rfl,by simpa [a4l] using hR⟩
  case h=>
   exact ⟨rfl,rfl,items.toList,items2.toList,ns,ms,rfl,hi,hj,by omega,h⟩
end
section
variable {prog:Va}{w:Vu}{A:Vh}{E:UC->UE->Prop}{s:UE}
theorem lt_tupInts {l b:Addr}{items items2:Array UC}{ns ms:List Int}{Q:UC->UE->Prop}(hl:Xy s.heap l items)(hb:Xy s.heap b items2)(hi:Xe items.toList ns)(hj:Xe items2.toList ms)
  (hu:A.units<V3)(h:Q (.bool (lexLt ns ms)) s):U3 (U8 prog w) A (VD .Lt (.ref l) (.ref b)) Q E s:=by
 obtain ⟨⟨cls,dd,data,sl⟩,ho,hc,n,hd⟩:=id hl
 obtain ⟨⟨cls2,dd2,data2,sl2⟩,ho2,hc2,n2,hd2⟩:=id hb
 simp only at hc hd hc2 hd2
 subst hc hd hc2 hd2
 exact richCompare_meets_room (op:=.Lt) ⟨_,ho,rfl⟩ ⟨_,ho2,rfl⟩ PySem.F.slot_tuple_lt PySem.F.entry_tuple_lt (PySem.F.args_tuple_lt_2 _ _) (IC l b items items2 n n2 dd dd2 sl sl2 ns ms hi hj)
  ⟨ho,ho2,show Yd (lexLt ns ms)≠Value.notImplemented/\Q (.bool (lexLt ns ms)) s from ⟨(fun x=>nomatch x),h⟩⟩ hu
noncomputable def sIx (n d:Nat):Option Int->Nat
 | none=>d
 | some v=>if v<0 then (v+(n:Int)).toNat else min v.toNat n
theorem sIx_none (n d:Nat):sIx n d none=d:=rfl
theorem sIx_nat (n d k:Nat):sIx n d (some (k:Int))=min k n:=by
 show (if (k:Int)<0 then ((k:Int)+(n:Int)).toNat else min (k:Int).toNat n)=min k n
 rw [if_neg (by omega),Xq]
end
end HT
namespace L2
open PySem PySem.Spec PyProof.Rows
noncomputable abbrev TO:=St->Hp->(Option Int->Hp->Prop)->Prop
noncomputable def PO (X:Cx)(e:Option UO)(t:TO):Prop:=
 ∀ (a5f:List (Addr×Wf))(s:UE)(σ:St)(H:Hp)(Q:Option Int->Hp->Prop),Inv X a5f σ H s->t σ H Q->
  U3 (U8 X.prog X.w) X.A (evalPart e X.env) (fun u s'=>∃ o H',Inv X a5f σ H' s'/\IsPart u o/\Q o H') X.xe s
noncomputable def ID:TO:=fun _ H Q=>Q none H
noncomputable def IE (t:TE):TO:=fun σ H Q=>t σ H fun x H1=>∃ i,x=.int i/\Q (some i) H1
theorem u5 {ns:List Int}:∀ {us:List UC},Vals (ns.map V.int) us->Xe us ns:=by
 induction ns with
 | nil=>intro us r;rw [XD] at r;cases r;exact .nil
 | cons n ns ih=>
  intro us r
  rw [UQ] at r
  cases r with
  | cons r1 r2=>
   obtain ⟨t,e⟩:=r1
   subst e
   exact .cons n t (ih r2)
section
variable {X:Cx}{e:UO}{te:TE}{lo hi:Option UO}{tl th:TO}{pos p2:Wl}
theorem IF:PO X none ID:=by
 intro a5f s σ H Q I h
 rw [evalPart_none]
 exact UG ⟨none,H,I,.none,h⟩
theorem IG (h:PE X e te):PO X (some e) (IE te):=by
 intro a5f s σ H Q I hw
 rw [evalPart_some]
 refine aU (h a5f s σ H _ I hw) fun u s1 ⟨x,H1,I1,r1,q1⟩=>?_
 obtain ⟨i,rfl,q⟩:=q1
 obtain ⟨t,rfl⟩:=r1
 exact ⟨some i,H1,I1,.int i t,q⟩
noncomputable def SlR (X:Cx)(r:V->Option Int->Option Int->Hp->VK->Prop):Prop:=
 ∀ (a5f:List (Addr×Wf))(s:UE)(σ:St)(H:Hp)(x:V)(v vl vu:UC)(lo hi:Option Int)(sl:Addr)(Q:VK),Inv X a5f σ H s->RelV x v->s.heap.IsSliceOf sl vl vu .none->IsPart vl lo->IsPart vu hi->r x lo hi H Q->
  ∃ T id,Zq (.type T) "__getitem__" = pure (some (.builtin id))/\s.TypeIs v T/\U3 (U8 X.prog X.w) X.A (a1p v (.ref sl)) (EP X a5f σ Q) X.xe s
theorem SlR.or {r r':V->Option Int->Option Int->Hp->VK->Prop}(h:SlR X r)(h':SlR X r'):SlR X (fun x lo hi H Q=>r x lo hi H Q\/r' x lo hi H Q):=by
 intro a5f s σ H x v vl vu lo hi sl Q I rx hs pl pu q
 rcases q with q|q
 ·exact h a5f s σ H x v vl vu lo hi sl Q I rx hs pl pu q
 ·exact h' a5f s σ H x v vl vu lo hi sl Q I rx hs pl pu q
noncomputable def IH (r:V->Option Int->Option Int->Hp->VK->Prop)(te:TE)(tl th:TO):TE:=fun σ H Q=>te σ H fun x H1=>tl σ H1 fun l H2=>th σ H2 fun u H3=>r x l u H3 Q
theorem II {r:V->Option Int->Option Int->Hp->VK->Prop}(hr:SlR X r)(he:PE X e te)(hl:PO X lo tl)(hu:PO X hi th):PE X (.Subscript e (.Slice lo hi none p2) pos) (IH r te tl th):=by
 intro a5f s σ H Q I h
 refine a1D (aU (he a5f s σ H _ I h) fun v s1 ⟨x,H1,I1,r1,q1⟩=>?_)
 refine wpAny_Slice (aU (hl a5f s1 σ H1 _ I1 q1) fun vl s2 ⟨l,H2,I2,pl,q2⟩=>aU (hu a5f s2 σ H2 _ I2 q2) fun vu s3 ⟨u,H3,I3,pu,q3⟩=>?_)
 rw [evalPart_none]
 refine UG ?_
 have I4:Inv X a5f σ H3 { s3 with heap:=s3.heap.push { cls:=.type "slice",data:=.fields #[vl,vu,.none] } }:=I3.kept (t':=s3.toks) fun b ob q=>UD _ q
 obtain ⟨T,id,hT,ht,hg⟩:=hr a5f { s3 with heap:=s3.heap.push { cls:=.type "slice",data:=.fields #[vl,vu,.none] } } σ H3 x v vl vu l u s3.heap.objs.size Q I4 r1 (a0v ..) pl pu q3
 show U3 (U8 X.prog X.w) X.A (a0c e (.Slice lo hi none p2) v (.ref s3.heap.objs.size)) (EP X a5f σ Q) X.xe { s3 with heap:=s3.heap.push { cls:=.type "slice",data:=.fields #[vl,vu,.none] } }
 exact a4T (ops:=[.ref s3.heap.objs.size,v]) ht hT hg (by with_unfolding_all rfl)
noncomputable def kL (xs:List V)(lo hi:Option Int):List V:=(xs.drop (HT.sIx xs.length 0 lo)).take (HT.sIx xs.length xs.length hi - HT.sIx xs.length 0 lo)
theorem IJ (xs:List V)(lo hi:Option Int):(kL xs lo hi).length<=xs.length:=by
 unfold kL
 rw [W5,XE]
 omega
end
end L2
namespace L2
open PySem PySem.Spec PyProof.Rows
noncomputable def jT (n:Nat)(i:Int):Option Nat:=if 0<=i then (if i<n then some i.toNat else none) else if -(n:Int)<=i then some (i+n).toNat else none
noncomputable def atI {α:Type}(xs:List α)(i:Int):Option α:=(jT xs.length i).bind fun j=>xs[j]?
theorem AK {n:Nat}{i:Int}{j:Nat}(h:jT n i=some j):seqIndex? i n=some j/\j<n/\-(n:Int)<=i/\i<n:=by
 unfold jT at h
 by_cases h0:0<=i
 ·rw [if_pos h0] at h
  by_cases h1:i<n
  ·rw [if_pos h1] at h
   have e:i.toNat=j:=U9 h
   exact ⟨by rw [a2V h0 h1,e],by omega,by omega,h1⟩
  ·rw [if_neg h1] at h;cases h
 ·rw [if_neg h0] at h
  by_cases h1:-(n:Int)<=i
  ·rw [if_pos h1] at h
   have e:(i+n).toNat=j:=U9 h
   exact ⟨by rw [a2l (by omega) h1,e],by omega,h1,by omega⟩
  ·rw [if_neg h1] at h;cases h
theorem u6 {α:Type}{xs:List α}{i:Int}{v:α}(h:atI xs i=some v):∃ j,seqIndex? i xs.length=some j/\xs[j]? = some v/\j<xs.length/\-(xs.length:Int)<=i/\i<xs.length:=by
 unfold atI at h
 cases e:jT xs.length i with
 | none=>rw [e] at h;cases h
 | some j=>
  rw [e] at h
  obtain ⟨h1,h2,h3,h4⟩:=AK e
  exact ⟨j,h1,h,h2,h3,h4⟩
noncomputable def u7 (b:UO):Prop:=∀ o i,a1a b false o i=operate [o,i] (a1p o i)
noncomputable def IxR (X:Cx)(r:R2):Prop:=
 ∀ (value slice:UO)(a5f:List (Addr×Wf))(s:UE)(σ:St)(H:Hp)(x y:V)(v u:UC)(Q:VK),Inv X a5f σ H s->RelV x v->RelV y u->r x y H Q->
  a1a slice false v u=operate [v,u] (a1p v u)->U3 (U8 X.prog X.w) X.A (a0c value slice v u) (EP X a5f σ Q) X.xe s
noncomputable def MtR (X:Cx)(id:String)(r:V->List V->Hp->VK->Prop):Prop:=
 ∀ (a5f:List (Addr×Wf))(s:UE)(σ:St)(H:Hp)(x:V)(xs:List V)(v:UC)(us:List UC)(Q:VK),Inv X a5f σ H s->RelV x v->Vals xs us->r x xs H Q->
  U3 (U8 X.prog X.w) X.A (call (.builtin id) (v::us)) (EP X a5f σ Q) X.xe s
section
variable {X:Cx}{a b:UO}{ta tb:TE}{pos:Wl}
theorem IxR.or {r r':R2}(h:IxR X r)(h':IxR X r'):IxR X (fun x y H Q=>r x y H Q\/r' x y H Q):=by
 intro value slice a5f s σ H x y v u Q I rx ry q hs
 rcases q with q|q
 ·exact h value slice a5f s σ H x y v u Q I rx ry q hs
 ·exact h' value slice a5f s σ H x y v u Q I rx ry q hs
theorem MtR.or {id:String}{r r':V->List V->Hp->VK->Prop}(h:MtR X id r)(h':MtR X id r'):MtR X id (fun x xs H Q=>r x xs H Q\/r' x xs H Q):=by
 intro a5f s σ H x xs v us Q I rx rs q
 rcases q with q|q
 ·exact h a5f s σ H x xs v us Q I rx rs q
 ·exact h' a5f s σ H x xs v us Q I rx rs q
theorem IK {r:R2}(hr:IxR X r)(ha:PE X a ta)(hb:PE X b tb)(hs:u7 b):PE X (.Subscript a b pos) (pG r ta tb):=by
 intro a5f s σ H Q I h
 exact a1D (uU ha hb I h fun v u s2 x y H2 I2 rx ry q=>hr a b a5f s2 σ H2 x y v u Q I2 rx ry q (hs _ _))
noncomputable def AL (K:Ux):R2:=fun x y H Q=>∃ p xs i v,x=.ref p/\y=.int i/\SqL K H p xs/\atI xs i=some v/\Q v H
noncomputable def AM (K:Ux):R2:=fun x y H Q=>∃ p xs i v,x=.ref p/\y=.int i/\SqT K H p xs/\atI xs i=some v/\Q v H
noncomputable def AN:R2:=fun x y H Q=>∃ z i c,x=.str z/\y=.int i/\z.length<=UM/\atI z.cps.toList i=some c/\Q (.str ⟨#[c]⟩) H
theorem ix_list:IxR X (AL X.K):=by
 intro value slice a5f s σ H x y v u Q I rx ry h hs
 obtain ⟨p,xs,i,z,rfl,rfl,hq,he,q⟩:=h
 cases rx
 obtain ⟨t,rfl⟩:=ry
 obtain ⟨its,r,pl,hz⟩:=I.list hq
 obtain ⟨j,h1,h2,h3,h4,h5⟩:=u6 he
 obtain ⟨w,ew,rw'⟩:=r.get h2
 have hl:=r.length
 have hn:=kK
 have fin:EP X a5f σ Q w s:=⟨z,H,I,rw',q⟩
 by_cases h0:0<=i
 ·have hj:i.toNat=j:=by
   rw [a2V h0 h5] at h1
   exact U9 h1
  exact item_listR pl.isList h0 (by omega) (by rw [hj];simpa using ew) fin hs
 ·have hj:(i+(its.toArray.size:Int)).toNat=j:=by
   rw [a2l (by omega) h4] at h1
   rw [US,<- hl]
   exact U9 h1
  exact a2k (x:=w) pl.isList.typeIs a0x.lookup
   (wpAny_getItem_list_neg (Q:=fun r s'=>r=w/\EP X a5f σ Q r s') pl.isList (by omega) (by rw [US]<;>omega) (by omega) (by rw [hj];simpa using ew) ⟨rfl,fin⟩) hs
theorem ix_tup:IxR X (AM X.K):=by
 intro value slice a5f s σ H x y v u Q I rx ry h hs
 obtain ⟨p,xs,i,z,rfl,rfl,hq,he,q⟩:=h
 cases rx
 obtain ⟨t,rfl⟩:=ry
 obtain ⟨its,r,pl,hz⟩:=I.tuple hq
 obtain ⟨j,h1,h2,h3,h4,h5⟩:=u6 he
 obtain ⟨w,ew,rw'⟩:=r.get h2
 have hl:=r.length
 have hn:=kK
 have fin:EP X a5f σ Q w s:=⟨z,H,I,rw',q⟩
 exact a2k (x:=w) pl.typeIs slot_tuple_getitem.lookup
  (getItem_tuple (j:=j) (Q:=fun r s'=>r=w/\EP X a5f σ Q r s') pl (by omega) (by omega) (by rw [US,<- hl];exact h1) (by simpa using ew) ⟨rfl,fin⟩) hs
theorem IL:IxR X AN:=by
 intro value slice a5f s σ H x y v u Q I rx ry h hs
 obtain ⟨z,i,c,rfl,rfl,hz,he,q⟩:=h
 obtain ⟨t,rfl⟩:=rx
 obtain ⟨t',rfl⟩:=ry
 obtain ⟨j,h1,h2,h3,h4,h5⟩:=u6 he
 have hl:z.cps.toList.length=z.length:=by simp [Str.length]
 rw [hl] at h1 h4 h5
 have hn:=kK
 exact a4T (typeIs_str s z t) slot_str_getitem.lookup (getItem_str (c:=c) (by
  have e1:decide (i < -(2 ^ 63:Int))=false:=decide_eq_false (by omega)
  have e2:decide (i >= 2 ^ 63)=false:=decide_eq_false (by omega)
  rw [e1,e2,ZK]) (by rw [h1];simpa using h2) ⟨.str ⟨#[c]⟩,H,I.tok _,⟨_,rfl⟩,q⟩) hs
noncomputable def AO (K:Ux):R2:=fun x y H Q=>AL K x y H Q\/AM K x y H Q\/AN x y H Q
theorem IM:IxR X (AO X.K):=ix_list.or (ix_tup.or IL)
theorem IP (its:List UC)(n j:Nat)(u:UC):VW (·.setIfInBounds j u) { cls:=.type "list",data:=.seq its.toArray n } = { cls:=.type "list",data:=.seq (its.set j u).toArray n }:=by
 simp [VW]
theorem Inv.lst {a5f:List (Addr×Wf)}{σ:St}{H:Hp}{s:UE}{p:Addr}{xs:List V}(I:Inv X a5f σ H s)(h:H p=some (.lst xs)) :
  ∃ (its:List UC)(n:Nat),Vals xs its/\s.heap.get? p=some { cls:=.type "list",data:=.seq its.toArray n }/\xs.length<=UM:=by
 obtain ⟨z,its,n,r,e⟩:=I.hok p _ h
 exact ⟨its,n,r,e,z⟩
theorem Inv.lstUpd {a5f:List (Addr×Wf)}{σ:St}{H:Hp}{s:UE}{p:Addr}{xs ys:List V}{its its':List UC}{n n':Nat}{f:Wf->Wf}(I:Inv X a5f σ H s)(h:H p=some (.lst xs))
  (ho:s.heap.get? p=some { cls:=.type "list",data:=.seq its.toArray n }) (hf:f { cls:=.type "list",data:=.seq its.toArray n } = { cls:=.type "list",data:=.seq its'.toArray n' }) (r:Vals ys its')(hz:ys.length<=UM)(t:Nat) :
  Inv X a5f σ (aK H p (.lst ys)) { s with heap:=s.heap.update p f,toks:=t }:=by
 have e:(s.heap.update p f).get? p=some { cls:=.type "list",data:=.seq its'.toArray n' }:=by
  rw [V2 f ho (by rw [hf]<;>rfl),hf]
 refine I.write (x:=p) (e:=p) (by rw [h];trivial) (.inl rfl) (fun b u hb q=>(V7 _ _ (VH hb)).trans q) ⟨_,e⟩ ?_
 exact ⟨hz,its',n',r,e⟩
noncomputable def AQ:V->V->V->Hp->(Hp->Prop)->Prop:=fun o i v H Q=>∃ p xs k j,o=.ref p/\i=.int k/\H p=some (.lst xs)/\jT xs.length k=some j/\Q (aK H p (.lst (xs.set j v)))
theorem IQ:Hr X AQ:=by
 intro a5f s σ H o i v ov iv u Q I ro ri rv h
 obtain ⟨p,xs,k,j,rfl,rfl,hp,hj,q⟩:=h
 cases ro
 obtain ⟨t,rfl⟩:=ri
 obtain ⟨its,n,r,ho,hz⟩:=I.lst hp
 obtain ⟨h1,h2,h3,h4⟩:=AK hj
 have hl:=r.length
 have hn:=kK
 have I':Inv X a5f σ (aK H p (.lst (xs.set j v))) { s with heap:=s.heap.update p (VW (·.setIfInBounds j u)) }:=
  I.lstUpd hp ho (IP its n j u) (r.set rv j) (by rw [Wg];exact hz) s.toks
 by_cases h0:0<=k
 ·have hk:k.toNat=j:=by
   rw [a2V h0 h4] at h1
   exact U9 h1
  exact PySem.W.ki_setAt ho h0 (by omega) (by rw [US,<- hl];exact h4) (by rw [hk];exact ⟨_,I',q⟩)
 ·have hk:(k+(its.toArray.size:Int)).toNat=j:=by
   rw [a2l (by omega) h3] at h1
   rw [US,<- hl]
   exact U9 h1
  exact PySem.W.ki_setBack ho (by omega) (by rw [US,<- hl];exact h3) (by omega) (by rw [hk];exact ⟨_,I',q⟩)
theorem IS (lo hi:Option Int)(n:Nat):(Xk lo hi none n).1=((HT.sIx n 0 lo:Nat):Int)/\(Xk lo hi none n).2.1=((HT.sIx n n hi:Nat):Int)/\(Xk lo hi none n).2.2=1:=by
 refine ⟨?_,?_,rfl⟩
 ·cases lo with
  | none=>simp [Xk,HT.sIx]
  | some i=>
   simp only [Xk,HT.sIx,ZU,show (1:Int)>0 by decide,if_true]
   by_cases h:i<0
   ·simp only [h,if_true]<;>omega
   ·simp only [h,if_false]<;>omega
 ·cases hi with
  | none=>simp [Xk,HT.sIx]
  | some i=>
   simp only [Xk,HT.sIx,ZU,show (1:Int)>0 by decide,if_true]
   by_cases h:i<0
   ·simp only [h,if_true]<;>omega
   ·simp only [h,if_false]<;>omega
theorem IT (its:List UC)(lo hi:Option Int):a2a its.toArray lo hi none=((its.drop (HT.sIx its.length 0 lo)).take (HT.sIx its.length its.length hi - HT.sIx its.length 0 lo)).toArray:=by
 obtain ⟨h1,h2,h3⟩:=IS lo hi its.toArray.size
 unfold a2a
 rw [h1,h2,h3]
 simp only [sliceRange_one,pick_run,US]<;>rfl
noncomputable def u9 (K:Ux):V->Option Int->Option Int->Hp->VK->Prop:=fun x lo hi H Q=>∃ a xs,x=.ref a/\SqL K H a xs/\∀ p,H p=none->Q (.ref p) (aK H p (.lst (kL xs lo hi)))
theorem IU:SlR X (u9 X.K):=by
 intro a5f s σ H x v vl vu lo hi sl Q I rx hs pl pu h
 obtain ⟨a,xs,rfl,hx,q⟩:=h
 cases rx
 obtain ⟨its,r,ht,hz⟩:=I.list hx
 have hlen:=r.length
 refine ⟨"list",_,a0x.lookup,ht.isList.typeIs,?_⟩
 refine a1T ht.isList hs pl pu .none (by simp) ?_ (by rw [US]<;>omega)
 rw [IT,<- hlen]
 refine ⟨.ref s.heap.objs.size,_,I.laid (t':=s.toks) (o:=.lst (kL xs lo hi)) (fun b ob q=>UD _ q) (UJ _) ?_,rfl,q _ (I.hok.fresh (UJ _))⟩
 exact ⟨VG (IJ xs lo hi) hz,_,0,(r.drop (HT.sIx xs.length 0 lo)).take (HT.sIx xs.length xs.length hi - HT.sIx xs.length 0 lo),UT _ rfl⟩
theorem AR:OpR X (VD .NotIn) (fun x y H Q=>∃ i j,x=.str i/\y=.str j/\Q (.bl (!(!(V1 j i 0 j.length 1).isEmpty))) H):=by
 intro a5f s σ H x y v u Q I rx ry h
 obtain ⟨i,j,rfl,rfl,q⟩:=h
 obtain ⟨t,rfl⟩:=rx
 obtain ⟨t',rfl⟩:=ry
 exact notIn_str ⟨.bl _,H,I,rfl,q⟩
theorem call_len_seq:CallR X (.builtin "len") (fun xs H Q=>∃ p ys,xs=[.ref p]/\(SqL X.K H p ys\/SqT X.K H p ys)/\Q (.int ys.length) H):=by
 intro a5f s σ H xs us Q I r h
 obtain ⟨p,ys,rfl,hq,q⟩:=h
 obtain ⟨u,rfl,rx⟩:=eB r
 cases rx
 have hn:=kK
 rcases hq with hq|hq
 ·obtain ⟨its,r',pl,hz⟩:=I.list hq
  have hlen:=r'.length
  exact Calls.call_len_list pl.isList (by simp only [US]<;>omega) ⟨.int ys.length,H,I.tok _,⟨s.toks+1,by rw [US,hlen]⟩,q⟩
 ·obtain ⟨its,r',pl,hz⟩:=I.tuple hq
  have hlen:=r'.length
  exact len_tuple pl (by simp only [US]<;>omega) ⟨.int ys.length,H,I.tok _,⟨s.toks+1,by rw [US,hlen]⟩,q⟩
theorem IV:CallR X (.builtin "len") (fun xs H Q=>∃ z,xs=[.str z]/\z.length<=UM/\Q (.int z.length) H):=by
 intro a5f s σ H xs us Q I r h
 obtain ⟨z,rfl,hz,q⟩:=h
 obtain ⟨u,rfl,t,rfl⟩:=eB r
 have hn:=kK
 exact len_str (by omega) ⟨.int z.length,H,I.tok _,⟨_,rfl⟩,q⟩
theorem CallR.or {f:UC}{r r':List V->Hp->VK->Prop}(h:CallR X f r)(h':CallR X f r'):CallR X f (fun xs H Q=>r xs H Q\/r' xs H Q):=by
 intro a5f s σ H xs us Q I rs q
 rcases q with q|q
 ·exact h a5f s σ H xs us Q I rs q
 ·exact h' a5f s σ H xs us Q I rs q
theorem call_list_of:CallR X (.type "list") (fun xs H Q=>∃ p ys,xs=[.ref p]/\(SqL X.K H p ys\/SqT X.K H p ys)/\∀ l,H l=none->Q (.ref l) (aK H l (.lst ys))):=by
 intro a5f s σ H xs us Q I r h
 obtain ⟨p,ys,rfl,hq,q⟩:=h
 obtain ⟨u,rfl,rx⟩:=eB r
 cases rx
 have fin:∀ (its:List UC),Vals ys its->ys.length<=UM->∀ (h':VL)(c':Nat),(∀ b o',s.heap.get? b=some o'->h'.get? b=some o')->
   h'.get? s.heap.objs.size=some { cls:=.type "list",dict:=none,data:=.seq its.toArray c',slots:=#[] }->EP X a5f σ Q (.ref s.heap.objs.size) { s with heap:=h' }:=fun its r' hz h' c' kp e=>
  ⟨.ref s.heap.objs.size,_,I.laid (t':=s.toks) kp (UJ _) (show ObjOk X.prog X.w _ h' _ (.lst ys) from ⟨hz,its,c',r',e⟩),rfl,q _ (I.hok.fresh (UJ _))⟩
 rcases hq with hq|hq
 ·obtain ⟨its,r',pl,hz⟩:=I.list hq
  have hlen:=r'.length
  obtain ⟨o,ho,hc,n,hd⟩:=pl.isList
  exact call_list_seq p (.inl rfl) ho hc hd (fun h' c' kp e=>fin its r' hz h' c' kp e) (by simp only [US]<;>omega)
 ·obtain ⟨its,r',pl,hz⟩:=I.tuple hq
  have hlen:=r'.length
  obtain ⟨o,ho,hc,n,hd⟩:=pl
  exact call_list_seq p (.inr rfl) ho hc hd (fun h' c' kp e=>fin its r' hz h' c' kp e) (by simp only [US]<;>omega)
theorem IW:CallR X (.type "tuple") (fun xs H Q=>∃ p ys,xs=[.ref p]/\((SqL X.K H p ys/\∀ l,H l=none->Q (.ref l) (aK H l (.tup ys)))\/(SqT X.K H p ys/\Q (.ref p) H))):=by
 intro a5f s σ H xs us Q I r h
 obtain ⟨p,ys,rfl,h⟩:=h
 obtain ⟨u,rfl,rx⟩:=eB r
 cases rx
 rcases h with ⟨hq,q⟩|⟨hq,q⟩
 ·obtain ⟨its,r',pl,hz⟩:=I.list hq
  have hlen:=r'.length
  refine call_tuple_list pl.isList (fun h' kp=>?_) (by simp only [US]<;>omega)
  have I1:Inv X a5f σ H { s with heap:=h' }:=I.kept (t':=s.toks) kp
  have I2:Inv X a5f σ (aK H h'.objs.size (.tup ys)) { s with heap:=h'.push { cls:=.type "tuple",data:=.seq its.toArray } }:=
   I1.laid (t':=s.toks) (fun b o e=>UD _ e) (UJ _) (show ObjOk X.prog X.w _ _ _ (.tup ys) from ⟨hz,its,r',TupN.new _ _⟩)
  exact ⟨.ref h'.objs.size,_,I2,rfl,q _ (I1.hok.fresh (UJ _))⟩
 ·obtain ⟨its,r',pl,hz⟩:=I.tuple hq
  exact call_tuple_same pl ⟨.ref p,H,I,rfl,q⟩
noncomputable def rO (K:Ux)(T:String)(x:V)(H:Hp):Prop:=match x with
 | .str _=>T = "str"
 | .int _=>T = "int"
 | .ref p=>(T = "list"/\∃ xs,SqL K H p xs)\/(T = "tuple"/\∃ o,K.lookup p=some o/\o.cls=.type "tuple"/\o.dict=none) \/
   (T = "dict"/\((∃ kvs,H p=some (.dK kvs))\/∃ kvs,H p=some (.dT kvs)))\/(T = "set"/\∃ S n,H p=some (.set S n))
 | _=>False
theorem AS {a5f:List (Addr×Wf)}{σ:St}{H:Hp}{s:UE}{T:String}{x:V}{v:UC}(I:Inv X a5f σ H s)(r:RelV x v)(ty:rO X.K T x H) :
  s.TypeIs v T/\∀ a,v=.ref a->∃ ob,s.heap.get? a=some ob/\ob.dict=none:=by
 cases x with
 | str z=>
  obtain ⟨t,rfl⟩:=r
  cases (show T = "str" from ty)
  exact ⟨typeIs_str s z t,fun _ e=>nomatch e⟩
 | int i=>
  obtain ⟨t,rfl⟩:=r
  cases (show T = "int" from ty)
  exact ⟨a3r s i t,fun _ e=>nomatch e⟩
 | ref p=>
  cases r
  rcases ty with ⟨rfl,xs,hq⟩|⟨rfl,o,hk,hc,hd⟩|⟨rfl,hk⟩|⟨rfl,S,n,hk⟩
  ·obtain ⟨its,_,pl,_⟩:=I.list hq
   refine ⟨pl.isList.typeIs,fun a e=>?_⟩
   cases e
   obtain ⟨o,n,e,c,hd,_⟩:=pl
   exact ⟨o,e,hd⟩
  ·refine ⟨⟨o,I.kIn p o hk,hc⟩,fun a e=>?_⟩
   cases e
   exact ⟨o,I.kIn _ o hk,hd⟩
  ·have z:∃ o,s.heap.get? p=some o/\o.ExactDict:=by
    rcases hk with ⟨kvs,hk⟩|⟨kvs,hk⟩
    ·obtain ⟨_,_,_,_,o,_,_,e,ex,_⟩:=I.hok p _ hk
     exact ⟨o,e,ex⟩
    ·obtain ⟨_,_,_,_,o,_,_,e,ex,_⟩:=I.hok p _ hk
     exact ⟨o,e,ex⟩
   obtain ⟨o,e,ex⟩:=z
   refine ⟨⟨o,e,ex.1⟩,fun a e2=>?_⟩
   cases e2
   exact ⟨o,e,ex.2.1⟩
  ·obtain ⟨o,_,_,_,e,ex,_⟩:=I.hok p _ hk
   refine ⟨⟨o,e,ex.1⟩,fun a e2=>?_⟩
   cases e2
   exact ⟨o,e,ex.2.1⟩
 | _=>exact Wz ty
noncomputable def AU (K:Ux)(T:String)(r:V->List V->Hp->VK->Prop)(to:TE):TE:=fun σ H Q=>to σ H fun x H1=>rO K T x H1/\r x [] H1 Q
noncomputable def AV (K:Ux)(T:String)(r:V->List V->Hp->VK->Prop)(to:TE)(t:TA):TE:=fun σ H Q=>to σ H fun x H1=>rO K T x H1/\t σ H1 fun xs H2=>r x xs H2 Q
variable {o e:UO}{es:List UO}{to:TE}{t:TA}{name:Str}{apos cpos:Wl}{T id:String}{r:V->List V->Hp->VK->Prop}
theorem IX (pa:PlainAttrs T)(slot:a4a T name id)(hty:a0S (.builtin id)=pure (.type "method_descriptor")) (hm:MtR X id r)(ho:PE X o to)
  (hbase:Xx o name X.env (eval o X.env)=eval o X.env:=by rfl)(hline:(apos.endLine == cpos.line)=true:=by rfl):PE X (.Call (.Attribute o name apos) [] [] cpos) (AU X.K T r to):=by
 intro a5f s σ H Q I h
 refine Zh hbase hline (aU (ho a5f s σ H _ I h) fun v s1 ⟨x,H1,I1,r1,ty,q1⟩=>?_)
 obtain ⟨h1,h2⟩:=AS I1 r1 ty
 exact ⟨T,id,pa,slot,hty,h1,h2,Xb rfl (Zt (hm a5f s1 σ H1 x [] v [] Q I1 r1 .nil q1))⟩
theorem IY (pa:PlainAttrs T)(slot:a4a T name id)(hty:a0S (.builtin id)=pure (.type "method_descriptor")) (hm:MtR X id r)(ho:PE X o to)(ha:PA X (e::es) t)
  (hbase:Xx o name X.env (eval o X.env)=eval o X.env:=by rfl)
  (hfew:((W0 cpos (Vj (e::es) X.env)).all (fun x=>!x.1)&&(a1C cpos (ZO [] X.env)).all (fun x=>x.1.isSome)
   && decide ((e::es).length+([]:List XT).length+(if ([]:List XT).isEmpty then 0 else 1)<30))=true:=by rfl)
  (hline:(apos.endLine == cpos.line)=true:=by rfl)(hs:Vj (e::es) X.env=(false,eval e X.env)::Vj es X.env:=by rfl)(hplain:(W0 cpos (Vj es X.env)).any (·.1)=false:=by rfl) :
  PE X (.Call (.Attribute o name apos) (e::es) [] cpos) (AV X.K T r to t):=by
 intro a5f s σ H Q I h
 refine a2i hbase hfew hline rfl (aU (ho a5f s σ H _ I h) fun v s1 ⟨x,H1,I1,r1,ty,q1⟩=>?_)
 obtain ⟨h1,h2⟩:=AS I1 r1 ty
 refine ⟨T,id,pa,slot,hty,h1,h2,?_⟩
 have hA:=ha cpos a5f s1 σ H1 _ I1 q1
 rw [hs] at hA ⊢
 refine Xb (by show (false||(W0 cpos (Vj es X.env)).any (·.1))=false;rw [hplain]<;>rfl) (a1L ?_)
 exact aU hA fun us s2 ⟨vs,H2,I2,r2,q2⟩=>hm a5f s2 σ H2 x vs v us Q I2 r1 r2 q2
end
end L2
namespace L2
open PySem PySem.Spec PyProof.Rows
noncomputable def eU (X:Cx)(id:String)(r:V->List V->Hp->VK->Prop):Prop:=
 ∀ (a5f:List (Addr×Wf))(s:UE)(σ:St)(H:Hp)(x:V)(xs:List V)(v:UC)(us:List UC)(Q:VK),Inv X a5f σ H s->RelV x v->Vals xs us->r x xs H Q->
  U3 (U8 X.prog X.w) X.A (call (.builtin id) (v::us)) (EP X a5f σ Q) X.xe s
theorem Vals.one:∀ {x:V}{us:List UC},Vals [x] us->∃ u,us=[u]/\RelV x u
 | _,_,.cons r .nil=>⟨_,rfl,r⟩
theorem Vals.two:∀ {x y:V}{us:List UC},Vals [x,y] us->∃ u v,us=[u,v]/\RelV x u/\RelV y v
 | _,_,_,.cons r (.cons q .nil)=>⟨_,_,rfl,r,q⟩
theorem Vals.zero:∀ {us:List UC},Vals [] us->us=[]
 | _,.nil=>rfl
theorem Vals.dropLast {xs:List V}{us:List UC}(h:Vals xs us):Vals xs.dropLast us.dropLast:=by
 induction h with
 | nil=>exact .nil
 | cons r t ih=>
  cases t with
  | nil=>exact .nil
  | cons q t'=>exact .cons r ih
theorem Vals.reverse {xs:List V}{us:List UC}(h:Vals xs us):Vals xs.reverse us.reverse:=by
 induction h with
 | nil=>exact .nil
 | cons r t ih=>rw [Xn,Xn];exact Vals.append ih (.cons r .nil)
theorem Vals.rep {xs:List V}{us:List UC}(h:Vals xs us):∀ k:Nat,Vals (Vi k xs).flatten (Vi k us).flatten
 | 0=>.nil
 | k+1=>by
  rw [WE,WE,Xo,Xo]
  exact Vals.append h (Vals.rep h k)
theorem IZ {α:Type}(l:List α):l.eraseIdx (l.length - 1)=l.dropLast:=by
 induction l with
 | nil=>rfl
 | cons a r ih=>
  cases r with
  | nil=>rfl
  | cons b r=>
   have e:(a::b::r).length - 1=((b::r).length - 1)+1:=by
    have h1:(a::b::r).length=r.length+2:=rfl
    have h2:(b::r).length=r.length+1:=rfl
    omega
   rw [e,List.eraseIdx_cons_succ,ih]
   all_goals rfl
theorem AW (its:List UC):∀ (k:Nat)(acc:List UC),
  a2g (fun x1 x2=>x1++x2) acc.toArray (Vi k its.toArray)=(acc++(Vi k its).flatten).toArray
 | 0,acc=>by simp
 | k+1,acc=>by
  have e:acc.toArray++its.toArray=(acc++its).toArray:=by simp
  have e2:(acc++its)++(Vi k its).flatten=acc++(Vi (k+1) its).flatten:=by
   rw [WE,Xo,a2F]
  rw [<- e2,<- AW its k (acc++its),<- e,WE,WR]
section
variable {X:Cx}{a5f:List (Addr×Wf)}{σ:St}{H:Hp}{s:UE}{l b:Addr}{xs ys zs:List V}
theorem Inv.lset {its its':List UC}{n:Nat}{f:Array UC->Array UC}{t':Nat}(I:Inv X a5f σ H s)(hH:H l=some (.lst xs))
  (e:s.heap.get? l=some { cls:=.type "list",data:=.seq its.toArray n }) (hf:f its.toArray=its'.toArray)(hv:Vals ys its')(hz:ys.length<=UM) :
  Inv X a5f σ (aK H l (.lst ys)) { s with heap:=s.heap.update l (VW f),toks:=t' }:=by
 have q:=PySem.IsL.update e f
 rw [hf] at q
 refine I.write (x:=l) (e:=l) (by rw [hH];exact trivial) (.inl rfl) (fun b' u hb hu=>(V7 s.heap (VW f) (VH hb)).trans hu) ⟨_,q⟩ ?_
 exact ⟨hz,its',_,hv,q⟩
theorem Inv.lnew {its:List UC}{t':Nat}(I:Inv X a5f σ H s)(hv:Vals ys its)(hz:ys.length<=UM) :
  Inv X a5f σ (aK H s.heap.objs.size (.lst ys)) { s with heap:=s.heap.push { cls:=.type "list",data:=.seq its.toArray },toks:=t' }:=
 I.laid (fun _ _ q=>UD _ q) (UJ _) ⟨hz,its,0,hv,UT _ rfl⟩
theorem Inv.fresh (I:Inv X a5f σ H s):H s.heap.objs.size=none:=I.hok.fresh (UJ _)
theorem Inv.lstM (I:Inv X a5f σ H s)(hH:H l=some (.lst xs)):xs.length<=UM/\∃ (its:List UC)(n:Nat),Vals xs its/\xs.length=its.length/\s.heap.get? l=some { cls:=.type "list",data:=.seq its.toArray n }:=by
 obtain ⟨z,its,n,r,e⟩:=I.hok l _ hH
 exact ⟨z,its,n,r,r.length,e⟩
theorem AX {n:Nat}(h:n<=UM):Xr n=false:=by
 unfold Xr
 exact decide_eq_false (by omega)
end
section
variable {X:Cx}
noncomputable def AY:V->List V->Hp->VK->Prop:=fun x vs H Q=>∃ l xs y,x=.ref l/\vs=[y]/\H l=some (.lst xs)/\xs.length<UM/\Q .non (aK H l (.lst (xs++[y])))
theorem AZ:eU X "list.append" AY:=by
 intro a5f s σ H x vs v us Q I rx rv h
 obtain ⟨l,xs,y,rfl,rfl,hH,hz,q⟩:=h
 cases rx
 obtain ⟨u,rfl,ru⟩:=rv.one
 obtain ⟨z,its,n,r,hl,e⟩:=I.lstM hH
 refine XN F.slot_list_append ⟨_,e,rfl⟩ F.entry_list_append (F.args_list_append_2 _ _) (PySem.list_append l its.toArray n u (by rw [US];omega)) ⟨e,?_⟩
 refine ⟨.non,_,I.lset (its':=its++[u]) hH e (by simp) (r.append (.cons ru .nil)) ?_,rfl,q⟩
 rw [U5,Zf]
 omega
noncomputable def A1:V->List V->Hp->VK->Prop:=fun x vs H Q=>∃ l b xs zs,x=.ref l/\vs=[.ref b]/\H l=some (.lst xs)/\H b=some (.lst zs)/\xs.length+zs.length<=UM/\Q .non (aK H l (.lst (xs++zs)))
theorem Ja:eU X "list.extend" A1:=by
 intro a5f s σ H x vs v us Q I rx rv h
 obtain ⟨l,b,xs,zs,rfl,rfl,hH,hB,hz,q⟩:=h
 cases rx
 obtain ⟨u,rfl,ru⟩:=rv.one
 cases ru
 obtain ⟨z,its,n,r,hl,e⟩:=I.lstM hH
 obtain ⟨z2,its2,n2,r2,hl2,e2⟩:=I.lstM hB
 have hsz:its.toArray.size+its2.toArray.size<=UM:=by rw [US,US];omega
 have hlong:¬ (!its.toArray.isEmpty&&Xr (its.toArray.size+its2.toArray.size))=true:=by
  rw [AX hsz,a3o]
  exact Vn
 refine XN F.slot_list_extend ⟨_,e,rfl⟩ F.entry_list_extend (F.args_list_extend_2 _ _)
  (AutoSeq1.list_extend_list_list_0 l its.toArray n b its2.toArray n2 hlong (by rw [US];omega) (by omega)) ⟨e,e2,?_⟩
 refine ⟨.non,_,I.lset (its':=its++its2) hH e (by simp) (r.append r2) ?_,rfl,q⟩
 rw [U5]
 omega
noncomputable def A2:V->List V->Hp->VK->Prop:=fun x vs H Q=>∃ l xs y,x=.ref l/\vs=[]/\H l=some (.lst xs)/\xs[xs.length - 1]? = some y/\Q y (aK H l (.lst xs.dropLast))
theorem Jb:eU X "list.pop" A2:=by
 intro a5f s σ H x vs v us Q I rx rv h
 obtain ⟨l,xs,y,rfl,rfl,hH,hy,q⟩:=h
 cases rx
 have hus:=rv.zero
 subst hus
 obtain ⟨z,its,n,r,hl,e⟩:=I.lstM hH
 obtain ⟨u,hu,ru⟩:=r.get hy
 have hy':its.toArray[its.toArray.size - 1]? = some u:=by
  show its.toArray[its.length - 1]? = some u
  rw [<- Wb,<- hl]
  exact hu
 refine XN F.slot_list_pop ⟨_,e,rfl⟩ F.entry_list_pop (F.args_list_pop_1 _) (MeetsSeq.list_pop_last l its.toArray n u hy' (by rw [US];omega)) ⟨e,?_⟩
 refine ⟨y,_,I.lset (its':=its.dropLast) hH e ?_ r.dropLast ?_,ru,q⟩
 ·show its.toArray.eraseIdxIfInBounds (its.toArray.size - 1)=its.dropLast.toArray
  rw [US,List.eraseIdxIfInBounds_toArray,IZ]
 ·rw [List.length_dropLast]
  omega
noncomputable def A3:V->List V->Hp->VK->Prop:=fun x vs H Q=>∃ l xs,x=.ref l/\vs=[]/\H l=some (.lst xs)/\Q .non (aK H l (.lst xs.reverse))
theorem Jc:eU X "list.reverse" A3:=by
 intro a5f s σ H x vs v us Q I rx rv h
 obtain ⟨l,xs,rfl,rfl,hH,q⟩:=h
 cases rx
 have hus:=rv.zero
 subst hus
 obtain ⟨z,its,n,r,hl,e⟩:=I.lstM hH
 refine XN F.slot_list_reverse ⟨_,e,rfl⟩ F.entry_list_reverse (F.args_list_reverse_1 _) (AutoSeq1.list_reverse_list_0 l its.toArray n (by rw [US];omega)) ⟨e,?_⟩
 refine ⟨.non,_,I.lset (its':=its.reverse) hH e (by simp) r.reverse ?_,rfl,q⟩
 rw [ZC]
 omega
noncomputable def A4:V->List V->Hp->VK->Prop:=fun x vs H Q=>∃ l xs,x=.ref l/\vs=[]/\H l=some (.lst xs)/\Q .non (aK H l (.lst []))
theorem Jd:eU X "list.clear" A4:=by
 intro a5f s σ H x vs v us Q I rx rv h
 obtain ⟨l,xs,rfl,rfl,hH,q⟩:=h
 cases rx
 have hus:=rv.zero
 subst hus
 obtain ⟨z,its,n,r,hl,e⟩:=I.lstM hH
 refine XN F.slot_list_clear ⟨_,e,rfl⟩ F.entry_list_clear (F.args_list_clear_1 _) (AutoSeq1.list_clear_list_0 l its.toArray n (by rw [US];omega)) ⟨e,?_⟩
 exact ⟨.non,_,I.lset (its':=[]) (ys:=[]) hH e rfl .nil (Vk _),rfl,q⟩
noncomputable def A5:R2:=fun x y H Q=>∃ l k xs,x=.ref l/\y=.int k/\H l=some (.lst xs)/\-(2 ^ 63)<=k/\k<2 ^ 63/\xs.length * k.toNat<=UM /\
 ∀ p,H p=none->Q (.ref p) (aK H p (.lst (Vi k.toNat xs).flatten))
theorem Je {α:Type}(xs:List α)(k:Nat):(Vi k xs).flatten.length=k * xs.length:=by
 induction k with
 | zero=>simp
 | succ k ih=>rw [WE,Xo,U5,ih,Z9,a4g]
theorem Jf:OpR X (XO .Mult) A5:=by
 intro a5f s σ H x y v u Q I rx ry h
 obtain ⟨l,k,xs,rfl,rfl,hH,h1,h2,hz,q⟩:=h
 cases rx
 obtain ⟨t,rfl⟩:=ry
 obtain ⟨z,its,n,r,hl,e⟩:=I.lstM hH
 have hlen:its.toArray.size * k.toNat<=UM:=by rw [US,<- hl];exact hz
 have hcap:¬ its.toArray.size * k.toNat>(2 ^ 63 - 1) / 8:=by
  have:(UM:Nat)<=(2 ^ 63 - 1) / 8:=by decide
  omega
 have hfit:¬ (!Builtin.List.listFitsIndex k)=true:=by
  rw [fitsIndex_both h1 h2]
  exact Vn
 have hlong:¬ Xr (its.toArray.size * k.toNat)=true:=by
  rw [AX hlen]
  exact Vn
 have hnew:a2g (fun x1 x2=>x1++x2) #[] (Vi (if its.toArray.isEmpty=true then 0 else k.toNat) its.toArray)=(Vi k.toNat its).flatten.toArray:=by
  have f0:∀ m:Nat,a2g (fun x1 x2=>x1++x2) #[] (Vi m its.toArray)=(Vi m its).flatten.toArray:=fun m=>by
   have:=AW its m []
   rw [Vf] at this
   exact this
  rw [f0]
  cases its with
  | nil=>simp
  | cons a r'=>rw [if_neg (by simp)]
 refine wpAny_binaryOp_repeat_ref (T:="list") (U:="int") (by decide) ⟨_,e,rfl⟩ (fun s'=>a3r s' k t) noFill_list_mul F.fills_int_mul F.slot_int_rmul repeat_list F.slot_int_index.lookup
  (XN F.slot_int_rmul (a3r s k t) F.entry_int_rmul (F.args_int_rmul_2 _ _) (int___rmul___int_list k t l its.toArray n)
   ⟨e,rfl,⟨_,e,rfl⟩,XN F.slot_list_mul ⟨_,e,rfl⟩ F.entry_list_mul (F.args_list_mul_2 _ _) (AutoListH.list___mul___list_int_3 l its.toArray n k t hfit hcap hlong) ⟨e,?_⟩⟩)
 rw [hnew]
 exact ⟨.ref _,_,I.lnew (t':=s.toks) (r.rep k.toNat) (by rw [Je,Nat.mul_comm];exact hz),rfl,q _ I.fresh⟩
end
section
variable {prog:Va}{w:Vu}{A:Vh}{E:UC->UE->Prop}{s:UE}
set_option maxRecDepth 100000 in
end
section
variable {X:Cx}
end
end L2
namespace Att
open PySem PySem.W PySem.Calls PyProof.Rows
theorem Jg {P:Params}{h:VL}:∀ (ns:List Int)(vs:List UC),WellAll P h vs (ns.map Yq)->Xe vs ns:=by
 intro ns
 induction ns with
 | nil=>
  intro vs w
  rw [XD] at w
  cases w
  exact .nil
 | cons n ns ih=>
  intro vs w
  rw [UQ] at w
  cases w with
  | cons a b=>
   cases a
   exact .cons _ _ (ih _ b)
theorem script_of {l:OpenLaw}{n:Nat}(hn:l.most=some n){P:Params}{h:VL}{args:List WData}{vals:List UC}
  (hpre:l.row.toRowW.claim.pre args=true)(hwl:WellAll P h vals args) :
  ∃ a vs ns,vals=[UP a]/\args=[WData.list (ns.map Yq)]/\h.get? a=some { cls:=.type "list",data:=.seq vs.toArray }/\Xe vs ns/\ns.length<=n:=by
 have hsh:WShape.hasAll [] args [.list .int]=true:=(pre_splitW hpre).1
 have hc:l.pre.holds [] { args:=args } = true:=(pre_splitW hpre).2
 obtain ⟨d,r,rfl,h1,h2⟩:=hasAllW_cons hsh
 obtain rfl:=hasAllW_nil h2
 obtain ⟨xs,rfl,h3⟩:=hasW_list h1
 obtain ⟨ns,rfl⟩:=items_int h3
 have hlen:ns.length<=n:=by
  unfold OpenLaw.pre at hc
  have h4:(WTm.not (.lt (.lit (.int (n:Int))) (.len (.arg 0)))).holds [] { args:=[.list (ns.map .int)] } = true:=by
   have h4:=(holds_andW hc).1
   rw [hn] at h4
   exact h4
  have h5:=condW_of h4 (w_not (w_lt w_lit (w_len_list (w_arg rfl))))
  rw [Uz] at h5
  refine a3a fun q=>?_
  have q':(n:Int)<((ns.length:Nat):Int):=by omega
  first
   | (rw [decide_eq_true q'] at h5;exact absurd h5 (by decide))
   | (simp at h5;omega)
 cases hwl with
 | cons w1 w2=>
  cases w2
  cases w1 with
  | list ho hall=>exact ⟨_,_,ns,rfl,rfl,ho,Jg ns _ hall,hlen⟩
theorem post_true (l:OpenLaw)(args:List WData):l.row.toRowW.claim.post args (.bool true) args=true:=
 postW_of (r:=l.row.toRowW) (X:=(true == true))
  (show a3M [] (.bool true) .bool=true by first|rfl|decide|simp [a3M,WShape.arms,WShape.armsAll])
  (show (WTm.eq .res (.lit (.bool true))).value [] { args:=args,res:=some (.bool true),after:=args } = some (.bool (true == true)) from w_eq_bool (w_res rfl) w_lit) rfl
section
variable {prog:Va}{w:Vu}{A:Vh}{E:UC->UE->Prop}{s:UE}{K:Frag}
end
end Att
namespace L2
open PySem PySem.Spec PyProof.Rows
theorem vA:∀ {vs:List UC}{ns:List Int},Xe vs ns->Vals (ns.map V.int) vs
 | _,_,.nil=>.nil
 | _,_,.cons n t h=>.cons ⟨t,rfl⟩ (vA h)
noncomputable def A6 (H:Hp):Prop:=∀ b,H b=none\/∃ o xs,H b=some (.frz o (.lst xs))
theorem law_call {P:Va}{w:Vu}{K:Ux}{mg mb:Str->Option UC}{CX:i8}{k:Nat}{fa a:Addr}{fd:WS}{x:Str}{sp:Sp}{s₁:UE}{vs:List UC}{ns:List Int}
  (KX:K.In s₁.heap)(hns:s₁.heap.Ns We mg)(hb:s₁.heap.Ns a3x mb)(hbb:∀ x:Str,x ≠ "__name__"->mb x=Wa x) (hlim:s₁.heap.NoLimit)(hg:s₁.gens = #[])
  (ha:s₁.heap.get? a=some { cls:=.type "list",data:=.seq vs.toArray }) (hi:Xe vs ns)(hl:ns.length<=UM)(hr:Room k a0B)
  (F:∀ base:VL,K.In base->base.Ns We mg->FnOk P w K mg base CX k fa fd [x] sp)(hbind:∀ (s:UE)(u:UC),a0I s fd ⟨[u],[]⟩ [(x,u)])
  (hsp:∀ H:Hp,A6 H->SqL K H a (ns.map V.int)->sp [.ref a] H (fun v _=>v=.bl true) fun _ _ _=>False)
  (hCX:∀ H e s',CX [] H s₁ (fun _ _ _=>False) e s'->False) :
  X7 (U8 P w) a0B (.call (.ref fa) ⟨[.ref a],[]⟩) (fun r s'=>r=.ok (.ret (.bool true))/\OldK s₁.heap s'.heap/\s'.os=s₁.os/\Z3 s'.gens) s₁:=by
 have rv:=vA hi
 have lenV:=hi.length
  -- from an abstract heap in which nothing but the script may be tracked
 have core:∀ H:Hp,A6 H->SqL K H a (ns.map V.int)->HOk P w H s₁.heap->(∀ b,H b≠none->b=a)->(H a≠none->K.lookup a=none)->
   X7 (U8 P w) a0B (.call (.ref fa) ⟨[.ref a],[]⟩) (fun r s'=>r=.ok (.ret (.bool true))/\OldK s₁.heap s'.heap/\s'.os=s₁.os/\Z3 s'.gens) s₁:=by
  intro H hO hS hok hA hK
  have kT:∀ {b:Addr}{o:Wf},s₁.heap.get? b=some o->H b=none->(jR s₁.heap H).get? b=some o:=fun e n=>Gz e n
  have noA:∀ {b:Addr}{o:Wf}{es:Array VM}{ep:Nat},s₁.heap.get? b=some o->o.data=.dict es ep->H b=none:=fun {b o es ep} e d=>by
   cases q:H b with
   | none=>rfl
   | some u=>
    have e':b=a:=hA b (by rw [q];simp)
    subst e'
    rw [ha] at e;cases e
    have d':a0Q vs.toArray _=a5e es ep:=d
    cases d'
  have nsK:∀ {b:Addr}{m:Str->Option UC},s₁.heap.Ns b m->(jR s₁.heap H).Ns b m:=fun {b m} ⟨o,es,ep,e,d,r⟩=>⟨o,es,ep,kT e (noA e d),d,r⟩
  have hKb:K.In (jR s₁.heap H):=fun b o e=>kT (KX b o e) (by
   cases q:H b with
   | none=>rfl
   | some u=>
    have e':b=a:=hA b (by rw [q];simp)
    subst e'
    rw [hK (by rw [q];simp)] at e;cases e)
  have hM:Mod K mg (jR s₁.heap H):=⟨hKb,nsK hns,⟨mb,nsK hb,hbb⟩,let ⟨mc,h1,h2⟩:=hlim;⟨mc,nsK h1,h2⟩⟩
  have e0:Env0 P w K mg (jR s₁.heap H) a0B [] s₁ H:=⟨rfl,hM,fun b o e=>GA e,Zb (Gy _ _),trivial,fun b hb=>absurd (show b∈([]:List Addr) from hb) (by simp),hok,.of_eq hg⟩
  refine a0A ((F _ hKb (nsK hns)).run a0B [] s₁ H ⟨[.ref a],[]⟩ [.ref a] [.ref a] _ _ hr e0 (hbind s₁ (.ref a)) (.cons rfl .nil) (hsp H hO hS)) fun r s' h=>?_
  cases r with
  | error e=>exact (hCX H e s' h).elim
  | ok fl=>
   cases fl with
   | next=>exact Wz h
   | brk=>exact Wz h
   | cont=>exact Wz h
   | ret u=>
    obtain ⟨v,H',os,bare,un,hok',r',q⟩:=h
    have q':v=.bl true:=q
    subst q'
    obtain rfl:u=Yd true:=r'
    refine ⟨rfl,OldK.of_keep fun b o e=>?_,os,bare⟩
    cases q:H b with
    | none=>exact un.keep b o e q (by intro z;exact absurd (show b∈([]:List Addr) from z) (by simp)) (by simp)
    | some u=>
     rcases hO b with z|⟨ob,xs,z⟩
     ·rw [q] at z;cases z
     ·have z2:=un.frzs b ob _ z
      obtain ⟨e1,_⟩:=hok b _ z
      obtain ⟨e2,_⟩:=hok' b _ z2
      rw [e] at e1;cases e1
      exact e2
 cases hk:K.lookup a with
 | some o=>
    -- the script is one of the module's own objects
  have e:=KX a o hk
  rw [ha] at e
  cases e
  refine core (fun _=>none) (fun _=>.inl rfl) (.inr ⟨_,vs.toArray,_,hk,rfl,rfl,rfl,by rw [US,lenV];exact hl,by simpa using rv⟩) (fun b u z=>by have z':(none:Option HO)=some u:=z;cases z') (fun b z=>absurd rfl z) fun z=>absurd rfl z
 | none=>
  refine core (fun b=>if b=a then some (.frz { cls:=.type "list",data:=.seq vs.toArray } (.lst (ns.map V.int))) else none) (fun b=>?_) (.inl (.inr ⟨{ cls:=.type "list",data:=.seq vs.toArray },if_pos rfl⟩)) (fun b u z=>?_) (fun b z=>?_) fun _=>hk
  ·by_cases hb:b=a
   ·exact .inr ⟨_,_,if_pos hb⟩
   ·exact .inl (if_neg hb)
  ·by_cases hb:b=a
   ·have z':=(if_pos hb).symm.trans z
    cases z'
    subst hb
    exact ⟨ha,by rw [Uz];exact hl,vs,_,rv,ha⟩
   ·have z':=(if_neg hb).symm.trans z
    cases z'
  ·by_cases hb:b=a
   ·exact hb
   ·exact absurd (if_neg hb) z
end L2
namespace L2
open PySem PySem.Spec PyProof.Rows
end L2
namespace L2
open PySem PySem.Spec PyProof.Rows
noncomputable def jU (s:Stmt):Arguments:=match s with
 | .FunctionDef _ a _ _ _ _ _ _ _ _=>a
 | _=>{ posonlyargs:=[],args:=[],vararg:=none,kwonlyargs:=[],kw_defaults:=[],kwarg:=none,defaults:=[] }
noncomputable def fV (s:Stmt):List Stmt:=match s with
 | .FunctionDef _ _ b _ _ _ _ _ _ _=>b
 | _=>[]
noncomputable def cN (s:Stmt):Xf:=match s with
 | .FunctionDef _ _ _ _ _ _ sc _ _ _=>sc
 | _=>{ kind:=.function,names:=[],isGenerator:=false,isCoroutine:=false }
noncomputable abbrev fG:i8:=fun _ _ _ _ _ _=>False
noncomputable abbrev E0:XK:=fun _ _ _=>False
theorem A7 {X:Cx}:rK fG X E0:=fun _ _ _ _ _ _ _ h=>h.elim
structure Fun (K:Ux)(x qual:Str)(st:Stmt)(f:Addr)(fd:WS):Prop where
 ex:∃ (oc:UC)(od:Option Addr)(kV doc pm:UC)(an:Option Addr)(cdv ct:UC)(osl:Array (Option UC)),
  fd=WO x qual (jU st) (fV st) (cN st) .none kV doc pm an cdv ct/\K.lookup f=some ⟨oc,od,.func fd,osl⟩/\Za K cdv qual=true
 kp:Wm K (.ref f)=true
section
variable {P:Va}{w:Vu}{K:Ux}{mg:Str->Option UC}{base:VL}
theorem Fun.ok {x qual:Str}{st:Stmt}{f:Addr}{fd:WS}{N ps:List Str}{k:Nat}{sp:Sp}(F:Fun K x qual st f fd)(S:FnScope N ps (cN st))(len:∀ vs H Q E,sp vs H Q E->vs.length=ps.length)
  (hbody:∀ (cdv:UC)(A:Vh)(outer:List ZZ)(s:UE)(H:Hp)(vs:List V)(Q:VK)(E:XK),Room k (A.deeper (envOfC qual (cN st) s.heap.objs.size f cdv))->sp vs H Q E->
   ∃ t,PSs (jS fG P w K mg base N qual (cN st) f cdv A outer s H E).nox (fV st) t/\t { nx:=fun _ H'=>Q .non H',rt:=Q } (start N vs) H):FnOk P w K mg base fG (k+1) f fd ps sp:=by
 obtain ⟨oc,od,kV,doc,pm,an,cdv,ct,osl,rfl,lk,hcd⟩:=F.ex
 refine Ip lk hcd S len fun A outer s H vs Q E hr hsp=>?_
 obtain ⟨t,h,q⟩:=hbody cdv A outer s H vs Q E hr hsp
 exact ⟨t,h.nox,q⟩
theorem Fun.binds {x qual:Str}{st:Stmt}{f:Addr}{fd:WS}{ps:List Str}(F:Fun K x qual st f fd)
  (h:∀ (kV doc pm:UC)(an:Option Addr)(cdv ct:UC)(us:List UC),us.length=ps.length->a1B (WO x qual (jU st) (fV st) (cN st) .none kV doc pm an cdv ct) ⟨us,[]⟩=pure (ps.zip us)):Binds K fd ps []:=by
 obtain ⟨oc,od,kV,doc,pm,an,cdv,ct,osl,rfl,lk,hcd⟩:=F.ex
 exact .all (h kV doc pm an cdv ct)
theorem Jh {x qual:Str}{st:Stmt}{f:Addr}{oc:UC}{od an:Option Addr}{osl:Array (Option UC)}{kV doc pm cdv ct:UC}(l:K.lookup f=some ⟨oc,od,.func (WO x qual (jU st) (fV st) (cN st) .none kV doc pm an cdv ct),osl⟩)
  (c:Za K cdv qual=true)(k:Wm K (.ref f)=true):Fun K x qual st f (WO x qual (jU st) (fV st) (cN st) .none kV doc pm an cdv ct):=⟨⟨oc,od,kV,doc,pm,an,cdv,ct,osl,rfl,l,c⟩,k⟩
end
theorem Ji {A:Vh}{k:Nat}(hr:Room k A):A.units+1<V3:=Nat.lt_of_le_of_lt (Nat.add_le_add_left (by decide:1<=64) _) hr.units
section
variable {X:Cx}
end
theorem kM {A B:Prop}(h:B):if false=true then A else B:=by
 rw [if_neg Vn]
 exact h
theorem kN {A B:Prop}(h:A):if true=true then A else B:=by
 rw [if_pos rfl]
 exact h
noncomputable def Same (H H':Hp):Prop:=∀ b o,H b=some o->H' b=some o
theorem Same.trans {H H1 H2:Hp}(a:Same H H1)(b:Same H1 H2):Same H H2:=fun c o h=>b c o (a c o h)
theorem Same.free {H H':Hp}(e:Same H H'){l:Addr}(h:H' l=a3z):H l=a3z:=by
 cases q:H l with
 | none=>rfl
 | some o=>
  rw [e l o q] at h
  cases h
theorem Same.seq {K:Ux}{H H':Hp}{a:Addr}{xs:List V}(e:Same H H')(h:SqL K H a xs):SqL K H' a xs:=by
 rcases h with (h|⟨o,h⟩)|h
 ·exact .inl (.inl (e _ _ h))
 ·exact .inl (.inr ⟨o,e _ _ h⟩)
 ·exact .inr h
section
variable {κ:Type} [DecidableEq κ]
end
end L2
namespace Lw
open PySem L2
noncomputable def aP (i:Nat):Stmt:=VZ.main.body.getD i (.Pass ⟨0,0,0,0⟩)
noncomputable def Vw:Va:={ VZ with main:={ VZ.main with body:=aP 1::aP 2::aP 4::aP 5::aP 6::aP 7::aP 8::aP 9::aP 10::aP 11::aP 12::aP 13::aP 14::aP 15::aP 16::aP 17::aP 19::aP 20::aP 21::aP 22::aP 23::aP 24::aP 25::aP 27::aP 29::aP 30::aP 31::aP 32::aP 34::aP 35::aP 36::aP 37::aP 38::aP 40::aP 41::aP 42::aP 44::aP 45::aP 46::aP 47::aP 48::aP 49::aP 50::aP 51::aP 52::aP 53::aP 54::aP 55::aP 56::aP 57::aP 58::aP 59::[] } }
noncomputable abbrev vS (x:String)(n:Nat):UC:=a1c (X9 x) n
noncomputable abbrev vI (i:Int):UC:=Vr i 0
noncomputable abbrev vR (a:Addr):UC:=UP a
noncomputable abbrev vN:UC:=VJ
noncomputable abbrev kO (x y:String)(a b c:Nat)(l n i j k:Int)(r:Addr)(q:Int)(vs:Array UC)(t l2:Int)(e:Nat):Wf:={ cls:=Wv "code",data:=a0p (#[vS x a,vS x b,vS y c,vI l,vI n,vI i,vI j,vI k,vR r,Yd true,vI q]++vs++#[vI t,vI l2,vS y e]) }
noncomputable abbrev tO (fs:Array UC):Wf:={ cls:=Wv "tuple",data:=a0Q fs }
noncomputable abbrev fO (x:Str)(n:Nat)(m:UC)(c:Addr):Wf:=⟨Wv "function",none,.func (WO x x (jU (aP n)) (fV (aP n)) (cN (aP n)) VJ VJ VJ m none (UP c) VJ),#[]⟩
noncomputable abbrev eO (P:X2)(x:String)(n:Nat)(v:UC):VM:={ hash:=PyData.keyHash P (X9 x),key:=a1c (X9 x) n,val:=v }
noncomputable abbrev eR (P:X2)(x:String)(n:Nat)(a:Addr):VM:=eO P x n (vR a)
noncomputable abbrev kA (p:Addr×Wf)(R:Ux):Ux:=p::R
noncomputable abbrev vM (n:Nat):UC:=[vS "creasecourt.places" 232,vS "creasecourt.sheets" 359,vS "creasecourt.wedges" 407,vS "creasecourt.corners" 415,vS "creasecourt.layings" 445,vS "creasecourt.laid" 488,vS "law_creasecourt_k44_stacks_and_edges" 523].getD n vN
noncomputable abbrev kF (x:String)(r a:Nat)(l n:Int)(t i:Nat)(m:UC)(R:Ux):Ux:=(r+5,kO x "/claim/cut.py" a (a+1) (a+2) l n 0 0 3 r 181 #[vR (r+1),vN,vR (r+2),vR (r+3),vR (r+4)] t l (t+1))::(r+6,fO x i m (r+5))::R
noncomputable abbrev kG (x:String)(r a:Nat)(l n:Int)(t i:Nat)(m:UC)(R:Ux):Ux:=(r+3,kO x "/claim/cut.py" a (a+1) (a+2) l n 0 0 3 r 181 #[vR (r+1),vN,vN,vN,vR (r+2)] t l (t+1))::(r+4,fO x i m (r+3))::R
noncomputable def Kx:X2 → Ux:=fun P=>kA (3,{ cls:=Wv "dict",data:=a5e #[eO P "__name__" 165 (vS "law_creasecourt_k44_stacks_and_edges" 523),eO P "__doc__" 166 vN,eO P "__package__" 167 vN,eO P "__loader__" 168 (a0V "__main__.__loader__#opaque"),eO P "__spec__" 169 vN,eR P "__annotations__" 170 6,eR P "__builtins__" 171 4,eO P "__file__" 173 (vS "/claim/cut.py" 172),eO P "__cached__" 174 vN,eR P "CreaseError" 206 24,eR P "Barred" 231 44,eR P "EIGHT_EDGES" 256 55,eR P "FOUR_EDGES" 269 60,eR P "is_whole" 276 67,eR P "is_corner" 283 74,eR P "is_edge" 290 81,eR P "is_quarter" 297 88,eR P "line_of" 304 95,eR P "beside" 313 102,eR P "sides_of" 319 107,eR P "edges_of" 325 112,eR P "moved_by" 331 117,eR P "edges_round" 338 124,eR P "number_by" 346 131,eR P "mirrored" 358 138,eR P "is_within" 369 145,eR P "places_within" 375 150,eR P "quarters_in" 381 155,eR P "edges_in" 387 160,eR P "corners_in" 393 165,eR P "neighbours_in" 399 170,eR P "marks_in" 406 177,eR P "is_good" 414 182,eR P "creases_at" 422 187,eR P "gaps_at" 428 192,eR P "barred" 436 199,eR P "check_corners" 444 206,eR P "STILL" 453 207,eR P "laying_by" 462 214,eR P "mirror_in" 469 221,eR P "led" 479 228,eR P "then" 487 235,eR P "laid" 503 242,eR P "stacks" 512 249,eR P "edges_laid" 522 256,eR P "_law_cell" 533 263,eR P "_law_inner" 544 270,eR P "_law_line" 553 277,eR P "_law_beside" 562 284,eR P "_law_quarters" 573 291,eR P "_law_led" 587 298,eR P "_law_over" 603 305,eR P "_law_value" 611 312,eR P "_law_grown" 627 319,eR P "_law_by_lines" 639 326,eR P "_law_creased" 645 331,eR P "_law_sheet" 660 338,eR P "_law_by_place" 666 343,eR P "_law_spoil" 674 350,eR P "_law_led_on" 692 357,eR P "law" 712 364] 61 }) <|
 kA (47,tO #[Vr 2 234,Vr 0 235]) <|
 kA (48,tO #[Vr 1 236,Vr 1 237]) <|
 kA (49,tO #[Vr 0 238,Vr 2 239]) <|
 kA (50,tO #[Vr (-1) 241,Vr 1 242]) <|
 kA (51,tO #[Vr (-2) 244,Vr 0 245]) <|
 kA (52,tO #[Vr (-1) 247,Vr (-1) 249]) <|
 kA (53,tO #[Vr 0 250,Vr (-2) 252]) <|
 kA (54,tO #[Vr 1 253,Vr (-1) 255]) <|
 kA (55,tO #[vR 47,vR 48,vR 49,vR 50,vR 51,vR 52,vR 53,vR 54]) <|
 kA (56,tO #[Vr 1 257,Vr 1 258]) <|
 kA (57,tO #[Vr (-1) 260,Vr 1 261]) <|
 kA (58,tO #[Vr (-1) 263,Vr (-1) 265]) <|
 kA (59,tO #[Vr 1 266,Vr (-1) 268]) <|
 kA (60,tO #[vR 56,vR 57,vR 58,vR 59]) <|
 kF "is_whole" 61 270 12 1 274 6 (vM 0) <|
 kF "is_corner" 68 277 14 1 281 7 (vM 0) <|
 kF "is_edge" 75 284 16 1 288 8 (vM 0) <|
 kF "is_quarter" 82 291 20 1 295 9 (vM 0) <|
 kF "line_of" 89 298 24 1 302 10 (vM 0) <|
 kF "beside" 96 305 28 1 311 11 (vM 0) <|
 kG "sides_of" 103 314 32 1 317 12 (vM 0) <|
 kG "edges_of" 108 320 34 1 323 13 (vM 0) <|
 kG "moved_by" 113 326 36 2 329 14 (vM 0) <|
 kF "edges_round" 118 332 38 1 336 15 (vM 0) <|
 kF "number_by" 125 339 40 2 344 16 (vM 0) <|
 kF "mirrored" 132 347 48 2 356 17 (vM 0) <|
 kF "is_within" 139 361 61 3 367 19 (vM 1) <|
 kG "places_within" 146 370 63 2 373 20 (vM 1) <|
 kG "quarters_in" 151 376 68 2 379 21 (vM 1) <|
 kG "edges_in" 156 382 70 2 385 22 (vM 1) <|
 kG "corners_in" 161 388 72 2 391 23 (vM 1) <|
 kG "neighbours_in" 166 394 74 3 397 24 (vM 1) <|
 kF "marks_in" 171 400 76 1 404 25 (vM 1) <|
 kG "is_good" 178 409 79 1 412 27 (vM 2) <|
 kG "creases_at" 183 417 86 2 420 29 (vM 3) <|
 kG "gaps_at" 188 423 89 2 426 30 (vM 3) <|
 kF "barred" 193 429 96 1 434 31 (vM 3) <|
 kF "check_corners" 200 437 101 1 442 32 (vM 3) <|
 kA (207,tO #[Vr 1 447,Vr 0 448,Vr 0 449,Vr 1 450,Vr 0 451,Vr 0 452]) <|
 kF "laying_by" 208 454 107 3 460 35 (vM 4) <|
 kF "mirror_in" 215 463 109 1 467 36 (vM 4) <|
 kF "led" 222 470 111 2 477 37 (vM 4) <|
 kF "then" 229 480 115 2 485 38 (vM 4) <|
 kF "laid" 236 490 118 1 501 40 (vM 5) <|
 kF "stacks" 243 504 131 1 510 41 (vM 5) <|
 kF "edges_laid" 250 513 136 2 520 42 (vM 5) <|
 kF "_law_cell" 257 525 142 2 531 44 (vM 6) <|
 kF "_law_inner" 264 534 149 2 542 45 (vM 6) <|
 kF "_law_line" 271 545 156 1 551 46 (vM 6) <|
 kF "_law_beside" 278 554 165 1 560 47 (vM 6) <|
 kF "_law_quarters" 285 563 172 2 571 48 (vM 6) <|
 kF "_law_led" 292 574 179 2 585 49 (vM 6) <|
 kF "_law_over" 299 588 182 2 601 50 (vM 6) <|
 kF "_law_value" 306 604 192 2 609 51 (vM 6) <|
 kF "_law_grown" 313 612 194 3 625 52 (vM 6) <|
 kF "_law_by_lines" 320 628 207 2 637 53 (vM 6) <|
 kG "_law_creased" 327 640 214 4 643 54 (vM 6) <|
 kF "_law_sheet" 332 646 237 3 658 55 (vM 6) <|
 kG "_law_by_place" 339 661 245 2 664 56 (vM 6) <|
 kF "_law_spoil" 344 667 249 1 672 57 (vM 6) <|
 kF "_law_led_on" 351 675 254 3 690 58 (vM 6) <|
 kF "law" 358 693 270 1 710 59 (vM 6) <| []
noncomputable def As:List Addr:=[3,47,48,49,50,51,52,53,54,55,56,57,58,59,60,66,67,73,74,80,81,87,88,94,95,101,102,106,107,111,112,116,117,123,124,130,131,137,138,144,145,149,150,154,155,159,160,164,165,169,170,176,177,181,182,186,187,191,192,198,199,205,206,207,213,214,220,221,227,228,234,235,241,242,248,249,255,256,262,263,269,270,276,277,283,284,290,291,297,298,304,305,311,312,318,319,325,326,330,331,337,338,342,343,349,350,356,357,363,364]
theorem pH:∀ P,As=(Kx P).map (·.1):=fun _=>by kernel_rfl
open PySem.W PyProof.Rows in
theorem run:LeftO (a1l VY).prog Vw [] (fun s=>xlAt Vw [] s&&recOk (a3N (a2z (a1l VY))) s) (Hook.obs (a4X Kx As pH)) (Hook.val (a4X Kx As pH)) 4264:=fun w=>by kernel_rfl
end Lw
set_option maxHeartbeats 4000000
namespace L3
open PySem
open PySem.SetTable (Probe Met Slot bits runEnd leap turns insertAt sizeAbove)
namespace Tb
noncomputable def lT (m:Nat)(p:Probe):Probe:=
 if p.more>0 then { p with j:=p.j+1,more:=p.more - 1 } else
 { p with j:=(leap m p.i p.perturb).1,more:=runEnd m (leap m p.i p.perturb).1 - (leap m p.i p.perturb).1,i:=(leap m p.i p.perturb).1,perturb:=(leap m p.i p.perturb).2 }
noncomputable def Jj (m:Nat)(b:Nat):Probe:={ j:=b % (m+1),more:=runEnd m (b % (m+1)) - b % (m+1),i:=b % (m+1),perturb:=b,dummy:=none }
noncomputable def cD (m b:Nat):Nat->Probe
 | 0=>Jj m b
 | k+1=>lT m (cD m b k)
noncomputable def lp (m b:Nat):Nat->Nat×Nat
 | 0=>(b % (m+1),b)
 | n+1=>leap m (lp m b n).1 (lp m b n).2
noncomputable def hd (m i q:Nat):Probe:={ j:=i,more:=runEnd m i - i,i:=i,perturb:=q,dummy:=none }
theorem pI {m b k i q:Nat}(h:cD m b k=hd m i q):∀ r,r<=runEnd m i - i->cD m b (k+r) = { j:=i+r,more:=runEnd m i - i - r,i:=i,perturb:=q,dummy:=none }
 | 0,_=>by rw [a4f,h];rfl
 | r+1,hr=>by
  have e:=pI h r (by omega)
  show lT m (cD m b (k+r))=_
  rw [e]
  unfold lT
  rw [if_pos (show runEnd m i - i - r>0 by omega)]
  show Probe.mk (i+r+1) (runEnd m i - i - r - 1) i q none=_
  rw [Nat.add_assoc,Nat.sub_sub]
theorem Jk {m b k i q:Nat}(h:cD m b k=hd m i q):cD m b (k+(runEnd m i - i)+1)=hd m (leap m i q).1 (leap m i q).2:=by
 have e:=pI h (runEnd m i - i) (UJ _)
 show lT m (cD m b (k+(runEnd m i - i)))=_
 rw [e]
 unfold lT
 rw [if_neg (show ¬ (runEnd m i - i - (runEnd m i - i)>0) by omega)]
 rfl
noncomputable def nx (m i:Nat):Nat:=(i * 5+1) % (m+1)
noncomputable def A8 (m:Nat):Nat->Nat->Nat
 | 0,i=>i
 | n+1,i=>A8 m n (nx m i)
noncomputable def m8 (m:Nat):Nat->Nat->Nat->Nat
 | 0,_,acc=>acc
 | f+1,i,acc=>m8 m f (nx m i) (acc ||| (1 <<< i))
noncomputable def A9 (m:Nat):Bool:=m8 m (m+1) 0 0 == 2 ^ (m+1) - 1&&A8 m (m+1) 0 == 0
theorem Jl (m b:Nat):∀ n,(lp m b n).1<=m
 | 0=>a2M (a5c _ (a1F _))
 | n+1=>a2M (a5c _ (a1F _))
noncomputable def vB (m:Nat)(S:List Nat)(b j:Nat):Prop:=∃ k,(cD m b k).j=j/\∀ k',k'<k->(cD m b k').j∈S
theorem vC {xs:Array Nat}{j:Nat}(hr:∀ a b,a<b->b<xs.size->xs.getD a 0<xs.getD b 0):∀ (f lo hi:Nat),hi - lo<=f->lo<=hi->hi<=xs.size->(∀ i,i<lo->xs.getD i 0<j)->(∀ i,hi<=i->i<xs.size->j<=xs.getD i 0)->
  Yn xs j f lo hi<=xs.size/\(∀ i,i<Yn xs j f lo hi->xs.getD i 0<j)/\∀ i,Yn xs j f lo hi<=i->i<xs.size->j<=xs.getD i 0
 | 0,lo,hi,hf,h1,h2,a,b=>by
  have e:lo=hi:=by omega
  show lo<=xs.size/\(∀ i,i<lo->_)/\∀ i,lo<=i->_
  exact ⟨by omega,a,by rw [e];exact b⟩
 | f+1,lo,hi,hf,h1,h2,a,b=>by
  unfold Yn
  by_cases q:lo<hi
  ·rw [if_pos q]
   dsimp only
   have hm:(lo+hi) / 2<xs.size:=by omega
   have e:xs.getD ((lo+hi) / 2) j=xs.getD ((lo+hi) / 2) 0:=by simp [WY,hm]
   rw [e]
   by_cases c:xs.getD ((lo+hi) / 2) 0<j
   ·rw [if_pos c]
    refine vC hr f _ _ (by omega) (by omega) h2 (fun i hi'=>?_) b
    rcases Xg i ((lo+hi) / 2) with z|z
    ·exact XH (hr _ _ z hm) c
    ·have:i=(lo+hi) / 2:=by omega
     rw [this];exact c
   ·rw [if_neg c]
    refine vC hr f _ _ (by omega) (by omega) (by omega) a fun i hi' hs=>?_
    rcases Xg ((lo+hi) / 2) i with z|z
    ·have:=hr _ _ z hs;omega
    ·have:i=(lo+hi) / 2:=by omega
     rw [this];omega
  ·rw [if_neg q]
   exact ⟨by omega,a,fun i h hs=>b i (by omega) hs⟩
theorem Ba {xs:Array Nat}(h:xs.toList.Pairwise (·<·)):∀ a b,a<b->b<xs.size->xs.getD a 0<xs.getD b 0:=fun a b hab hb=>by
 have:=VX.mp h a b (by simpa using XH hab hb) (by simpa using hb) hab
 simpa [WY,hb,XH hab hb] using this
theorem Jm {xs:Array Nat}(h:xs.toList.Pairwise (·<·))(j:Nat):Yt xs j<=xs.size/\(∀ i,i<Yt xs j->xs.getD i 0<j)/\∀ i,Yt xs j<=i->i<xs.size->j<=xs.getD i 0:=
 vC (Ba h) _ _ _ (by omega) (by omega) (UJ _) (fun i z=>absurd z (YA _)) fun i z z2=>by omega
noncomputable abbrev m9:=Nat×Int×UC
structure Ok (t:Zi)(R:List m9):Prop where
 place:t.place.toList=R.map (·.1)
 dum:t.dummies = #[]
 rise:(R.map (·.1)).Pairwise (·<·)
 le:∀ r∈R,r.1<=t.mask
 cov:A9 t.mask=true
 odd:t.mask % 2=1
 room:R.length<=t.mask
 road:∀ r∈R,vB t.mask (R.map (·.1)) (bits r.2.1) r.1
section
variable {t:Zi}{R:List m9}
theorem Ok.size (o:Ok t R):t.place.size=R.length:=by
 have:=congrArg Vq o.place
 simpa using this
theorem Ok.uniq (o:Ok t R){r r':m9}(h:r∈R)(h':r'∈R)(e:r.1=r'.1):r=r':=by
 have p:=ZW.mp o.rise
 obtain ⟨i,hi,e1⟩:=XM h
 obtain ⟨k,hk,e2⟩:=XM h'
 rcases Yc i k with z|z|z
 ·have:=VX.mp p i k hi hk z
  rw [e1,e2] at this;omega
 ·subst z;rw [<- e1,<- e2]
 ·have:=VX.mp p k i hk hi z
  rw [e1,e2] at this;omega
theorem Ok.getD (o:Ok t R){i:Nat}(hi:i<R.length):t.place.getD i 0=(R[i]).1:=by
 have h:t.place.toList[i]? = (R.map (·.1))[i]?:=by rw [o.place]
 have hs:i<t.place.size:=by rw [o.size];exact hi
 simp [hi,hs] at h
 simp [WY,hs,h]
theorem Ok.sorted (o:Ok t R):t.place.toList.Pairwise (·<·):=by rw [o.place];exact o.rise
theorem Jn (j:Nat):a2I #[] j=false:=by
 unfold a2I
 simp
theorem Ok.live (o:Ok t R){j:Nat}(h:j∈R.map (·.1)):∃ i r,t.slot j=.live i/\R[i]? = some r/\r.1=j:=by
 obtain ⟨r,hr,e⟩:=UR.mp h
 obtain ⟨i,hi,ei⟩:=XM hr
 have b:=Jm o.sorted j
 have hp:t.place.getD i 0=j:=by rw [o.getD hi,ei];exact e
 have hs:i<t.place.size:=by rw [o.size];exact hi
 have e2:Yt t.place j=i:=by
  rcases Yc (Yt t.place j) i with z|z|z
  ·have h1:=b.2.2 _ (UJ _) (by omega)
   have h2:=Ba o.sorted _ _ z hs
   omega
  ·exact z
  ·have:=b.2.1 i z;omega
 refine ⟨i,r,?_,by rw [<- ei];exact UW hi,e⟩
 unfold a2q
 dsimp only
 rw [e2,if_pos]
 have:t.place[i]? = some j:=by
  rw [XG hs]
  simpa [WY,hs] using hp
 rw [this]
 exact beq_self_eq_true _
theorem Ok.empty (o:Ok t R){j:Nat}(h:j∉R.map (·.1)):t.slot j=.empty:=by
 unfold a2q
 dsimp only
 rw [if_neg,o.dum,Jn]
 ·rfl
 ·intro q
  rw [beq_iff_eq] at q
  apply h
  rw [<- o.place]
  exact Array.mem_toList_iff.mpr (Array.mem_of_getElem? q)
theorem Bb (m b:Nat):∀ k,(cD m b k).dummy=none
 | 0=>rfl
 | k+1=>by
  show (lT m (cD m b k)).dummy=none
  unfold lT
  split<;>exact Bb m b k
theorem Ok.go (o:Ok t R)(a0U:Nat->Int)(hh:∀ i r,R[i]? = some r->a0U i=r.2.1){h:Int}{K:Nat}(hK:(cD t.mask (bits h) K).j∉R.map (·.1))(hT:∀ k',k'<K->(cD t.mask (bits h) k').j∈R.map (·.1)) :
  ∀ (f k:Nat),k<=K->K<k+f->
   (Ym t a0U h f (cD t.mask (bits h) k)=some (.empty (cD t.mask (bits h) K).j none)/\∀ k' r,k<=k'->k'<K->r∈R->r.1=(cD t.mask (bits h) k').j->r.2.1≠h) \/
   ∃ k' i r,k<=k'/\k'<K/\R[i]? = some r/\r.1=(cD t.mask (bits h) k').j/\r.2.1=h/\Ym t a0U h f (cD t.mask (bits h) k)=some (.candidate (cD t.mask (bits h) k').j i (cD t.mask (bits h) (k'+1))) /\
    ∀ k'' r',k<=k''->k''<k'->r'∈R->r'.1=(cD t.mask (bits h) k'').j->r'.2.1≠h
 | 0,k,h1,h2=>by omega
 | f+1,k,h1,h2=>by
  rcases Xg k K with z|z
  ·obtain ⟨i,r,e,er,ej⟩:=o.live (hT k z)
   have eg:Ym t a0U h (f+1) (cD t.mask (bits h) k)=if a0U i == h then some (.candidate (cD t.mask (bits h) k).j i (cD t.mask (bits h) (k+1))) else Ym t a0U h f (cD t.mask (bits h) (k+1)):=by
    show (match t.slot (cD t.mask (bits h) k).j with|.empty=>_|.dummy=>_|.live i=>_)=_
    rw [e]
    rfl
   rw [eg,hh i r er]
   have hrm:r∈R:=Ve er
   by_cases q:r.2.1=h
   ·refine .inr ⟨k,i,r,UJ _,z,er,ej,q,?_,fun k'' r' a b=>by omega⟩
    rw [q,if_pos (beq_self_eq_true _)]
   ·rw [if_neg (by simpa using q)]
    have here:∀ r',r'∈R->r'.1=(cD t.mask (bits h) k).j->r'.2.1≠h:=fun r' hr' e'=>by
     rw [o.uniq hr' hrm (e'.trans ej.symm)];exact q
    rcases Ok.go o a0U hh hK hT f (k+1) z (by omega) with ⟨a,b⟩|⟨k',i',r',a1,a2,a3,a4,a5,a6,a7⟩
    ·refine .inl ⟨a,fun k' r' c1 c2 hr' e'=>?_⟩
     rcases Xg k k' with y|y
     ·exact b k' r' y c2 hr' e'
     ·have:k'=k:=by omega
      subst this;exact here r' hr' e'
    ·refine .inr ⟨k',i',r',by omega,a2,a3,a4,a5,a6,fun k'' r'' c1 c2 hr' e'=>?_⟩
     rcases Xg k k'' with y|y
     ·exact a7 k'' r'' y c2 hr' e'
     ·have:k''=k:=by omega
      subst this;exact here r'' hr' e'
  ·have:k=K:=by omega
   subst this
   refine .inl ⟨?_,fun k' r a b=>by omega⟩
   show (match t.slot (cD t.mask (bits h) k).j with|.empty=>_|.dummy=>_|.live i=>_)=_
   rw [o.empty hK]
   show some (Met.empty _ (cD t.mask (bits h) k).dummy)=_
   rw [Bb]
end
noncomputable def lv (m:Nat)(ow:Array (Option Nat)):List (Nat×Nat):=(Vv (m+1)).filterMap fun j=>(ow.getD j none).map (j,·)
theorem mem_lv {m:Nat}{ow:Array (Option Nat)}{j i:Nat}:(j,i)∈lv m ow↔j<=m/\ow.getD j none=some i:=by
 unfold lv
 rw [XW]
 constructor
 ·rintro ⟨a,ha,e⟩
  rw [UB] at e
  obtain ⟨b,e1,e2⟩:=e
  cases e2
  exact ⟨by simpa [a3k] using ha,e1⟩
 ·rintro ⟨h1,h2⟩
  exact ⟨j,by simpa [a3k] using h1,by rw [h2];rfl⟩
structure Ow (m:Nat)(ds:List Int)(ow:Array (Option Nat)):Prop where
 size:ow.size=m+1
 lt:∀ j i,ow.getD j none=some i->i<ds.length
 all:∀ i,i<ds.length->∃ j,ow.getD j none=some i
 inj:∀ j j' i,ow.getD j none=some i->ow.getD j' none=some i->j=j'
 road:∀ j i,ow.getD j none=some i->vB m ((lv m ow).map (·.1)) (bits (ds.getD i 0)) j
section
variable {m:Nat}{ds:List Int}{ow:Array (Option Nat)}
theorem Ow.le (o:Ow m ds ow){j i:Nat}(h:ow.getD j none=some i):j<=m:=by
 rcases Xg j ow.size with z|z
 ·rw [o.size] at z;omega
 ·simp [WY,XC.mpr z] at h
theorem Ow.taken (o:Ow m ds ow){j:Nat}(hj:j<=m):j∈(lv m ow).map (·.1)↔(ow.getD j (some 0)).isNone=false:=by
 have hs:j<ow.size:=by rw [o.size];omega
 have e:ow.getD j (some 0)=ow.getD j none:=by simp [WY,hs]
 rw [e]
 constructor
 ·intro q
  obtain ⟨⟨a,i⟩,q2,rfl⟩:=UR.mp q
  rw [(mem_lv.mp q2).2];rfl
 ·intro q
  cases z:ow.getD j none with
  | none=>rw [z] at q;cases q
  | some i=>exact UR.mpr ⟨(j,i),mem_lv.mpr ⟨hj,z⟩,rfl⟩
theorem Ow.free (o:Ow m ds ow){b:Nat}:∀ (f n k0:Nat),cD m b k0=hd m (lp m b n).1 (lp m b n).2->(∀ k',k'<k0->(cD m b k').j∈(lv m ow).map (·.1))->(∃ N,n<=N/\N<n+f/\(lp m b N).1∉(lv m ow).map (·.1))->
  ∃ j,ZF m ow f (lp m b n).1 (lp m b n).2=some j/\j<=m/\j∉(lv m ow).map (·.1)/\vB m ((lv m ow).map (·.1)) b j
 | 0,n,k0,_,_,⟨N,h1,h2,_⟩=>by omega
 | f+1,n,k0,hk,ht,⟨N,h1,h2,hN⟩=>by
  have hi:=Jl m b n
  have hre:runEnd m (lp m b n).1<=m:=by unfold runEnd;split<;>omega
  have hri:(lp m b n).1<=runEnd m (lp m b n).1:=by unfold runEnd;split<;>omega
  unfold ZF
  cases z:(Vv (runEnd m (lp m b n).1+1 - (lp m b n).1)).find? fun k=>(ow.getD ((lp m b n).1+k) (some 0)).isNone with
  | some r=>
   rw [List.find?_range_eq_some] at z
   obtain ⟨z1,z2,z3⟩:=z
   rw [VU] at z2
   refine ⟨(lp m b n).1+r,rfl,by omega,fun q=>?_,k0+r,by rw [pI hk r (by omega)],fun k' hk'=>?_⟩
   ·rw [o.taken (by omega)] at q
    rw [q] at z1;cases z1
   ·rcases Xg k' k0 with y|y
    ·exact ht k' y
    ·obtain ⟨d,rfl⟩:=a1r y
     rw [pI hk d (by omega)]
     show (lp m b n).1+d∈_
     rw [o.taken (by omega)]
     have:=z3 d (by omega)
     simpa using this
  | none=>
   rw [List.find?_range_eq_none] at z
   have tk:∀ r,r<runEnd m (lp m b n).1+1 - (lp m b n).1->(lp m b n).1+r∈(lv m ow).map (·.1):=fun r hr=>by
    rw [o.taken (by omega)]
    have:=z r hr
    simpa using this
   have ne:N≠n:=fun e=>hN (by rw [e];exact tk 0 (by omega))
   refine Ow.free o f (n+1) _ (Jk hk) (fun k' hk'=>?_) ⟨N,by omega,by omega,hN⟩
   rcases Xg k' k0 with y|y
   ·exact ht k' y
   ·obtain ⟨d,rfl⟩:=a1r y
    rw [pI hk d (by omega)]
    exact tk d (by omega)
end
theorem Ow.nil (m:Nat):Ow m [] (a0q (m+1) none):=by
 have e:∀ j,(a0q (m+1) (none:Option Nat)).getD j none=none:=fun j=>by
  simp [WY]
 have no:∀ {P:Prop}(j i:Nat),(a0q (m+1) (none:Option Nat)).getD j none=some i->P:=fun j i h=>by
  rw [e] at h;exact nomatch h
 exact ⟨by simp,fun j i h=>no j i h,fun i h=>absurd h (YA _),fun j j' i h _=>no j i h,fun j i h=>no j i h⟩
end Tb
end L3
namespace L3
open PySem
open PySem.SetTable (Probe Met Slot bits runEnd leap turns insertAt sizeAbove)
namespace Tb
section
variable {prog:Va}{w:Vu}{K:Type} [DecidableEq K] {knd:KeyKind prog w K}{A:Vh}{E:UC->UE->Prop}{s:UE}
theorem fits_of {t:Zi}{R:List m9}{es:Array (Int×UC)}(o:Ok t R)(he:es.toList=R.map (·.2)):t.fits es.size=true:=by
 have h1:es.size=R.length:=by simpa using congrArg Vq he
 have h2:=o.room
 unfold SetTable.fits SetTable.fill
 rw [o.size,h1,o.dum]
 simp;exact h2
end
section
variable {prog:Va}{w:Vu}{A:Vh}{E:UC->UE->Prop}{s:UE}
noncomputable abbrev El:=List Int×Addr
noncomputable def hashT (k:List Int):Int:=reduceHash (a4k (k.map hashInt))
noncomputable def Jo (p:El):Int×UC:=(hashT p.1,UP p.2)
noncomputable def Msk (m:Nat):Prop:=m=7\/m=31\/m=127\/m=511
theorem Msk.cov {m:Nat}(h:Msk m):A9 m=true:=by
 rcases h with rfl|rfl|rfl|rfl<;>decide +kernel
theorem Msk.odd {m:Nat}(h:Msk m):m % 2=1:=by
 rcases h with rfl|rfl|rfl|rfl<;>rfl
noncomputable def vD (w:Vu):Bool:=w.params.followText "set-order"
noncomputable def Bc (led:Bool)(L:List El)(o:Wf):Prop:=∃ es ep t R,o.ExactSet/\o.data=.set es ep t/\es.toList=R.map (·.2)/\Ok t R/\es.toList.Perm (L.map Jo)/\(L.map (·.1)).Nodup/\Msk t.mask/\L.length * 5<t.mask * 3/\t.plain=true/\t.led=led
noncomputable def SObj (L:List El)(o:Wf):Prop:=∃ led,Bc led L o
noncomputable def Aj (prog:Va)(w:Vu)(h:VL)(a:Addr)(L:List El):Prop:=∃ o,h.get? a=some o/\Bc (!vD w) L o/\∀ p∈L,IsTupleKey (WL prog w) h p.1 p.2
end
end Tb
end L3
namespace L3
open PySem
namespace Tb
noncomputable def Jp (w:Vu)(t:Zi):Nat->Nat
 | 0=>0
 | i+1=>if vD w then 0 else t.place.getD i 0+1
section
variable {prog:Va}{w:Vu}{A:Vh}{E:UC->UE->Prop}{s:UE}
noncomputable def SIt (w:Vu)(h:VL)(I a:Addr)(t:Zi)(i n ep:Nat):Prop:=∃ o,h.get? I=some o/\o.cls=.type "set_iterator"/\o.data=.fields #[XY (Jp w t i),XY i,.ref a,XY n,XY ep]
theorem SIt.ty {I a:Addr}{t:Zi}{i n ep:Nat}(x:SIt w s.heap I a t i n ep):s.TypeIs (.ref I) "set_iterator":=let ⟨o,ho,hc,_⟩:=x;⟨o,ho,hc⟩
structure SAt (w:Vu)(h:VL)(a:Addr)(es:Array (Int×UC))(ep:Nat)(t:Zi)(R:List m9):Prop where
 at_:∃ o,h.get? a=some o/\o.cls=.type "set"/\o.data=.set es ep t
 he:es.toList=R.map (·.2)
 ok:Ok t R
 pl:t.plain=true
 led:t.led = !vD w
theorem SAt.ty {a:Addr}{es:Array (Int×UC)}{ep:Nat}{t:Zi}{R:List m9}(x:SAt w s.heap a es ep t R):s.TypeIs (.ref a) "set":=let ⟨o,ho,hc,_⟩:=x.at_;⟨o,ho,hc⟩
end
end Tb
end L3
namespace L3
open PySem L2
inductive D where
 | non|bl (b:Bool)|int (i:Int)|str (x:Str)|tup (xs:List D)|rol (xs:List D)|loc (a:Nat)|ty (n:String)
 deriving Inhabited
inductive C where
 | lst (xs:List D)
 | dK (kvs:List (bD×D))
 | st (ks:List (List Int))
 | dT (kvs:List (List Int×D))
 | dF (kvs:List (List Int×D))
 deriving Inhabited
noncomputable abbrev Hm:=List C
noncomputable abbrev aL:=List (Option D)
noncomputable abbrev ME:=aL->Hm->Option (D×Hm)
noncomputable abbrev MT:=aL->Hm->Option (Bool×Hm)
noncomputable abbrev MA:=aL->Hm->Option (List D×Hm)
inductive Fl where
 | nx|rt (d:D)|bk|ct
noncomputable abbrev MS:=aL->Hm->Option (Fl×aL×Hm)
noncomputable abbrev MF:=List D->Hm->Option (D×Hm)
noncomputable def RoL (K:Ux)(H:Hp)(p:Addr)(xs:List V):Prop:=
 (∃ o,H p=some (.frz o (.lst xs))) \/
  ∃ (o:Wf)(its:Array UC)(n:Nat),K.lookup p=some o/\o.cls=.type "list"/\o.dict=none/\o.data=.seq its n/\its.size<=UM/\Vals xs its.toList
theorem RoL.sq {K:Ux}{H:Hp}{p:Addr}{xs:List V}(h:RoL K H p xs):SqL K H p xs:=by
 rcases h with ⟨o,h⟩|h
 ·exact .inl (.inr ⟨o,h⟩)
 ·exact .inr h
mutual
inductive IsD (K:Ux)(π:Nat->Addr)(n:Nat)(H:Hp):V->D->Prop where
 | non:IsD K π n H .non .non
 | bl (b:Bool):IsD K π n H (.bl b) (.bl b)
 | int (i:Int):IsD K π n H (.int i) (.int i)
 | str (x:Str):IsD K π n H (.str x) (.str x)
 | tup {p:Addr}{vs:List V}{ds:List D}(h:SqT K H p vs)(t:IsDs K π n H vs ds):IsD K π n H (.ref p) (.tup ds)
 | rol {p:Addr}{vs:List V}{ds:List D}(h:RoL K H p vs)(t:IsDs K π n H vs ds):IsD K π n H (.ref p) (.rol ds)
 | loc {a:Nat}(h:a<n):IsD K π n H (.ref (π a)) (.loc a)
 | ty (x:String):IsD K π n H (.ty x) (.ty x)
inductive IsDs (K:Ux)(π:Nat->Addr)(n:Nat)(H:Hp):List V->List D->Prop where
 | nil:IsDs K π n H [] []
 | cons {v:V}{d:D}{vs:List V}{ds:List D}(h:IsD K π n H v d)(t:IsDs K π n H vs ds):IsDs K π n H (v::vs) (d::ds)
end
structure Ext (π:Nat->Addr)(n:Nat)(H:Hp)(π':Nat->Addr)(n':Nat)(H':Hp):Prop where
 le:n<=n'
 pi:∀ a,a<n->π' a=π a
 tup:∀ p vs,H p=some (.tup vs)->H' p=some (.tup vs)
 frz:∀ p o u,H p=some (.frz o u)->H' p=some (.frz o u)
structure Ext0 (π:Nat->Addr)(n:Nat)(H:Hp)(π':Nat->Addr)(n':Nat)(H':Hp):Prop where
 le:n<=n'
 pi:∀ a,a<n->π' a=π a
 tup:∀ p vs,H p=some (.tup vs)->H' p=some (.tup vs)
 frz:∀ p o u,(∀ φ,u≠HO.ext φ)->H p=some (.frz o u)->H' p=some (.frz o u)
section
variable {K:Ux}{π π' π2:Nat->Addr}{n n' n2:Nat}{H H' H2:Hp}
theorem Ext.weak (e:Ext π n H π' n' H'):Ext0 π n H π' n' H':=⟨e.le,e.pi,e.tup,fun p o u _ h=>e.frz p o u h⟩
theorem Ext.refl:Ext π n H π n H:=⟨UJ _,fun _ _=>rfl,fun _ _ h=>h,fun _ _ _ h=>h⟩
theorem Ext.trans (a:Ext π n H π' n' H')(b:Ext π' n' H' π2 n2 H2):Ext π n H π2 n2 H2:=
 ⟨VG a.le b.le,fun i h=>(b.pi i (Vg h a.le)).trans (a.pi i h),fun p vs h=>b.tup p vs (a.tup p vs h),fun p o u h=>b.frz p o u (a.frz p o u h)⟩
theorem Ext0.sqT (e:Ext0 π n H π' n' H'){p:Addr}{vs:List V}(h:SqT K H p vs):SqT K H' p vs:=by
 rcases h with h|h
 ·rcases h with h|⟨o,h⟩
  ·exact .inl (.inl (e.tup _ _ h))
  ·exact .inl (.inr ⟨o,e.frz _ _ _ (fun _ z=>nomatch z) h⟩)
 ·exact .inr h
theorem Ext.sqT (e:Ext π n H π' n' H'){p:Addr}{vs:List V}(h:SqT K H p vs):SqT K H' p vs:=e.weak.sqT h
theorem Ext0.roL (e:Ext0 π n H π' n' H'){p:Addr}{vs:List V}(h:RoL K H p vs):RoL K H' p vs:=by
 rcases h with ⟨o,h⟩|h
 ·exact .inl ⟨o,e.frz _ _ _ (fun _ z=>nomatch z) h⟩
 ·exact .inr h
theorem Ext.roL (e:Ext π n H π' n' H'){p:Addr}{vs:List V}(h:RoL K H p vs):RoL K H' p vs:=e.weak.roL h
mutual
theorem IsD.mono0 {v:V}{d:D}(e:Ext0 π n H π' n' H'):IsD K π n H v d->IsD K π' n' H' v d
 | .non=>.non
 | .bl b=>.bl b
 | .int i=>.int i
 | .str x=>.str x
 | .ty x=>.ty x
 | .tup h t=>.tup (e.sqT h) (IsDs.mono0 e t)
 | .rol h t=>.rol (e.roL h) (IsDs.mono0 e t)
 | .loc h=>by
  rw [<- e.pi _ h]
  exact .loc (Vg h e.le)
theorem IsDs.mono0 {vs:List V}{ds:List D}(e:Ext0 π n H π' n' H'):IsDs K π n H vs ds->IsDs K π' n' H' vs ds
 | .nil=>.nil
 | .cons h t=>.cons (IsD.mono0 e h) (IsDs.mono0 e t)
end
theorem IsD.mono {v:V}{d:D}(e:Ext π n H π' n' H')(h:IsD K π n H v d):IsD K π' n' H' v d:=h.mono0 e.weak
theorem IsDs.mono {vs:List V}{ds:List D}(e:Ext π n H π' n' H')(h:IsDs K π n H vs ds):IsDs K π' n' H' vs ds:=h.mono0 e.weak
theorem IsDs.length {vs:List V}{ds:List D}(h:IsDs K π n H vs ds):vs.length=ds.length:=by
 induction ds generalizing vs with
 | nil=>cases h;rfl
 | cons d ds ih=>
  cases h with
  | cons h t=>rw [Vm,Vm,ih t]
theorem IsDs.get {vs:List V}{ds:List D}(h:IsDs K π n H vs ds){i:Nat}{d:D}(e:ds[i]? = some d):∃ v,vs[i]? = some v/\IsD K π n H v d:=by
 induction ds generalizing vs i with
 | nil=>simp at e
 | cons d' ds ih=>
  cases h with
  | cons h t=>
   cases i with
   | zero=>
    simp at e
    subst e
    exact ⟨_,rfl,h⟩
   | succ i=>
    obtain ⟨v,h1,h2⟩:=ih t (by simpa using e)
    exact ⟨v,by simpa using h1,h2⟩
theorem IsDs.append {vs ws:List V}{ds es:List D}(h:IsDs K π n H vs ds)(h2:IsDs K π n H ws es):IsDs K π n H (vs++ws) (ds++es):=by
 induction ds generalizing vs with
 | nil=>cases h;exact h2
 | cons d ds ih=>
  cases h with
  | cons h t=>exact .cons h (ih t)
theorem IsDs.drop {vs:List V}{ds:List D}(h:IsDs K π n H vs ds)(k:Nat):IsDs K π n H (vs.drop k) (ds.drop k):=by
 induction ds generalizing vs k with
 | nil=>cases h;simpa using IsDs.nil
 | cons d ds ih=>
  cases h with
  | cons h t=>
   cases k with
   | zero=>exact .cons h t
   | succ k=>exact ih t k
theorem IsDs.take {vs:List V}{ds:List D}(h:IsDs K π n H vs ds)(k:Nat):IsDs K π n H (vs.take k) (ds.take k):=by
 induction ds generalizing vs k with
 | nil=>cases h;simpa using IsDs.nil
 | cons d ds ih=>
  cases h with
  | cons h t=>
   cases k with
   | zero=>exact .nil
   | succ k=>exact .cons h (ih t k)
theorem IsDs.atI {vs:List V}{ds:List D}(h:IsDs K π n H vs ds){i:Int}{d:D}(e:L2.atI ds i=some d):∃ v,L2.atI vs i=some v/\IsD K π n H v d:=by
 unfold L2.atI at e ⊢
 rw [h.length]
 cases q:jT ds.length i with
 | none=>rw [q] at e;cases e
 | some j=>
  rw [q] at e
  exact h.get e
end
noncomputable def rP (p:Addr)(L:List Tb.El):HO:=.ext fun h=>∃ o,h.get? p=some o/\Tb.SObj L o
noncomputable def vE (p:List Int×Addr×V)(w:UC):VM:=⟨Tb.hashT p.1,.ref p.2.1,w⟩
noncomputable def aO (a:Addr)(ps:List (List Int×Addr×V)):HO:=.ext fun h=>∃ ws:List UC,Vals (ps.map (·.2.2)) ws/\(a == VO)=false/\ps.length<=UM /\
 ∃ o es ep,h.get? a=some o/\o.ExactDict/\o.data=.dict es ep/\es.toList=ZV vE ps ws/\(ps.map (·.1)).Nodup
structure Rp (K:Ux)(π:Nat->Addr)(H:Hp)(μ:Hm):Prop where
 inj:∀ a b,a<μ.length->b<μ.length->π a=π b->a=b
 has:∀ a,a<μ.length->(H (π a)).isSome=true
 lst:∀ a xs,μ[a]? = some (.lst xs)->∃ vs,H (π a)=some (.lst vs)/\IsDs K π μ.length H vs xs
 dK:∀ a kvs,μ[a]? = some (.dK kvs)->∃ vs,H (π a)=some (.dK vs)/\vs.map (·.1)=kvs.map (·.1)/\IsDs K π μ.length H (vs.map (·.2)) (kvs.map (·.2))
 st:∀ a ks,μ[a]? = some (.st ks)->∃ L:List Tb.El,H (π a)=some (rP (π a) L)/\L.map (·.1)=ks/\IsDs K π μ.length H (L.map fun p=>V.ref p.2) (ks.map fun k=>D.tup (k.map D.int))
 dT:∀ a kvs,μ[a]? = some (.dT kvs)->∃ ps:List (List Int×Addr×V),H (π a)=some (aO (π a) ps)/\ps.map (·.1)=kvs.map (·.1)/\IsDs K π μ.length H (ps.map fun p=>V.ref p.2.1) (kvs.map fun k=>D.tup (k.1.map D.int))/\IsDs K π μ.length H (ps.map (·.2.2)) (kvs.map (·.2))
 dF:∀ a kvs,μ[a]? = some (.dF kvs)->∃ (ob:Wf)(ps:List (List Int×Addr×V)),H (π a)=some (.frz ob (aO (π a) ps))/\ps.map (·.1)=kvs.map (·.1)/\IsDs K π μ.length H (ps.map fun p=>V.ref p.2.1) (kvs.map fun k=>D.tup (k.1.map D.int))/\IsDs K π μ.length H (ps.map (·.2.2)) (kvs.map (·.2))
structure En (K:Ux)(π:Nat->Addr)(n:Nat)(H:Hp)(σ:St)(ρ:aL):Prop where
 len:σ.length=ρ.length
 get:∀ (i:Nat)(d:D),ρ[i]? = some (some d)->∃ v,σ[i]? = some (some v)/\IsD K π n H v d
section
variable {K:Ux}{π π' π2:Nat->Addr}{n n' n2:Nat}{H H' H2:Hp}{μ μ':Hm}{σ:St}{ρ:aL}
theorem En.mono (E:En K π n H σ ρ)(e:Ext π n H π' n' H'):En K π' n' H' σ ρ:=
 ⟨E.len,fun i d h=>let ⟨v,h1,h2⟩:=E.get i d h;⟨v,h1,h2.mono e⟩⟩
theorem En.set (E:En K π n H σ ρ){v:V}{d:D}(h:IsD K π n H v d)(i:Nat):En K π n H (σ.set i (some v)) (ρ.set i (some d)):=by
 refine ⟨by rw [Wg,Wg];exact E.len,fun j d' e=>?_⟩
 rw [a2E] at e ⊢
 by_cases hij:i=j
 ·subst hij
  rw [if_pos rfl] at e ⊢
  rw [E.len]
  by_cases hl:i<ρ.length
  ·rw [if_pos hl] at e ⊢
   cases e
   exact ⟨v,rfl,h⟩
  ·rw [if_neg hl] at e
   cases e
 ·rw [if_neg hij] at e ⊢
  exact E.get j d' e
theorem Rp.ne {p:Addr}(R:Rp K π H μ)(h:H p=none){a:Nat}(ha:a<μ.length):π a≠p:=fun e=>by
 have:=R.has a ha
 rw [e,h] at this
 cases this
theorem Rp.fresh {p:Addr}{o:HO}(R:Rp K π H μ)(h:H p=none):Ext π μ.length H π μ.length (aK H p o)/\Rp K π (aK H p o) μ:=by
 have keep:∀ b u,H b=some u->aK H p o b=some u:=fun b u e=>by
  rw [bE (eH e h)]
  exact e
 have e:Ext π μ.length H π μ.length (aK H p o):=⟨UJ _,fun _ _=>rfl,fun q vs e=>keep q _ e,fun q o u e=>keep q _ e⟩
 refine ⟨e,R.inj,fun a ha=>?_,fun a xs ha=>?_,fun a kvs ha=>?_,fun a ks ha=>?_
  ,fun a kvs ha=>?_
  ,fun a kvs ha=>?_
  ⟩
 ·rw [bE (R.ne h ha)]
  exact R.has a ha
 ·obtain ⟨vs,h1,h2⟩:=R.lst a xs ha
  exact ⟨vs,keep _ _ h1,h2.mono e⟩
 ·obtain ⟨vs,h1,h2,h3⟩:=R.dK a kvs ha
  exact ⟨vs,keep _ _ h1,h2,h3.mono e⟩
 ·obtain ⟨vs,h1,h2,h3⟩:=R.st a ks ha
  exact ⟨vs,keep _ _ h1,h2,h3.mono e⟩
 ·obtain ⟨vs,h1,h2,h3,h4⟩:=R.dT a kvs ha
  exact ⟨vs,keep _ _ h1,h2,h3.mono e,h4.mono e⟩
 ·obtain ⟨ob,vs,h1,h2,h3,h4⟩:=R.dF a kvs ha
  exact ⟨ob,vs,keep _ _ h1,h2,h3.mono e,h4.mono e⟩
noncomputable def vF (K:Ux)(π:Nat->Addr)(n:Nat)(H:Hp)(p:Addr):C->HO->Prop
 | .lst xs,.lst vs=>IsDs K π n H vs xs
 | .dK kvs,.dK vs=>vs.map (·.1)=kvs.map (·.1)/\IsDs K π n H (vs.map (·.2)) (kvs.map (·.2))
 | .st ks,o=>∃ L:List Tb.El,o=rP p L/\L.map (·.1)=ks/\IsDs K π n H (L.map fun p=>V.ref p.2) (ks.map fun k=>D.tup (k.map D.int))
 | .dT kvs,o=>∃ ps:List (List Int×Addr×V),o=aO p ps/\ps.map (·.1)=kvs.map (·.1)/\IsDs K π n H (ps.map fun p=>V.ref p.2.1) (kvs.map fun k=>D.tup (k.1.map D.int))/\IsDs K π n H (ps.map (·.2.2)) (kvs.map (·.2))
 | .dF kvs,o=>∃ (ob:Wf)(ps:List (List Int×Addr×V)),o=.frz ob (aO p ps)/\ps.map (·.1)=kvs.map (·.1)/\IsDs K π n H (ps.map fun p=>V.ref p.2.1) (kvs.map fun k=>D.tup (k.1.map D.int))/\IsDs K π n H (ps.map (·.2.2)) (kvs.map (·.2))
 | _,_=>False
noncomputable def gX (π:Nat->Addr)(n:Nat)(p:Addr):Nat->Addr:=fun a=>if a=n then p else π a
theorem Rp.alloc {p:Addr}{c:C}{o:HO}(R:Rp K π H μ)(h:H p=none)(hc:vF K π μ.length H p c o) :
  Ext π μ.length H (gX π μ.length p) (μ++[c]).length (aK H p o)/\Rp K (gX π μ.length p) (aK H p o) (μ++[c])/\gX π μ.length p μ.length=p:=by
 have hl:(μ++[c]).length=μ.length+1:=by simp
 have keep:∀ b u,H b=some u->aK H p o b=some u:=fun b u e=>by
  rw [bE (eH e h)]
  exact e
 have pn:gX π μ.length p μ.length=p:=if_pos rfl
 have po:∀ a,a<μ.length->gX π μ.length p a=π a:=fun a ha=>if_neg (UY ha)
 have e:Ext π μ.length H (gX π μ.length p) (μ++[c]).length (aK H p o):=⟨by rw [hl];exact Yr _,po,fun q vs e=>keep q _ e,fun q o u e=>keep q _ e⟩
 have split:∀ a,a<(μ++[c]).length->a<μ.length\/a=μ.length:=fun a ha=>by rw [hl] at ha;omega
 have get:∀ a,a<μ.length->(μ++[c])[a]? = μ[a]?:=fun a ha=>Vt ha
 have getn:(μ++[c])[μ.length]? = some c:=by simp
 refine ⟨e,⟨fun a b ha hb q=>?_,fun a ha=>?_,fun a xs ha=>?_,fun a kvs ha=>?_,fun a ks ha=>?_
  ,fun a kvs ha=>?_
  ,fun a kvs ha=>?_
  ⟩,pn⟩
 ·rcases split a ha with ha|rfl<;>rcases split b hb with hb|rfl
  ·rw [po a ha,po b hb] at q
   exact R.inj a b ha hb q
  ·rw [po a ha,pn] at q
   exact absurd q (R.ne h ha)
  ·rw [pn,po b hb] at q
   exact absurd q.symm (R.ne h hb)
  ·rfl
 ·rcases split a ha with ha|rfl
  ·rw [po a ha,bE (R.ne h ha)]
   exact R.has a ha
  ·rw [pn,cV]
   rfl
 ·have hlt:a<(μ++[c]).length:=(UA.mp ha).1
  rcases split a hlt with h1|rfl
  ·rw [get a h1] at ha
   obtain ⟨vs,h2,h3⟩:=R.lst a xs ha
   rw [po a h1]
   exact ⟨vs,keep _ _ h2,h3.mono e⟩
  ·rw [getn] at ha
   cases ha
   cases o with
   | lst vs=>
    rw [pn]
    exact ⟨vs,cV,IsDs.mono e hc⟩
   | _=>exact Wz hc
 ·have hlt:a<(μ++[c]).length:=(UA.mp ha).1
  rcases split a hlt with h1|rfl
  ·rw [get a h1] at ha
   obtain ⟨vs,h2,h3,h4⟩:=R.dK a kvs ha
   rw [po a h1]
   exact ⟨vs,keep _ _ h2,h3,h4.mono e⟩
  ·rw [getn] at ha
   cases ha
   cases o with
   | dK vs=>
    rw [pn]
    exact ⟨vs,cV,hc.1,IsDs.mono e hc.2⟩
   | _=>exact Wz hc
 ·have hlt:a<(μ++[c]).length:=(UA.mp ha).1
  rcases split a hlt with h1|rfl
  ·rw [get a h1] at ha
   obtain ⟨vs,h2,h3,h4⟩:=R.st a ks ha
   rw [po a h1]
   exact ⟨vs,keep _ _ h2,h3,h4.mono e⟩
  ·rw [getn] at ha
   cases ha
   obtain ⟨L,rfl,h3,h4⟩:=hc
   rw [pn]
   exact ⟨L,cV,h3,h4.mono e⟩
 ·have hlt:a<(μ++[c]).length:=(UA.mp ha).1
  rcases split a hlt with h1|rfl
  ·rw [get a h1] at ha
   obtain ⟨vs,h2,h3,h4,h5⟩:=R.dT a kvs ha
   rw [po a h1]
   exact ⟨vs,keep _ _ h2,h3,h4.mono e,h5.mono e⟩
  ·rw [getn] at ha
   cases ha
   obtain ⟨L,rfl,h3,h4,h5⟩:=hc
   rw [pn]
   exact ⟨L,cV,h3,h4.mono e,h5.mono e⟩
 ·have hlt:a<(μ++[c]).length:=(UA.mp ha).1
  rcases split a hlt with h1|rfl
  ·rw [get a h1] at ha
   obtain ⟨ob,vs,h2,h3,h4,h5⟩:=R.dF a kvs ha
   rw [po a h1]
   exact ⟨ob,vs,keep _ _ h2,h3,h4.mono e,h5.mono e⟩
  ·rw [getn] at ha
   cases ha
   obtain ⟨ob,L,rfl,h3,h4,h5⟩:=hc
   rw [pn]
   exact ⟨ob,L,cV,h3,h4.mono e,h5.mono e⟩
theorem Rp.put0 {a:Nat}{c:C}{o u:HO}(R:Rp K π H μ)(ha:a<μ.length)(ho:H (π a)=some u)(hu:(∃ vs,u=.lst vs)\/(∃ vs,u=.dK vs)\/(∃ φ,u=.ext φ)\/∃ ob φ,u=.frz ob (.ext φ))(hc:vF K π μ.length H (π a) c o) :
  Ext0 π μ.length H π (μ.set a c).length (aK H (π a) o)/\Rp K π (aK H (π a) o) (μ.set a c):=by
 have hl:(μ.set a c).length=μ.length:=Wg ..
 have e:Ext0 π μ.length H π (μ.set a c).length (aK H (π a) o):=by
  refine ⟨Zb hl.symm,fun _ _=>rfl,fun q vs z=>?_,fun q o' u' nx z=>?_⟩
  ·rw [bE]
   ·exact z
   ·intro e
    subst e
    rw [ho] at z
    rcases hu with ⟨w,rfl⟩|⟨w,rfl⟩|⟨w,rfl⟩|⟨ob,w,rfl⟩<;>cases z
  ·rw [bE]
   ·exact z
   ·intro e
    subst e
    rw [ho] at z
    rcases hu with ⟨w,rfl⟩|⟨w,rfl⟩|⟨w,rfl⟩|⟨ob,w,rfl⟩<;>cases z
    exact nx _ rfl
 have other:∀ b,b<μ.length->b≠a->aK H (π a) o (π b)=H (π b):=fun b hb hne=>bE fun q=>hne (R.inj b a hb ha q)
 refine ⟨e,⟨fun b b' hb hb'=>R.inj b b' (hl ▸ hb) (hl ▸ hb'),fun b hb=>?_,fun b xs hb=>?_,fun b kvs hb=>?_,fun b ks hb=>?_
  ,fun b kvs hb=>?_
  ,fun b kvs hb=>?_
  ⟩⟩
 ·by_cases h:b=a
  ·subst h
   rw [cV]
   rfl
  ·rw [other b (hl ▸ hb) h]
   exact R.has b (hl ▸ hb)
 ·have hlt:b<μ.length:=hl ▸ (UA.mp hb).1
  by_cases h:b=a
  ·subst h
   rw [VC hlt] at hb
   cases hb
   cases o with
   | lst vs=>exact ⟨vs,cV,IsDs.mono0 e hc⟩
   | _=>exact Wz hc
  ·rw [U1 (VH h)] at hb
   obtain ⟨vs,h2,h3⟩:=R.lst b xs hb
   exact ⟨vs,by rw [other b hlt h];exact h2,h3.mono0 e⟩
 ·have hlt:b<μ.length:=hl ▸ (UA.mp hb).1
  by_cases h:b=a
  ·subst h
   rw [VC hlt] at hb
   cases hb
   cases o with
   | dK vs=>exact ⟨vs,cV,hc.1,IsDs.mono0 e hc.2⟩
   | _=>exact Wz hc
  ·rw [U1 (VH h)] at hb
   obtain ⟨vs,h2,h3,h4⟩:=R.dK b kvs hb
   exact ⟨vs,by rw [other b hlt h];exact h2,h3,h4.mono0 e⟩
 ·have hlt:b<μ.length:=hl ▸ (UA.mp hb).1
  by_cases h:b=a
  ·subst h
   rw [VC hlt] at hb
   cases hb
   obtain ⟨L,rfl,h3,h4⟩:=hc
   exact ⟨L,cV,h3,h4.mono0 e⟩
  ·rw [U1 (VH h)] at hb
   obtain ⟨vs,h2,h3,h4⟩:=R.st b ks hb
   exact ⟨vs,by rw [other b hlt h];exact h2,h3,h4.mono0 e⟩
 ·have hlt:b<μ.length:=hl ▸ (UA.mp hb).1
  by_cases h:b=a
  ·subst h
   rw [VC hlt] at hb
   cases hb
   obtain ⟨L,rfl,h3,h4,h5⟩:=hc
   exact ⟨L,cV,h3,h4.mono0 e,h5.mono0 e⟩
  ·rw [U1 (VH h)] at hb
   obtain ⟨vs,h2,h3,h4,h5⟩:=R.dT b kvs hb
   exact ⟨vs,by rw [other b hlt h];exact h2,h3,h4.mono0 e,h5.mono0 e⟩
 ·have hlt:b<μ.length:=hl ▸ (UA.mp hb).1
  by_cases h:b=a
  ·subst h
   rw [VC hlt] at hb
   cases hb
   obtain ⟨ob,L,rfl,h3,h4,h5⟩:=hc
   exact ⟨ob,L,cV,h3,h4.mono0 e,h5.mono0 e⟩
  ·rw [U1 (VH h)] at hb
   obtain ⟨ob,vs,h2,h3,h4,h5⟩:=R.dF b kvs hb
   exact ⟨ob,vs,by rw [other b hlt h];exact h2,h3,h4.mono0 e,h5.mono0 e⟩
theorem Rp.put {a:Nat}{c:C}{o u:HO}(R:Rp K π H μ)(ha:a<μ.length)(ho:H (π a)=some u)(hu:(∃ vs,u=.lst vs)\/(∃ vs,u=.dK vs)\/∃ φ,u=.ext φ)(hc:vF K π μ.length H (π a) c o) :
  Ext π μ.length H π (μ.set a c).length (aK H (π a) o)/\Rp K π (aK H (π a) o) (μ.set a c):=by
 have hl:(μ.set a c).length=μ.length:=Wg ..
 have e:Ext π μ.length H π (μ.set a c).length (aK H (π a) o):=by
  refine ⟨Zb hl.symm,fun _ _=>rfl,fun q vs z=>?_,fun q o' u' z=>?_⟩
  ·rw [bE]
   ·exact z
   ·intro e
    subst e
    rw [ho] at z
    rcases hu with ⟨w,rfl⟩|⟨w,rfl⟩|⟨w,rfl⟩<;>cases z
  ·rw [bE]
   ·exact z
   ·intro e
    subst e
    rw [ho] at z
    rcases hu with ⟨w,rfl⟩|⟨w,rfl⟩|⟨w,rfl⟩<;>cases z
 exact ⟨e,(R.put0 ha ho (hu.imp_right fun h=>h.imp_right .inl) hc).2⟩
end
noncomputable def KC (K:Ux)(Q:VK)(π:Nat->Addr)(n:Nat)(H:Hp)(d:D)(μ':Hm):Prop:=
 ∀ π' v H',Ext π n H π' μ'.length H'->Rp K π' H' μ'->IsD K π' μ'.length H' v d->Q v H'
theorem KC.after {K:Ux}{Q:VK}{π π1:Nat->Addr}{n n1:Nat}{H H1:Hp}{d:D}{μ':Hm}(k:KC K Q π n H d μ')(e:Ext π n H π1 n1 H1):KC K Q π1 n1 H1 d μ':=
 fun π' v H' e' R i=>k π' v H' (e.trans e') R i
noncomputable def tM (K:Ux)(m:ME):TE:=fun σ H Q=>∃ π ρ μ d μ',Rp K π H μ/\En K π μ.length H σ ρ/\m ρ μ=some (d,μ')/\KC K Q π μ.length H d μ'
noncomputable def c6 (K:Ux)(m:MT):TT:=fun σ H Q=>∃ π ρ μ b μ',Rp K π H μ/\En K π μ.length H σ ρ/\m ρ μ=some (b,μ')/\∀ π' H',Ext π μ.length H π' μ'.length H'->Rp K π' H' μ'->Q b H'
noncomputable def eV (K:Ux)(m:MA):TA:=fun σ H Q=>∃ π ρ μ ds μ',Rp K π H μ/\En K π μ.length H σ ρ/\m ρ μ=some (ds,μ')/\∀ π' vs H',Ext π μ.length H π' μ'.length H'->Rp K π' H' μ'->IsDs K π' μ'.length H' vs ds->Q vs H'
noncomputable def lU (K:Ux)(E:Ends)(π:Nat->Addr)(n:Nat)(H:Hp)(fl:Fl)(ρ':aL)(μ':Hm):Prop:=
 match fl with
 | .nx=>∀ π' σ' H',Ext π n H π' μ'.length H'->Rp K π' H' μ'->En K π' μ'.length H' σ' ρ'->E.nx σ' H'
 | .bk=>∀ π' σ' H',Ext π n H π' μ'.length H'->Rp K π' H' μ'->En K π' μ'.length H' σ' ρ'->E.bk σ' H'
 | .ct=>∀ π' σ' H',Ext π n H π' μ'.length H'->Rp K π' H' μ'->En K π' μ'.length H' σ' ρ'->E.ct σ' H'
 | .rt d=>KC K E.rt π n H d μ'
noncomputable def dB (K:Ux)(m:MS):TS:=fun E σ H=>∃ π ρ μ fl ρ' μ',Rp K π H μ/\En K π μ.length H σ ρ/\m ρ μ=some (fl,ρ',μ')/\lU K E π μ.length H fl ρ' μ'
noncomputable def i9 (K:Ux)(k:Nat)(f:MF):Sp:=fun vs H Q _=>vs.length=k/\∃ π ds μ d μ',Rp K π H μ/\IsDs K π μ.length H vs ds/\f ds μ=some (d,μ')/\KC K Q π μ.length H d μ'
section
variable {X:Cx}{e a b c:UO}{t:TE}{m ma mb mc:ME}{pos:Wl}
theorem cO (h:PE X e t)(hw:∀ σ H Q,tM X.K m σ H Q->t σ H Q):PE X e (tM X.K m):=fun a5f s σ H Q I q=>h a5f s σ H Q I (hw σ H Q q)
theorem rQ {t:TT}{m:MT}(h:PT X e t)(hw:∀ σ H Q,c6 X.K m σ H Q->t σ H Q):PT X e (c6 X.K m):=fun a5f s σ H Q I q=>h a5f s σ H Q I (hw σ H Q q)
theorem Bd {t:TT}{m:MT}(h:PW X e t)(hw:∀ σ H Q,c6 X.K m σ H Q->t σ H Q):PW X e (c6 X.K m):=fun wh a5f s σ H Q I q=>h wh a5f s σ H Q I (hw σ H Q q)
theorem Be {es:List UO}{t:TA}{m:MA}(h:PA X es t)(hw:∀ σ H Q,eV X.K m σ H Q->t σ H Q):PA X es (eV X.K m):=fun p a5f s σ H Q I q=>h p a5f s σ H Q I (hw σ H Q q)
theorem iN {st:Stmt}{t:TS}{m:MS}(h:PS X st t)(hw:∀ E σ H,dB X.K m E σ H->t E σ H):PS X st (dB X.K m):=fun a5f s σ H E I q=>h a5f s σ H E I (hw E σ H q)
theorem Bf {st:List Stmt}{t:TS}{m:MS}(h:PSs X st t)(hw:∀ E σ H,dB X.K m E σ H->t E σ H):PSs X st (dB X.K m):=fun a5f s σ H E I q=>h a5f s σ H E I (hw E σ H q)
noncomputable def aA (i:Nat):ME:=fun ρ μ=>match ρ[i]? with|some (some d)=>some (d,μ)|_=>none
noncomputable def mC (d:D):ME:=fun _ μ=>some (d,μ)
theorem Jq {i:Nat}{ρ:aL}{μ μ':Hm}{d:D}(h:aA i ρ μ=some (d,μ')):ρ[i]? = some (some d)/\μ'=μ:=by
 unfold aA at h
 split at h
 ·rename_i d' e
  cases h
  exact ⟨e,rfl⟩
 ·cases h
theorem Jr {x:Str}(i:Nat)(h:PE X (.Name x pos) (Ah i)):PE X (.Name x pos) (tM X.K (aA i)):=cO h (by
 rintro σ H Q ⟨π,ρ,μ,d,μ',R,E,hm,k⟩
 obtain ⟨h1,rfl⟩:=Jq hm
 obtain ⟨v,h2,h3⟩:=E.get i d h1
 exact ⟨v,h2,k π v H .refl R h3⟩)
theorem nA {v:V}{d:D}(h:PE X e (tC v))(hd:∀ π n H,IsD X.K π n H v d):PE X e (tM X.K (mC d)):=cO h (by
 rintro σ H Q ⟨π,ρ,μ,d',μ',R,E,hm,k⟩
 cases hm
 exact k π v H .refl R (hd _ _ _))
theorem Js {i:Int}{j:Nat}:PE X (.Constant (.int i) j pos) (tM X.K (mC (.int i))):=nA GG fun _ _ _=>.int i
theorem Jt {i:Bool}{j:Nat}:PE X (.Constant (.bool i) j pos) (tM X.K (mC (.bl i))):=nA GH fun _ _ _=>.bl i
theorem Ju {i:Str}{j:Nat}:PE X (.Constant (.str i) j pos) (tM X.K (mC (.str i))):=nA GK fun _ _ _=>.str i
theorem Jv {j:Nat}:PE X (.Constant .none j pos) (tM X.K (mC .non)):=nA GJ fun _ _ _=>.non
noncomputable def aB (f:D->D->Hm->Option (D×Hm))(a b:ME):ME:=fun ρ μ=>(a ρ μ).bind fun p=>(b ρ p.2).bind fun q=>f p.1 q.1 q.2
noncomputable def cP (K:Ux)(f:D->D->Hm->Option (D×Hm))(r:R2):Prop:=
 ∀ π H μ x y d μ' vx vy Q,Rp K π H μ->IsD K π μ.length H vx x->IsD K π μ.length H vy y->f x y μ=some (d,μ')->KC K Q π μ.length H d μ'->r vx vy H Q
theorem pJ {f:D->D->Hm->Option (D×Hm)}{r:R2}{K:Ux}(hf:cP K f r):∀ σ H Q,tM K (aB f ma mb) σ H Q->pG r (tM K ma) (tM K mb) σ H Q:=by
 rintro σ H Q ⟨π,ρ,μ,d,μ',R,E,hm,k⟩
 obtain ⟨⟨x,μ1⟩,h1,hm⟩:=Uw.mp hm
 obtain ⟨⟨y,μ2⟩,h2,hm⟩:=Uw.mp hm
 exact ⟨π,ρ,μ,x,μ1,R,E,h1,fun π1 v1 H1 e1 R1 i1=>⟨π1,ρ,μ1,y,μ2,R1,E.mono e1,h2,fun π2 v2 H2 e2 R2 i2=>hf π2 H2 μ2 x y d μ' v1 v2 Q R2 (i1.mono e2) i2 hm (k.after (e1.trans e2))⟩⟩
theorem Jw {op:a1E}{r:R2}{f:D->D->Hm->Option (D×Hm)}(ho:OpR X (XO op) r)(hf:cP X.K f r)(ha:PE X a (tM X.K ma))(hb:PE X b (tM X.K mb)):PE X (.BinOp a op b pos) (tM X.K (aB f ma mb)):=
 cO (HK ho ha hb) (pJ hf)
theorem eC {op:X3}{r:R2}{f:D->D->Hm->Option (D×Hm)}(ho:OpR X (VD op) r)(hf:cP X.K f r)(ha:PE X a (tM X.K ma))(hb:PE X b (tM X.K mb))(hm:Xw op b=false):PE X (.Compare a [op] [b] pos) (tM X.K (aB f ma mb)):=
 cO (HS ho ha hb hm) (pJ hf)
noncomputable def aR (m:ME):MT:=fun ρ μ=>(m ρ μ).bind fun p=>match p.1 with|.bl b=>some (b,p.2)|_=>none
theorem Bg {K:Ux}:∀ σ H Q,c6 K (aR m) σ H Q->tM K m σ H fun x H'=>∃ k,x=.bl k/\Q k H':=by
 rintro σ H Q ⟨π,ρ,μ,b,μ',R,E,hm,k⟩
 obtain ⟨⟨x,μ1⟩,h1,hm⟩:=Uw.mp hm
 cases x with
 | bl c=>
  cases hm
  refine ⟨π,ρ,μ,_,_,R,E,h1,fun π' v H' e' R' i'=>?_⟩
  cases i'
  exact ⟨_,rfl,k π' H' e' R'⟩
 | _=>cases hm
theorem eD {op:X3}{r:R2}{f:D->D->Hm->Option (D×Hm)}(ho:OpR X (VD op) r)(hf:cP X.K f r)(ha:PE X a (tM X.K ma))(hb:PE X b (tM X.K mb))(hm:Xw op b=false):PT X (.Compare a [op] [b] pos) (c6 X.K (aR (aB f ma mb))):=
 rQ (HU ho ha hb hm) fun σ H Q h=>pJ hf σ H _ (Bg σ H Q h)
end
end L3
namespace L3
open PySem L2
section
variable {X:Cx}{e a b c:UO}{m ma mb mc:ME}{pos:Wl}{mt mu:MT}{bO:List UO}
noncomputable def iO (a b:MT):MT:=fun ρ μ=>(a ρ μ).bind fun p=>match p.1 with|true=>b ρ p.2|false=>some (false,p.2)
noncomputable def eE (a b:MT):MT:=fun ρ μ=>(a ρ μ).bind fun p=>match p.1 with|true=>some (true,p.2)|false=>b ρ p.2
noncomputable def fW (a:MT):MT:=fun ρ μ=>(a ρ μ).map fun p=>(!p.1,p.2)
theorem Jx (ha:PT X a (c6 X.K mt)):PW X (.BoolOp .And [a] pos) (c6 X.K mt):=GR ha
theorem Jy (ha:PT X a (c6 X.K mt)):PW X (.BoolOp .Or [a] pos) (c6 X.K mt):=GS ha
theorem Jz (ha:PT X a (c6 X.K mt))(hb:PW X (.BoolOp .And (b::bO) pos) (c6 X.K mu)):PW X (.BoolOp .And (a::b::bO) pos) (c6 X.K (iO mt mu)):=Bd (GU ha hb) (by
 rintro σ H Q ⟨π,ρ,μ,d,μ',R,E,hm,k⟩
 obtain ⟨⟨x,μ1⟩,h1,hm⟩:=Uw.mp hm
 refine ⟨π,ρ,μ,x,μ1,R,E,h1,fun π1 H1 e1 R1=>?_⟩
 cases x with
 | true=>
  refine kN ?_
  exact ⟨π1,ρ,μ1,d,μ',R1,E.mono e1,hm,fun π2 H2 e2 R2=>k π2 H2 (e1.trans e2) R2⟩
 | false=>
  refine kM ?_
  cases hm
  exact k π1 H1 e1 R1)
theorem JA (ha:PT X a (c6 X.K mt))(hb:PW X (.BoolOp .Or (b::bO) pos) (c6 X.K mu)):PW X (.BoolOp .Or (a::b::bO) pos) (c6 X.K (eE mt mu)):=Bd (GV ha hb) (by
 rintro σ H Q ⟨π,ρ,μ,d,μ',R,E,hm,k⟩
 obtain ⟨⟨x,μ1⟩,h1,hm⟩:=Uw.mp hm
 refine ⟨π,ρ,μ,x,μ1,R,E,h1,fun π1 H1 e1 R1=>?_⟩
 cases x with
 | true=>
  refine kN ?_
  cases hm
  exact k π1 H1 e1 R1
 | false=>
  refine kM ?_
  exact ⟨π1,ρ,μ1,d,μ',R1,E.mono e1,hm,fun π2 H2 e2 R2=>k π2 H2 (e1.trans e2) R2⟩)
theorem JB (ha:PT X a (c6 X.K mt)):PT X (.UnaryOp .Not a pos) (c6 X.K (fW mt)):=rQ (GW ha) (by
 rintro σ H Q ⟨π,ρ,μ,d,μ',R,E,hm,k⟩
 obtain ⟨⟨x,μ1⟩,h1,hm⟩:=UB.mp hm
 cases hm
 exact ⟨π,ρ,μ,x,μ1,R,E,h1,fun π1 H1 e1 R1=>k π1 H1 e1 R1⟩)
noncomputable def fX (a b:ME):ME:=fun ρ μ=>(a ρ μ).bind fun p=>match p.1 with|.bl true=>b ρ p.2|.bl false=>some (.bl false,p.2)|_=>none
noncomputable def vG (a b:ME):ME:=fun ρ μ=>(a ρ μ).bind fun p=>match p.1 with|.bl true=>some (.bl true,p.2)|.bl false=>b ρ p.2|_=>none
noncomputable def nB (a:ME):ME:=fun ρ μ=>(a ρ μ).bind fun p=>match p.1 with|.bl b=>some (.bl (!b),p.2)|_=>none
theorem JC {op:BoolOp}(h:PE X a (tM X.K m)):PE X (.BoolOp op [a] pos) (tM X.K m):=G1 h
theorem JD (ha:PE X a (tM X.K ma))(hb:PE X (.BoolOp .And (b::bO) pos) (tM X.K mb)):PE X (.BoolOp .And (a::b::bO) pos) (tM X.K (fX ma mb)):=cO (G6 ha hb) (by
 rintro σ H Q ⟨π,ρ,μ,d,μ',R,E,hm,k⟩
 obtain ⟨⟨x,μ1⟩,h1,hm⟩:=Uw.mp hm
 cases x with
 | bl c=>
  refine ⟨π,ρ,μ,.bl c,μ1,R,E,h1,fun π1 v1 H1 e1 R1 i1=>?_⟩
  cases i1
  refine ⟨c,rfl,?_⟩
  cases c with
  | true=>
   refine kN ?_
   exact ⟨π1,ρ,μ1,d,μ',R1,E.mono e1,hm,k.after e1⟩
  | false=>
   refine kM ?_
   cases hm
   exact k π1 _ H1 e1 R1 (.bl false)
 | _=>cases hm)
theorem JE (ha:PE X a (tM X.K ma))(hb:PE X (.BoolOp .Or (b::bO) pos) (tM X.K mb)):PE X (.BoolOp .Or (a::b::bO) pos) (tM X.K (vG ma mb)):=cO (G7 ha hb) (by
 rintro σ H Q ⟨π,ρ,μ,d,μ',R,E,hm,k⟩
 obtain ⟨⟨x,μ1⟩,h1,hm⟩:=Uw.mp hm
 cases x with
 | bl c=>
  refine ⟨π,ρ,μ,.bl c,μ1,R,E,h1,fun π1 v1 H1 e1 R1 i1=>?_⟩
  cases i1
  refine ⟨c,rfl,?_⟩
  cases c with
  | true=>
   refine kN ?_
   cases hm
   exact k π1 _ H1 e1 R1 (.bl true)
  | false=>
   refine kM ?_
   exact ⟨π1,ρ,μ1,d,μ',R1,E.mono e1,hm,k.after e1⟩
 | _=>cases hm)
theorem JF (ha:PE X a (tM X.K ma)):PE X (.UnaryOp .Not a pos) (tM X.K (nB ma)):=cO (G8 ha) (by
 rintro σ H Q ⟨π,ρ,μ,d,μ',R,E,hm,k⟩
 obtain ⟨⟨x,μ1⟩,h1,hm⟩:=Uw.mp hm
 cases x with
 | bl c=>
  cases hm
  refine ⟨π,ρ,μ,_,_,R,E,h1,fun π1 v1 H1 e1 R1 i1=>?_⟩
  cases i1
  exact ⟨_,rfl,k π1 _ H1 e1 R1 (.bl _)⟩
 | _=>cases hm)
noncomputable def jA (t:MT)(a b:ME):ME:=fun ρ μ=>(t ρ μ).bind fun p=>match p.1 with|true=>a ρ p.2|false=>b ρ p.2
theorem JG (hc:PT X c (c6 X.K mt))(ha:PE X a (tM X.K ma))(hb:PE X b (tM X.K mb)):PE X (.IfExp c a b pos) (tM X.K (jA mt ma mb)):=cO (Ha hc ha hb) (by
 rintro σ H Q ⟨π,ρ,μ,d,μ',R,E,hm,k⟩
 obtain ⟨⟨x,μ1⟩,h1,hm⟩:=Uw.mp hm
 refine ⟨π,ρ,μ,x,μ1,R,E,h1,fun π1 H1 e1 R1=>?_⟩
 cases x with
 | true=>
  refine kN ?_
  exact ⟨π1,ρ,μ1,d,μ',R1,E.mono e1,hm,k.after e1⟩
 | false=>
  refine kM ?_
  exact ⟨π1,ρ,μ1,d,μ',R1,E.mono e1,hm,k.after e1⟩)
noncomputable def aD:MA:=fun _ μ=>some ([],μ)
noncomputable def aC (a:ME)(r:MA):MA:=fun ρ μ=>(a ρ μ).bind fun p=>(r ρ p.2).bind fun q=>some (p.1::q.1,q.2)
variable {es:List UO}{ms:MA}
theorem JH:PA X [] (eV X.K aD):=Be Ie (by
 rintro σ H Q ⟨π,ρ,μ,d,μ',R,E,hm,k⟩
 cases hm
 exact k π [] H .refl R .nil)
theorem JI (ha:PE X e (tM X.K m))(hr:PA X es (eV X.K ms))(hs:Vj (e::es) X.env=(false,eval e X.env)::Vj es X.env:=by rfl):PA X (e::es) (eV X.K (aC m ms)):=Be (Ig ha hr hs) (by
 rintro σ H Q ⟨π,ρ,μ,d,μ',R,E,hm,k⟩
 obtain ⟨⟨x,μ1⟩,h1,hm⟩:=Uw.mp hm
 obtain ⟨⟨xs,μ2⟩,h2,hm⟩:=Uw.mp hm
 cases hm
 exact ⟨π,ρ,μ,x,μ1,R,E,h1,fun π1 v1 H1 e1 R1 i1=>⟨π1,ρ,μ1,xs,μ2,R1,E.mono e1,h2,fun π2 vs H2 e2 R2 i2=>k π2 _ H2 (e1.trans e2) R2 (.cons (i1.mono e2) i2)⟩⟩)
noncomputable def bP (ms:MA):ME:=fun ρ μ=>(ms ρ μ).bind fun p=>if p.1.length<=UM then some (.tup p.1,p.2) else none
noncomputable def b7 (ms:MA):ME:=fun ρ μ=>(ms ρ μ).bind fun p=>if p.1.length<=UM then some (.loc p.2.length,p.2++[.lst p.1]) else none
theorem JJ {x1:Nat}(h:PA X es (eV X.K ms)):PE X (.Tuple es x1 pos) (tM X.K (bP ms)):=cO (Ij h) (by
 rintro σ H Q ⟨π,ρ,μ,d,μ',R,E,hm,k⟩
 obtain ⟨⟨xs,μ1⟩,h1,hm⟩:=Uw.mp hm
 split at hm
 ·rename_i hl
  cases hm
  refine ⟨π,ρ,μ,_,_,R,E,h1,fun π1 vs H1 e1 R1 i1=>⟨by rw [i1.length];exact hl,fun p hp=>?_⟩⟩
  obtain ⟨e2,R2⟩:=R1.fresh (o:=.tup vs) hp
  exact k π1 _ _ (e1.trans e2) R2 (.tup (.of cV) (i1.mono e2))
 ·cases hm)
theorem JK (h:PA X es (eV X.K ms)):PE X (.List es pos) (tM X.K (b7 ms)):=cO (Ik h) (by
 rintro σ H Q ⟨π,ρ,μ,d,μ',R,E,hm,k⟩
 obtain ⟨⟨xs,μ1⟩,h1,hm⟩:=Uw.mp hm
 split at hm
 ·rename_i hl
  cases hm
  refine ⟨π,ρ,μ,xs,μ1,R,E,h1,fun π1 vs H1 e1 R1 i1=>⟨by rw [i1.length];exact hl,fun p hp=>?_⟩⟩
  obtain ⟨e2,R2,q⟩:=R1.alloc (c:=.lst xs) (o:=.lst vs) hp i1
  have i2:IsD X.K (gX π1 μ1.length p) (μ1++[C.lst xs]).length (aK H1 p (.lst vs)) (.ref p) (.loc μ1.length):=by
   have:=IsD.loc (K:=X.K) (π:=gX π1 μ1.length p) (n:=(μ1++[C.lst xs]).length) (H:=aK H1 p (.lst vs)) (a:=μ1.length) (by simp)
   rw [q] at this
   exact this
  exact k _ _ _ (e1.trans e2) R2 i2
 ·cases hm)
noncomputable def aG (f:MF)(ms:MA):ME:=fun ρ μ=>(ms ρ μ).bind fun p=>f p.1 p.2
theorem JL {K:Ux}{f:MF}{n:Nat}{E:XK}(hn:∀ ρ μ ds μ',ms ρ μ=some (ds,μ')->ds.length=n):∀ σ H Q,tM K (aG f ms) σ H Q->u4 (i9 K n f) [] E (eV K ms) σ H Q:=by
 rintro σ H Q ⟨π,ρ,μ,d,μ',R,E,hm,k⟩
 obtain ⟨⟨xs,μ1⟩,h1,hm⟩:=Uw.mp hm
 refine ⟨π,ρ,μ,xs,μ1,R,E,h1,fun π1 vs H1 e1 R1 i1=>?_⟩
 show i9 K n f (vs++[]) H1 Q _
 rw [a0u]
 exact ⟨by rw [i1.length];exact hn ρ μ xs μ1 h1,π1,xs,μ1,d,μ',R1,i1,hm,k.after e1⟩
theorem JM:∀ ρ μ ds μ',aD ρ μ=some (ds,μ')->ds.length=0:=by
 intro ρ μ ds μ' h
 cases h
 rfl
theorem JN {n:Nat}(h:∀ ρ μ ds μ',ms ρ μ=some (ds,μ')->ds.length=n):∀ ρ μ ds μ',aC m ms ρ μ=some (ds,μ')->ds.length=n+1:=by
 intro ρ μ ds μ' hm
 obtain ⟨⟨x,μ1⟩,h1,hm⟩:=Uw.mp hm
 obtain ⟨⟨xs,μ2⟩,h2,hm⟩:=Uw.mp hm
 cases hm
 rw [Vm,h ρ μ1 xs _ h2]
theorem JO {k:Nat}{f:Addr}{fd:WS}{ps:List Str}{fm:MF}{x:Str}{p:Wl}{n:Nat}(F:FnOk X.prog X.w X.K X.mg X.base fG k f fd ps (i9 X.K n fm))(hr:Room k X.A)(hg:Gl X x)(hm:X.mg x=some (.ref f))
  (hk:Wm X.K (.ref f)=true)(hb:Binds X.K fd ps [])(ha:PA X (e::es) (eV X.K ms))(hn:∀ ρ μ ds μ',ms ρ μ=some (ds,μ')->ds.length=n)(hdb:(x == ("__debug__":Str))=false:=by decide)
  (he:Vj (e::es) X.env=(false,eval e X.env)::Vj es X.env:=by rfl)(hpl:(W0 pos (Vj es X.env)).any (·.1)=false:=by rfl) :
  PE X (.Call (.Name x p) (e::es) [] pos) (tM X.K (aG fm ms)):=
 cO (Il F hr hg hm hk hb .nil (E:=E0) A7 ha hdb he hpl) (JL hn)
noncomputable def dC (K:Ux)(f:MF)(r:List V->Hp->VK->Prop):Prop:=
 ∀ π H μ xs d μ' vs Q,Rp K π H μ->IsDs K π μ.length H vs xs->f xs μ=some (d,μ')->KC K Q π μ.length H d μ'->r vs H Q
theorem vH {K:Ux}{f:MF}{r:List V->Hp->VK->Prop}(hf:dC K f r):∀ σ H Q,tM K (aG f ms) σ H Q->rL r (eV K ms) σ H Q:=by
 rintro σ H Q ⟨π,ρ,μ,d,μ',R,E,hm,k⟩
 obtain ⟨⟨xs,μ1⟩,h1,hm⟩:=Uw.mp hm
 exact ⟨π,ρ,μ,xs,μ1,R,E,h1,fun π1 vs H1 e1 R1 i1=>hf π1 H1 μ1 xs d μ' vs Q R1 i1 hm (k.after e1)⟩
theorem JP {f:MF}{r:List V->Hp->VK->Prop}{id:String}{x:Str}{p:Wl}(hc:CallR X (.builtin id) r)(hf:dC X.K f r)(hg:Gl X x)(hm:X.mg x=none)(hv:Wa x=some (.builtin id))(ha:PA X (e::es) (eV X.K ms))
  (hn:x ≠ "__name__":=by decide) (hdb:(x == ("__debug__":Str))=false:=by decide)
  (he:Vj (e::es) X.env=(false,eval e X.env)::Vj es X.env:=by rfl)(hpl:(W0 pos (Vj es X.env)).any (·.1)=false:=by rfl):PE X (.Call (.Name x p) (e::es) [] pos) (tM X.K (aG f ms)):=
 cO (Iq hc hg hm hv ha hn hdb he hpl) (vH hf)
theorem JQ {f:MF}{r:List V->Hp->VK->Prop}{T:String}{x:Str}{p:Wl}(hc:CallR X (.type T) r)(hf:dC X.K f r)(hg:Gl X x)(hm:X.mg x=none)(hv:Wa x=some (.type T))(ha:PA X (e::es) (eV X.K ms))
  (hn:x ≠ "__name__":=by decide) (hdb:(x == ("__debug__":Str))=false:=by decide)
  (he:Vj (e::es) X.env=(false,eval e X.env)::Vj es X.env:=by rfl)(hpl:(W0 pos (Vj es X.env)).any (·.1)=false:=by rfl):PE X (.Call (.Name x p) (e::es) [] pos) (tM X.K (aG f ms)):=
 cO (Ir hc hg hm hv ha hn hdb he hpl) (vH hf)
noncomputable def bI (μ:Hm):D->Option (List D)
 | .tup xs=>some xs
 | .rol xs=>some xs
 | .loc a=>match μ[a]? with|some (.lst xs)=>some xs|_=>none
 | _=>none
noncomputable def fH:D->D->Hm->Option (D×Hm)
 | .str z,.int i,μ=>if z.length<=UM then (atI z.cps.toList i).map fun c=>(.str ⟨#[c]⟩,μ) else none
 | x,.int i,μ=>(bI μ x).bind fun xs=>(atI xs i).map fun d=>(d,μ)
 | _,_,_=>none
theorem JR {K:Ux}:cP K fH (AO K):=by
 intro π H μ x y d μ' vx vy Q R ix iy hm k
 cases iy with
 | int i=>
  cases ix with
  | str z=>
   simp only [fH] at hm
   split at hm
   ·rename_i hl
    obtain ⟨c,h1,h2⟩:=UB.mp hm
    cases h2
    exact .inr (.inr ⟨z,i,c,rfl,rfl,hl,h1,k π _ H .refl R (.str _)⟩)
   ·cases hm
  | tup h t=>
   simp only [fH,bI,UZ] at hm
   obtain ⟨d',h1,h2⟩:=UB.mp hm
   cases h2
   obtain ⟨v,h3,h4⟩:=t.atI h1
   exact .inr (.inl ⟨_,_,i,v,rfl,rfl,h,h3,k π _ H .refl R h4⟩)
  | rol h t=>
   simp only [fH,bI,UZ] at hm
   obtain ⟨d',h1,h2⟩:=UB.mp hm
   cases h2
   obtain ⟨v,h3,h4⟩:=t.atI h1
   exact .inl ⟨_,_,i,v,rfl,rfl,h.sq,h3,k π _ H .refl R h4⟩
  | @loc a ha=>
   simp only [fH,bI] at hm
   split at hm
   ·rename_i xs hx
    simp only [UZ] at hm
    obtain ⟨d',h1,h2⟩:=UB.mp hm
    cases h2
    obtain ⟨vs,h5,h6⟩:=R.lst a xs hx
    obtain ⟨v,h3,h4⟩:=h6.atI h1
    exact .inl ⟨_,_,i,v,rfl,rfl,.of h5,h3,k π _ H .refl R h4⟩
   ·cases hm
  | _=>simp [fH,bI] at hm
 | _=>cases ix<;>simp [fH] at hm
theorem JS (ha:PE X a (tM X.K ma))(hb:PE X b (tM X.K mb))(hs:u7 b):PE X (.Subscript a b pos) (tM X.K (aB fH ma mb)):=cO (IK IM ha hb hs) (pJ JR)
noncomputable def fI (xs:List D)(lo hi:Option Int):List D:=(xs.drop (HT.sIx xs.length 0 lo)).take (HT.sIx xs.length xs.length hi - HT.sIx xs.length 0 lo)
noncomputable abbrev MO:=aL->Hm->Option (Option Int×Hm)
noncomputable def iP:MO:=fun _ μ=>some (none,μ)
noncomputable def gY (m:ME):MO:=fun ρ μ=>(m ρ μ).bind fun p=>match p.1 with|.int i=>some (some i,p.2)|_=>none
noncomputable def pK (K:Ux)(m:MO):TO:=fun σ H Q=>∃ π ρ μ o μ',Rp K π H μ/\En K π μ.length H σ ρ/\m ρ μ=some (o,μ')/\∀ π' H',Ext π μ.length H π' μ'.length H'->Rp K π' H' μ'->Q o H'
theorem JT:PO X none (pK X.K iP):=fun a5f s σ H Q I q=>IF a5f s σ H Q I (by
 obtain ⟨π,ρ,μ,o,μ',R,E,hm,k⟩:=q
 cases hm
 exact k π H .refl R)
theorem JU (h:PE X e (tM X.K m)):PO X (some e) (pK X.K (gY m)):=fun a5f s σ H Q I q=>IG h a5f s σ H Q I (by
 obtain ⟨π,ρ,μ,o,μ',R,E,hm,k⟩:=q
 obtain ⟨⟨x,μ1⟩,h1,hm⟩:=Uw.mp hm
 cases x with
 | int i=>
  cases hm
  refine ⟨π,ρ,μ,_,_,R,E,h1,fun π1 v1 H1 e1 R1 i1=>?_⟩
  cases i1
  exact ⟨_,rfl,k π1 H1 e1 R1⟩
 | _=>cases hm)
noncomputable abbrev Bh (K:Ux):V->Option Int->Option Int->Hp->VK->Prop:=u9 K
theorem JV {X:Cx}:SlR X (Bh X.K):=IU
theorem Bi {K:Ux}{x:V}{lo hi:Option Int}{H:Hp}{Q:VK}(h:u9 K x lo hi H Q):Bh K x lo hi H Q:=h
noncomputable def jV (a:ME)(lo hi:MO):ME:=fun ρ μ=>(a ρ μ).bind fun p=>(lo ρ p.2).bind fun q=>(hi ρ q.2).bind fun r=>
 match p.1 with
 | .tup _=>none
 | x=>(bI r.2 x).bind fun xs=>some (.loc r.2.length,r.2++[.lst (fI xs q.1 r.1)])
theorem Bj {K:Ux}{π:Nat->Addr}{n:Nat}{H:Hp}{vs:List V}{ds:List D}(h:IsDs K π n H vs ds)(lo hi:Option Int):IsDs K π n H (kL vs lo hi) (fI ds lo hi):=by
 unfold kL fI
 rw [h.length]
 exact (h.drop _).take _
theorem eM {K:Ux}{π:Nat->Addr}{μ:Hm}{p:Addr}{c:C}{H:Hp}:IsD K (gX π μ.length p) (μ++[c]).length H (.ref p) (.loc μ.length):=by
 have:=IsD.loc (K:=K) (π:=gX π μ.length p) (n:=(μ++[c]).length) (H:=H) (a:=μ.length) (by simp)
 rw [show gX π μ.length p μ.length=p from if_pos rfl] at this
 exact this
theorem JW {lo hi:Option UO}{ml mh:MO}{p2:Wl}(ha:PE X a (tM X.K ma))(hl:PO X lo (pK X.K ml))(hu:PO X hi (pK X.K mh)):PE X (.Subscript a (.Slice lo hi none p2) pos) (tM X.K (jV ma ml mh)):=cO (II JV ha hl hu) (by
 rintro σ H Q ⟨π,ρ,μ,d,μ',R,E,hm,k⟩
 obtain ⟨⟨x,μ1⟩,h1,hm⟩:=Uw.mp hm
 obtain ⟨⟨l,μ2⟩,h2,hm⟩:=Uw.mp hm
 obtain ⟨⟨u,μ3⟩,h3,hm⟩:=Uw.mp hm
 refine ⟨π,ρ,μ,x,μ1,R,E,h1,fun π1 v1 H1 e1 R1 i1=>⟨π1,ρ,μ1,l,μ2,R1,E.mono e1,h2,fun π2 H2 e2 R2=>⟨π2,ρ,μ2,u,μ3,R2,(E.mono e1).mono e2,h3,fun π3 H3 e3 R3=>?_⟩⟩⟩
 have i3:=(i1.mono e2).mono e3
 cases i3 with
 | rol h t=>
  simp only [bI,UZ] at hm
  cases hm
  refine Bi ⟨_,_,rfl,h.sq,fun p hp=>?_⟩
  obtain ⟨e4,R4,q⟩:=R3.alloc (c:=.lst (fI _ l u)) (o:=.lst (kL _ l u)) hp (Bj t l u)
  exact k _ _ _ (((e1.trans e2).trans e3).trans e4) R4 eM
 | @loc i hi'=>
  simp only [bI] at hm
  split at hm
  ·rename_i xs hx
   simp only [UZ] at hm
   cases hm
   obtain ⟨vs,h5,h6⟩:=R3.lst i xs hx
   refine Bi ⟨_,_,rfl,.of h5,fun p hp=>?_⟩
   obtain ⟨e4,R4,q⟩:=R3.alloc (c:=.lst (fI xs l u)) (o:=.lst (kL vs l u)) hp (Bj h6 l u)
   exact k _ _ _ (((e1.trans e2).trans e3).trans e4) R4 eM
  ·cases hm
 | tup h t=>simp at hm
 | _=>simp [bI] at hm)
end
section
variable {X:Cx}{e a b c:UO}{m:ME}{pos:Wl}{mt:MT}{st:Stmt}{bO body orelse:List Stmt}{ms mr mu:MS}
noncomputable def bJ:MS:=fun ρ μ=>some (.nx,ρ,μ)
noncomputable def aH (a b:MS):MS:=fun ρ μ=>(a ρ μ).bind fun p=>match p.1 with|.nx=>b p.2.1 p.2.2|_=>some p
noncomputable def aS (m:ME):MS:=fun ρ μ=>(m ρ μ).map fun p=>(.rt p.1,ρ,p.2)
noncomputable def dD (m:ME):MS:=fun ρ μ=>(m ρ μ).map fun p=>(.nx,ρ,p.2)
noncomputable def bF (t:MT)(a b:MS):MS:=fun ρ μ=>(t ρ μ).bind fun p=>match p.1 with|true=>a ρ p.2|false=>b ρ p.2
noncomputable def aV (i:Nat)(m:ME):MS:=fun ρ μ=>(m ρ μ).map fun p=>(.nx,ρ.set i (some p.1),p.2)
theorem JX:PSs X [] (dB X.K bJ):=Bf Hd (by
 rintro E σ H ⟨π,ρ,μ,fl,ρ',μ',R,EN,hm,k⟩
 cases hm
 exact k π σ H .refl R EN)
theorem JY (h1:PS X st (dB X.K ms))(h2:PSs X bO (dB X.K mr)):PSs X (st::bO) (dB X.K (aH ms mr)):=Bf (He h1 h2) (by
 rintro E σ H ⟨π,ρ,μ,fl,ρ',μ',R,EN,hm,k⟩
 obtain ⟨⟨f1,ρ1,μ1⟩,h1,hm⟩:=Uw.mp hm
 refine ⟨π,ρ,μ,f1,ρ1,μ1,R,EN,h1,?_⟩
 cases f1 with
 | nx=>
  intro π1 σ1 H1 e1 R1 E1
  refine ⟨π1,ρ1,μ1,fl,ρ',μ',R1,E1,hm,?_⟩
  cases fl with
  | nx=>exact fun π2 σ2 H2 e2 R2 E2=>k π2 σ2 H2 (e1.trans e2) R2 E2
  | bk=>exact fun π2 σ2 H2 e2 R2 E2=>k π2 σ2 H2 (e1.trans e2) R2 E2
  | ct=>exact fun π2 σ2 H2 e2 R2 E2=>k π2 σ2 H2 (e1.trans e2) R2 E2
  | rt d=>exact KC.after k e1
 | rt d=>cases hm;exact k
 | bk=>cases hm;exact k
 | ct=>cases hm;exact k)
theorem JZ (h1:PS X st (dB X.K ms)):PSs X [st] (dB X.K ms):=Hf h1
theorem J0:PS X (.Pass pos) (dB X.K bJ):=iN Hg (by
 rintro E σ H ⟨π,ρ,μ,fl,ρ',μ',R,EN,hm,k⟩
 cases hm
 exact k π σ H .refl R EN)
theorem J3 (he:PE X e (tM X.K m)):PS X (.Return (some e) pos) (dB X.K (aS m)):=iN (Hk he) (by
 rintro E σ H ⟨π,ρ,μ,fl,ρ',μ',R,EN,hm,k⟩
 obtain ⟨⟨x,μ1⟩,h1,hm⟩:=UB.mp hm
 cases hm
 exact ⟨π,ρ,μ,x,μ1,R,EN,h1,k⟩)
theorem J4 (he:PE X e (tM X.K m))(hs:Yx e none pos.line X.env=pure false:=by rfl):PS X (.Expr e pos) (dB X.K (dD m)):=iN (Hi he hs) (by
 rintro E σ H ⟨π,ρ,μ,fl,ρ',μ',R,EN,hm,k⟩
 obtain ⟨⟨x,μ1⟩,h1,hm⟩:=UB.mp hm
 cases hm
 exact ⟨π,ρ,μ,x,μ1,R,EN,h1,fun π1 v1 H1 e1 R1 i1=>k π1 σ H1 e1 R1 (EN.mono e1)⟩)
theorem J5 (hc:PT X c (c6 X.K mt))(ha:PSs X body (dB X.K ms))(hb:PSs X orelse (dB X.K mu)):PS X (.If c body orelse pos) (dB X.K (bF mt ms mu)):=iN (Hq hc ha hb) (by
 rintro E σ H ⟨π,ρ,μ,fl,ρ',μ',R,EN,hm,k⟩
 obtain ⟨⟨x,μ1⟩,h1,hm⟩:=Uw.mp hm
 refine ⟨π,ρ,μ,x,μ1,R,EN,h1,fun π1 H1 e1 R1=>?_⟩
 have k':lU X.K E π1 μ1.length H1 fl ρ' μ':=by
  cases fl with
  | nx=>exact fun π2 σ2 H2 e2 R2 E2=>k π2 σ2 H2 (e1.trans e2) R2 E2
  | bk=>exact fun π2 σ2 H2 e2 R2 E2=>k π2 σ2 H2 (e1.trans e2) R2 E2
  | ct=>exact fun π2 σ2 H2 e2 R2 E2=>k π2 σ2 H2 (e1.trans e2) R2 E2
  | rt d=>exact KC.after k e1
 cases x with
 | true=>
  refine kN ?_
  exact ⟨π1,ρ,μ1,fl,ρ',μ',R1,EN.mono e1,hm,k'⟩
 | false=>
  refine kM ?_
  exact ⟨π1,ρ,μ1,fl,ρ',μ',R1,EN.mono e1,hm,k'⟩)
theorem Bk {i:Nat}{x:Str}{pos':Wl}(hN:X.N.Nodup)(hi:X.N[i]? = some x)(hx:Loc X.env.scope x)(he:PE X e (tM X.K m))(hs:Yx e (some (.Name x pos')) pos.line X.env=pure false:=by rfl)
  (hf:X.fn x=true\/X.env.scope.names.lookup x=some .local:=by first|exact .inl rfl|exact .inr rfl|assumption):PS X (.Assign [.Name x pos'] e pos) (dB X.K (aV i m)):=iN (Hv hN hi hx he hs hf) (by
 rintro E σ H ⟨π,ρ,μ,fl,ρ',μ',R,EN,hm,k⟩
 obtain ⟨⟨x,μ1⟩,h1,hm⟩:=UB.mp hm
 cases hm
 exact ⟨π,ρ,μ,x,μ1,R,EN,h1,fun π1 v1 H1 e1 R1 i1=>k π1 _ H1 e1 R1 ((EN.mono e1).set i1 i)⟩)
end
noncomputable def rR (n:Nat)(ds:List D):aL:=ds.map some++Vi (n - ds.length) none
noncomputable def vJ (n:Nat)(m:MS):MF:=fun ds μ=>(m (rR n ds) μ).bind fun p=>match p.1 with|.rt d=>some (d,p.2.2)|.nx=>some (.non,p.2.2)|_=>none
theorem J6 {K:Ux}{π:Nat->Addr}{n:Nat}{H:Hp}{N:List Str}{vs:List V}{ds:List D}(h:IsDs K π n H vs ds)(hl:vs.length<=N.length):En K π n H (L2.start N vs) (rR N.length ds):=by
 have hlen:=h.length
 refine ⟨by simp [L2.start,rR,hlen],fun i d e=>?_⟩
 unfold rR at e
 unfold L2.start
 by_cases hi:i<ds.length
 ·rw [Vt (by simpa using hi),Vd] at e
  obtain ⟨d',h1,h2⟩:=UB.mp e
  cases h2
  obtain ⟨v,h3,h4⟩:=h.get h1
  exact ⟨v,by rw [Vt (by rw [Uz,hlen];exact hi),Vd,h3];rfl,h4⟩
 ·rw [Wq (by simpa using XC.mp hi)] at e
  have:=W6 (n:=N.length - ds.length) (a:=(none:Option D)) (i:=i - (ds.map some).length)
  rw [this] at e
  split at e<;>simp at e
section
variable {P:Va}{w:Vu}{K:Ux}{mg:Str->Option UC}{base:VL}
theorem J7 {x qual:Str}{st:Stmt}{f:Addr}{fd:WS}{N ps:List Str}{k:Nat}{m:MS}(F:Fun K x qual st f fd)(S:FnScope N ps (cN st))(hps:ps.length<=N.length)
  (hbody:∀ (cdv:UC)(A:Vh)(outer:List ZZ)(s:UE)(H:Hp)(E:XK),Room k (A.deeper (a0E qual (cN st) s.heap.objs.size f cdv))->
   PSs (jS fG P w K mg base N qual (cN st) f cdv A outer s H E).nox (fV st) (dB K m)):FnOk P w K mg base fG (k+1) f fd ps (i9 K ps.length (vJ N.length m)):=by
 refine F.ok S (fun vs H Q E h=>h.1) fun cdv A outer s H vs Q E hr h=>⟨_,hbody cdv A outer s H E hr,?_⟩
 obtain ⟨hv,π,ds,μ,d,μ',R,i,hm,kc⟩:=h
 obtain ⟨⟨fl,ρ',μ1⟩,h1,hm⟩:=Uw.mp hm
 refine ⟨π,_,μ,fl,ρ',μ1,R,J6 i (by rw [hv];exact hps),h1,?_⟩
 cases fl with
 | rt d'=>cases hm;exact kc
 | nx=>cases hm;exact fun π1 σ1 H1 e1 R1 E1=>kc π1 .non H1 e1 R1 .non
 | bk=>cases hm
 | ct=>cases hm
end
end L3
namespace L3
open PySem L2
open SeqAt (EqAt RcAt RcNeAt)
inductive KD where
 | non|bl (b:Bool)|int (i:Int)|str (x:Str)|tup (n:Nat)|lst (n:Nat)
inductive IsK (s:UE):UC->KD->Prop where
 | non:IsK s .none .non
 | bl (b:Bool):IsK s (.bool b) (.bl b)
 | int (i:Int)(t:a5a):IsK s (.int i t) (.int i)
 | str (x:Str)(t:a5a):IsK s (.str x t) (.str x)
 | tup {l:Addr}{its:List UC}(h:s.heap.IsTuple l its.toArray):IsK s (.ref l) (.tup its.length)
 | lst {l:Addr}{its:List UC}(h:s.heap.IsList l its.toArray):IsK s (.ref l) (.lst its.length)
noncomputable def nC (e:Nat->Bool):KD->KD->Bool
 | .non,.non=>true
 | .bl a,.bl b=>a == b
 | .bl a,.int b=>(if a then 1 else 0) == b
 | .int a,.bl b=>a == (if b then 1 else 0)
 | .int a,.int b=>a == b
 | .str a,.str b=>a == b
 | .tup n,.tup k=>(Vv (min n k)).all e&&n == k
 | .lst n,.lst k=>(Vv (min n k)).all e&&n == k
 | _,_=>false
noncomputable def rS (A:Vh)(s:UE)(u v:UC)(e:Nat->Bool):Prop:=
 (∀ l b items items2,u=.ref l->v=.ref b->s.heap.IsTuple l items->s.heap.IsTuple b items2->∀ j (h1:j<items.size)(h2:j<items2.size),EqAt A.in1 s items[j] items2[j] (e j)) /\
 (∀ l b items items2,u=.ref l->v=.ref b->s.heap.IsList l items->s.heap.IsList b items2->∀ j (h1:j<items.size)(h2:j<items2.size),EqAt A.in1 s items[j] items2[j] (e j))
section
variable {A:Vh}{s:UE}{u v:UC}{k k':KD}{e:Nat->Bool}
theorem Bl {n k:Nat}(e:Nat->Bool)(h:n=k):((Vv (min n k)).all e&&n == k)=(Vv n).all e:=by
 subst h
 simp
theorem Bm {n k:Nat}(e:Nat->Bool)(h:n≠k):((Vv (min n k)).all e&&n == k)=false:=by
 simp [h]
theorem vK (h:IsK s u k)(h':IsK s v k')(hu:A.units<V3)(he:rS A s u v e):RcAt A s u v (nC e k k'):=by
 cases h with
 | non=>
  cases h' with
  | non=>exact RcAt.none_none
  | bl b=>exact RcAt.none_bool b
  | int i t=>exact RcAt.none_int i t
  | str x t=>exact RcAt.none_str x t
  | tup h=>exact RcAt.none_tuple h hu
  | lst h=>exact RcAt.none_list h hu
 | bl a=>
  cases h' with
  | non=>exact RcAt.bool_none a
  | bl b=>exact RcAt.bool_bool a b
  | int i t=>exact RcAt.bool_int a i t
  | str x t=>exact RcAt.bool_str a x t
  | tup h=>exact RcAt.bool_tuple a h hu
  | lst h=>exact RcAt.bool_list a h hu
 | int a ta=>
  cases h' with
  | non=>exact RcAt.int_none a ta
  | bl b=>exact RcAt.int_bool a ta b
  | int i t=>exact RcAt.int_int a ta i t
  | str x t=>exact RcAt.int_str a ta x t
  | tup h=>exact RcAt.int_tuple a ta h hu
  | lst h=>exact RcAt.int_list a ta h hu
 | str a ta=>
  cases h' with
  | non=>exact RcAt.str_none a ta
  | bl b=>exact RcAt.str_bool a ta b
  | int i t=>exact RcAt.str_int a ta i t
  | str x t=>exact RcAt.str_str a ta x t
  | tup h=>exact RcAt.str_tuple a ta h hu
  | lst h=>exact RcAt.str_list a ta h hu
 | tup g=>
  cases h' with
  | non=>exact RcAt.tuple_none g hu
  | bl b=>exact RcAt.tuple_bool b g hu
  | int i t=>exact RcAt.tuple_int i t g hu
  | str x t=>exact RcAt.tuple_str x t g hu
  | tup h=>
   have:=RcAt.tuples (e:=e) g h hu (he.1 _ _ _ _ rfl rfl g h)
   simpa [nC] using this
  | lst h=>exact RcAt.tuple_list g h hu
 | lst g=>
  cases h' with
  | non=>exact RcAt.list_none g hu
  | bl b=>exact RcAt.list_bool b g hu
  | int i t=>exact RcAt.list_int i t g hu
  | str x t=>exact RcAt.list_str x t g hu
  | tup h=>exact RcAt.list_tuple g h hu
  | @lst b its2 h=>
   rename_i l its
   by_cases hl:its.length=its2.length
   ·have:=RcAt.lists (e:=e) g h (by simpa using hl) hu (he.2 _ _ _ _ rfl rfl g h)
    show RcAt A s _ _ ((Vv (min its.length its2.length)).all e&&its.length == its2.length)
    rw [Bl e hl]
    simpa using this
   ·have:=RcAt.lists_lengths g h (by simpa using hl) hu
    show RcAt A s _ _ ((Vv (min its.length its2.length)).all e&&its.length == its2.length)
    rw [Bm e hl]
    exact this
theorem J8 (h:IsK s u k)(h':IsK s v k')(hu:A.units<V3)(he:rS A s u v e):RcNeAt A s u v (!nC e k k'):=by
 cases h with
 | non=>
  cases h' with
  | non=>exact RcNeAt.none_none
  | bl b=>exact RcNeAt.none_bool b
  | int i t=>exact RcNeAt.none_int i t
  | str x t=>exact RcNeAt.none_str x t
  | tup h=>exact RcNeAt.none_tuple h hu
  | lst h=>exact RcNeAt.none_list h hu
 | bl a=>
  cases h' with
  | non=>exact RcNeAt.bool_none a
  | bl b=>exact RcNeAt.bool_bool a b
  | int i t=>exact RcNeAt.bool_int a i t
  | str x t=>exact RcNeAt.bool_str a x t
  | tup h=>exact RcNeAt.bool_tuple a h hu
  | lst h=>exact RcNeAt.bool_list a h hu
 | int a ta=>
  cases h' with
  | non=>exact RcNeAt.int_none a ta
  | bl b=>exact RcNeAt.int_bool a ta b
  | int i t=>exact RcNeAt.int_int a ta i t
  | str x t=>exact RcNeAt.int_str a ta x t
  | tup h=>exact RcNeAt.int_tuple a ta h hu
  | lst h=>exact RcNeAt.int_list a ta h hu
 | str a ta=>
  cases h' with
  | non=>exact RcNeAt.str_none a ta
  | bl b=>exact RcNeAt.str_bool a ta b
  | int i t=>exact RcNeAt.str_int a ta i t
  | str x t=>exact RcNeAt.str_str a ta x t
  | tup h=>exact RcNeAt.str_tuple a ta h hu
  | lst h=>exact RcNeAt.str_list a ta h hu
 | tup g=>
  cases h' with
  | non=>exact RcNeAt.tuple_none g hu
  | bl b=>exact RcNeAt.tuple_bool b g hu
  | int i t=>exact RcNeAt.tuple_int i t g hu
  | str x t=>exact RcNeAt.tuple_str x t g hu
  | tup h=>
   have:=RcNeAt.tuples (e:=e) g h hu (he.1 _ _ _ _ rfl rfl g h)
   simpa [nC] using this
  | lst h=>exact RcNeAt.tuple_list g h hu
 | lst g=>
  cases h' with
  | non=>exact RcNeAt.list_none g hu
  | bl b=>exact RcNeAt.list_bool b g hu
  | int i t=>exact RcNeAt.list_int i t g hu
  | str x t=>exact RcNeAt.list_str x t g hu
  | tup h=>exact RcNeAt.list_tuple g h hu
  | @lst b its2 h=>
   rename_i l its
   by_cases hl:its.length=its2.length
   ·have:=RcNeAt.lists (e:=e) g h (by simpa using hl) hu (he.2 _ _ _ _ rfl rfl g h)
    show RcNeAt A s _ _ (!((Vv (min its.length its2.length)).all e&&its.length == its2.length))
    rw [Bl e hl]
    simpa using this
   ·have:=RcNeAt.lists_lengths g h (by simpa using hl) hu
    show RcNeAt A s _ _ (!((Vv (min its.length its2.length)).all e&&its.length == its2.length))
    rw [Bm e hl]
    exact this
theorem J9 (h:IsK s u k)(h':IsK s v k')(hu:A.units<V3)(he:rS A s u v e)(hne:∀ l b,u=.ref l->v=.ref b->l≠b):EqAt A s u v (nC e k k'):=by
 cases h with
 | non=>
  cases h' with
  | non=>exact EqAt.same _
  | bl b=>exact EqAt.none_bool b
  | int i t=>exact EqAt.none_int i t
  | str x t=>exact EqAt.none_str x t
  | tup h=>exact EqAt.none_tuple h hu
  | lst h=>exact EqAt.none_list h hu
 | bl a=>
  cases h' with
  | non=>exact EqAt.bool_none a
  | bl b=>exact EqAt.bool_bool a b
  | int i t=>exact EqAt.bool_int a i t
  | str x t=>exact EqAt.bool_str a x t
  | tup h=>exact EqAt.bool_tuple a h hu
  | lst h=>exact EqAt.bool_list a h hu
 | int a ta=>
  cases h' with
  | non=>exact EqAt.int_none a ta
  | bl b=>exact EqAt.int_bool a ta b
  | int i t=>exact EqAt.int_int a ta i t
  | str x t=>exact EqAt.int_str a ta x t
  | tup h=>exact EqAt.int_tuple a ta h hu
  | lst h=>exact EqAt.int_list a ta h hu
 | str a ta=>
  cases h' with
  | non=>exact EqAt.str_none a ta
  | bl b=>exact EqAt.str_bool a ta b
  | int i t=>exact EqAt.str_int a ta i t
  | str x t=>exact EqAt.str_str a ta x t
  | tup h=>exact EqAt.str_tuple a ta h hu
  | lst h=>exact EqAt.str_list a ta h hu
 | @tup l its g=>
  cases h' with
  | non=>exact EqAt.tuple_none g hu
  | bl b=>exact EqAt.tuple_bool b g hu
  | int i t=>exact EqAt.tuple_int i t g hu
  | str x t=>exact EqAt.tuple_str x t g hu
  | @tup b its2 h=>exact EqAt.of_refs (hne l b rfl rfl) (vK (k:=.tup its.length) (k':=.tup its2.length) (.tup g) (.tup h) hu he)
  | lst h=>exact EqAt.tuple_list g h hu
 | @lst l its g=>
  cases h' with
  | non=>exact EqAt.list_none g hu
  | bl b=>exact EqAt.list_bool b g hu
  | int i t=>exact EqAt.list_int i t g hu
  | str x t=>exact EqAt.list_str x t g hu
  | tup h=>exact EqAt.list_tuple g h hu
  | @lst b its2 h=>exact EqAt.of_refs (hne l b rfl rfl) (vK (k:=.lst its.length) (k':=.lst its2.length) (.lst g) (.lst h) hu he)
end
inductive KdD where
 | non|bl (b:Bool)|int (i:Int)|str (x:Str)|tup (xs:List D)|lst (xs:List D)
noncomputable def eW (μ:Hm):D->Option KdD
 | .non=>some .non
 | .bl b=>some (.bl b)
 | .int i=>some (.int i)
 | .str x=>some (.str x)
 | .tup xs=>some (.tup xs)
 | .rol xs=>some (.lst xs)
 | .loc a=>match μ[a]? with|some (.lst xs)=>some (.lst xs)|_=>none
 | .ty _=>none
noncomputable def gZ (f:D->D->Option Bool):List D->List D->Option Bool
 | x::xs,y::ys=>(f x y).bind fun b=>(gZ f xs ys).map fun c=>b&&c
 | [],[]=>some true
 | _,_=>some false
noncomputable def jB (f:D->D->Option Bool):KdD->KdD->Option Bool
 | .non,.non=>some true
 | .bl a,.bl b=>some (a == b)
 | .bl a,.int b=>some ((if a then 1 else 0) == b)
 | .int a,.bl b=>some (a == (if b then 1 else 0))
 | .int a,.int b=>some (a == b)
 | .str a,.str b=>some (a == b)
 | .tup xs,.tup ys=>gZ f xs ys
 | .lst xs,.lst ys=>gZ f xs ys
 | _,_=>some false
noncomputable def b9:Nat->Hm->D->D->Option Bool
 | 0,_,_,_=>none
 | n+1,μ,x,y=>(eW μ x).bind fun a=>(eW μ y).bind fun b=>jB (b9 n μ) a b
noncomputable def vL:KdD->KD
 | .non=>.non|.bl b=>.bl b|.int i=>.int i|.str x=>.str x|.tup xs=>.tup xs.length|.lst xs=>.lst xs.length
noncomputable def nD:KdD->List D
 | .tup xs=>xs|.lst xs=>xs|_=>[]
section
variable {X:Cx}{a5f:List (Addr×Wf)}{σ:St}{H:Hp}{s:UE}{π:Nat->Addr}{μ:Hm}
inductive KdAt (X:Cx)(π:Nat->Addr)(n:Nat)(H:Hp)(s:UE)(u:UC):KdD->Prop where
 | non (h:u=.none):KdAt X π n H s u .non
 | bl (b:Bool)(h:u=.bool b):KdAt X π n H s u (.bl b)
 | int (i:Int)(t:a5a)(h:u=.int i t):KdAt X π n H s u (.int i)
 | str (x:Str)(t:a5a)(h:u=.str x t):KdAt X π n H s u (.str x)
 | tup {xs:List D}(p:Addr)(vs:List V)(its:List UC)(h:u=.ref p)(q:SqT X.K H p vs)(i:IsDs X.K π n H vs xs)(r:Vals vs its)(t:s.heap.IsTuple p its.toArray):KdAt X π n H s u (.tup xs)
 | lst {xs:List D}(p:Addr)(vs:List V)(its:List UC)(h:u=.ref p)(q:SqL X.K H p vs)(i:IsDs X.K π n H vs xs)(r:Vals vs its)(t:s.heap.IsList p its.toArray):KdAt X π n H s u (.lst xs)
theorem nE (I:Inv X a5f σ H s)(R:Rp X.K π H μ){v:V}{d:D}{u:UC}(h:IsD X.K π μ.length H v d)(r:RelV v u){k:KdD}(e:eW μ d=some k):KdAt X π μ.length H s u k:=by
 cases h with
 | non=>cases e;exact .non r
 | bl b=>cases e;exact .bl b r
 | int i=>cases e;obtain ⟨t,q⟩:=r;exact .int i t q
 | str x=>cases e;obtain ⟨t,q⟩:=r;exact .str x t q
 | ty x=>cases e
 | tup q t=>
  cases e
  obtain ⟨its,r',p,_⟩:=I.tuple q
  exact .tup _ _ its r q t r' p
 | rol q t=>
  cases e
  obtain ⟨its,r',p,_⟩:=I.list q.sq
  exact .lst _ _ its r q.sq t r' p.isList
 | @loc a ha=>
  simp only [eW] at e
  split at e
  ·rename_i xs hx
   cases e
   obtain ⟨vs,h1,h2⟩:=R.lst a xs hx
   have q:SqL X.K H (π a) vs:=.of h1
   obtain ⟨its,r',p,_⟩:=I.list q
   exact .lst _ _ its r q h2 r' p.isList
  ·cases e
theorem KdAt.isK {u:UC}{k:KdD}{n:Nat}(h:KdAt X π n H s u k):IsK s u (vL k):=by
 cases h with
 | non h=>subst h;exact .non
 | bl b h=>subst h;exact .bl b
 | int i t h=>subst h;exact .int i t
 | str x t h=>subst h;exact .str x t
 | tup p vs its h q i r t=>
  subst h
  have:its.length=_:=r.length.symm.trans i.length
  show IsK s (.ref p) (.tup _)
  rw [<- this]
  exact .tup t
 | lst p vs its h q i r t=>
  subst h
  have:its.length=_:=r.length.symm.trans i.length
  show IsK s (.ref p) (.lst _)
  rw [<- this]
  exact .lst t
noncomputable def hJ (f:D->D->Option Bool)(xs ys:List D)(j:Nat):Bool:=match xs[j]?,ys[j]? with
 | some x,some y=>(f x y).getD false
 | _,_=>false
theorem vO {f:D->D->Option Bool}:∀ {xs ys:List D}{b:Bool},gZ f xs ys=some b->b=((Vv (min xs.length ys.length)).all (hJ f xs ys)&&xs.length == ys.length)/\∀ (j:Nat) x y,xs[j]? = some x->ys[j]? = some y->f x y=some (hJ f xs ys j)
 | [],[],b,h=>by
  cases h
  exact ⟨rfl,fun j x y e=>by simp at e⟩
 | x::xs,[],b,h=>by
  cases h
  exact ⟨by simp,fun j x y _ e=>by simp at e⟩
 | [],y::ys,b,h=>by
  cases h
  exact ⟨by simp,fun j x y e=>by simp at e⟩
 | x::xs,y::ys,b,h=>by
  simp only [gZ] at h
  obtain ⟨c,h1,h2⟩:=Uw.mp h
  obtain ⟨d,h3,h4⟩:=UB.mp h2
  obtain ⟨i1,i2⟩:=vO h3
  have h0:hJ f (x::xs) (y::ys) 0=c:=by simp [hJ,h1]
  have hs:∀ j,hJ f (x::xs) (y::ys) (j+1)=hJ f xs ys j:=fun j=>by simp [hJ]
  refine ⟨?_,fun j x' y' e1 e2=>?_⟩
  ·subst h4
   rw [i1]
   simp only [Vm,Nat.add_min_add_right]
   rw [a1s,Vo,a1u,h0]
   have:(hJ f (x::xs) (y::ys) ∘ Nat.succ)=hJ f xs ys:=funext fun j=>hs j
   rw [this]
   simp [a3p]
  ·cases j with
   | zero=>
    simp at e1 e2
    subst e1;subst e2
    rw [h0,h1]
   | succ j=>
    rw [hs j]
    exact i2 j x' y' (by simpa using e1) (by simpa using e2)
theorem Bn {f:D->D->Option Bool}{k k':KdD}{b:Bool}(h:jB f k k'=some b):b=nC (hJ f (nD k) (nD k')) (vL k) (vL k'):=by
 cases k<;>cases k'<;>simp only [jB] at h<;>first
  | (have h':=U9 h;subst h';rfl)
  | (obtain ⟨h1,_⟩:=vO h;rw [h1];rfl)
theorem Ka (I:Inv X a5f σ H s)(R:Rp X.K π H μ):∀ (n:Nat){v:V}{u:UC}{x y:D}{b:Bool},RelV v u->IsD X.K π μ.length H v x->IsD X.K π μ.length H v y->b9 n μ x y=some b->b=true:=by
 intro n
 induction n with
 | zero=>intro v u x y b _ _ _ h;cases h
 | succ n ih=>
  intro v u x y b r hx hy h
  obtain ⟨k,h1,h⟩:=Uw.mp h
  obtain ⟨k',h2,h⟩:=Uw.mp h
  have a1:=nE I R hx r h1
  have a2:=nE I R hy r h2
  have lists:∀ {vs:List V}{xs ys:List D}{c:Bool},(∀ v∈vs,∃ u,RelV v u)->IsDs X.K π μ.length H vs xs->IsDs X.K π μ.length H vs ys->gZ (b9 n μ) xs ys=some c->c=true:=by
   intro vs
   induction vs with
   | nil=>intro xs ys c _ i1 i2 h;cases i1;cases i2;cases h;rfl
   | cons w vs ihv=>
    intro xs ys c hr i1 i2 h
    cases i1 with
    | cons p1 t1=>
     cases i2 with
     | cons p2 t2=>
      simp only [gZ] at h
      obtain ⟨c1,h1,h3⟩:=Uw.mp h
      obtain ⟨c2,h4,h5⟩:=UB.mp h3
      obtain ⟨u',ru⟩:=hr w (U2 ..)
      have e1:=ih ru p1 p2 h1
      have e2:=ihv (fun v hv=>hr v (UX _ hv)) t1 t2 h4
      subst e1;subst e2
      exact h5.symm
  cases a1 with
  | non e1=>
   subst e1
   cases a2 with
   | non _=>simp only [jB] at h;exact (U9 h).symm
   | bl _ e=>cases e
   | int _ _ e=>cases e
   | str _ _ e=>cases e
   | tup _ _ _ e=>cases e
   | lst _ _ _ e=>cases e
  | bl c e1=>
   subst e1
   cases a2 with
   | non e=>cases e
   | bl _ e=>cases e;simp only [jB,beq_self_eq_true] at h;exact (U9 h).symm
   | int _ _ e=>cases e
   | str _ _ e=>cases e
   | tup _ _ _ e=>cases e
   | lst _ _ _ e=>cases e
  | int c t e1=>
   subst e1
   cases a2 with
   | non e=>cases e
   | bl _ e=>cases e
   | int _ _ e=>cases e;simp only [jB,beq_self_eq_true] at h;exact (U9 h).symm
   | str _ _ e=>cases e
   | tup _ _ _ e=>cases e
   | lst _ _ _ e=>cases e
  | str c t e1=>
   subst e1
   cases a2 with
   | non e=>cases e
   | bl _ e=>cases e
   | int _ _ e=>cases e
   | str _ _ e=>cases e;simp only [jB,beq_self_eq_true] at h;exact (U9 h).symm
   | tup _ _ _ e=>cases e
   | lst _ _ _ e=>cases e
  | tup p vs its e1 q i rv t=>
   have z:KdAt X π μ.length H s (.ref p) _:=e1 ▸ KdAt.tup p vs its e1 q i rv t
   rw [e1] at a2
   cases a2 with
   | non e=>cases e
   | bl _ e=>cases e
   | int _ _ e=>cases e
   | str _ _ e=>cases e
   | tup p2 vs2 its2 e2 q2 i2 rv2 t2=>
    cases e2
    have:=I.tuple_inj q q2
    subst this
    exact lists (fun v hv=>by
     obtain ⟨j,hj,rfl⟩:=XM hv
     obtain ⟨u',_,ru⟩:=rv.get (UW hj)
     exact ⟨u',ru⟩) i i2 h
   | lst p2 vs2 its2 e2 q2 i2 rv2 t2=>
    cases e2
    exact absurd rfl (Wo t2 t)
  | lst p vs its e1 q i rv t=>
   rw [e1] at a2
   cases a2 with
   | non e=>cases e
   | bl _ e=>cases e
   | int _ _ e=>cases e
   | str _ _ e=>cases e
   | tup p2 vs2 its2 e2 q2 i2 rv2 t2=>
    cases e2
    exact absurd rfl (Wo t t2)
   | lst p2 vs2 its2 e2 q2 i2 rv2 t2=>
    cases e2
    have:=I.list_inj q q2
    subst this
    exact lists (fun v hv=>by
     obtain ⟨j,hj,rfl⟩:=XM hv
     obtain ⟨u',_,ru⟩:=rv.get (UW hj)
     exact ⟨u',ru⟩) i i2 h
theorem kP (A:Vh):A.in1.units=A.units+1:=rfl
theorem Bo (I:Inv X a5f σ H s){A:Vh}{n:Nat}(ih:∀ {A:Vh}{v v':V}{u u':UC}{x y:D}{b:Bool},A.units+n<V3->RelV v u->RelV v' u'->IsD X.K π μ.length H v x->IsD X.K π μ.length H v' y->b9 n μ x y=some b->EqAt A s u u' b)
  (hu:A.units+(n+1)<V3){u u':UC}{k k':KdD}{b:Bool}(a1:KdAt X π μ.length H s u k)(a2:KdAt X π μ.length H s u' k')(h:jB (b9 n μ) k k'=some b):rS A s u u' (hJ (b9 n μ) (nD k) (nD k')):=by
 have core:∀ {vs vs':List V}{its its':List UC}{xs ys:List D}{c:Bool},Vals vs its->Vals vs' its'->IsDs X.K π μ.length H vs xs->IsDs X.K π μ.length H vs' ys->gZ (b9 n μ) xs ys=some c->
   ∀ j (h1:j<its.length)(h2:j<its'.length),EqAt A.in1 s its[j] its'[j] (hJ (b9 n μ) xs ys j):=by
  intro vs vs' its its' xs ys c r r' i i' e j h1 h2
  have l1:=r.length
  have l2:=r'.length
  have l3:=i.length
  have l4:=i'.length
  have hx:xs[j]? = some (xs[j]'(by omega)):=UW _
  have hy:ys[j]? = some (ys[j]'(by omega)):=UW _
  obtain ⟨v,v1,v2⟩:=i.get hx
  obtain ⟨v',v1',v2'⟩:=i'.get hy
  obtain ⟨w,w1,w2⟩:=r.get v1
  obtain ⟨w',w1',w2'⟩:=r'.get v1'
  rw [UW h1] at w1
  rw [UW h2] at w1'
  cases w1
  cases w1'
  exact ih (by rw [kP];omega) w2 w2' v2 v2' ((vO e).2 j _ _ hx hy)
 constructor
 ·intro l b' items items2 e1 e2 t1 t2 j h1 h2
  subst e1;subst e2
  cases a1 with
  | tup p vs its e q i r t=>
   cases e
   cases a2 with
   | tup p2 vs2 its2 e' q2 i2 r2 t'=>
    cases e'
    have z1:items=its.toArray:=by
     obtain ⟨o,g1,g2,n1,g3⟩:=t1
     obtain ⟨o',g1',g2',n1',g3'⟩:=t
     rw [g1] at g1';cases g1'
     rw [g3] at g3'
     injection g3'
    have z2:items2=its2.toArray:=by
     obtain ⟨o,g1,g2,n1,g3⟩:=t2
     obtain ⟨o',g1',g2',n1',g3'⟩:=t'
     rw [g1] at g1';cases g1'
     rw [g3] at g3'
     injection g3'
    subst z1;subst z2
    have:=core r r2 i i2 h j (by simpa using h1) (by simpa using h2)
    simpa [nD] using this
   | lst p2 vs2 its2 e' q2 i2 r2 t'=>
    cases e'
    exact absurd rfl (Wo t' t2)
   | non e'=>cases e'
   | bl _ e'=>cases e'
   | int _ _ e'=>cases e'
   | str _ _ e'=>cases e'
  | lst p vs its e q i r t=>
   cases e
   exact absurd rfl (Wo t t1)
  | non e=>cases e
  | bl _ e=>cases e
  | int _ _ e=>cases e
  | str _ _ e=>cases e
 ·intro l b' items items2 e1 e2 t1 t2 j h1 h2
  subst e1;subst e2
  cases a1 with
  | lst p vs its e q i r t=>
   cases e
   cases a2 with
   | lst p2 vs2 its2 e' q2 i2 r2 t'=>
    cases e'
    have z1:items=its.toArray:=by
     obtain ⟨o,g1,g2,n1,g3⟩:=t1
     obtain ⟨o',g1',g2',n1',g3'⟩:=t
     rw [g1] at g1';cases g1'
     rw [g3] at g3'
     injection g3'
    have z2:items2=its2.toArray:=by
     obtain ⟨o,g1,g2,n1,g3⟩:=t2
     obtain ⟨o',g1',g2',n1',g3'⟩:=t'
     rw [g1] at g1';cases g1'
     rw [g3] at g3'
     injection g3'
    subst z1;subst z2
    have:=core r r2 i i2 h j (by simpa using h1) (by simpa using h2)
    simpa [nD] using this
   | tup p2 vs2 its2 e' q2 i2 r2 t'=>
    cases e'
    exact absurd rfl (Wo t2 t')
   | non e'=>cases e'
   | bl _ e'=>cases e'
   | int _ _ e'=>cases e'
   | str _ _ e'=>cases e'
  | tup p vs its e q i r t=>
   cases e
   exact absurd rfl (Wo t1 t)
  | non e=>cases e
  | bl _ e=>cases e
  | int _ _ e=>cases e
  | str _ _ e=>cases e
theorem rV (I:Inv X a5f σ H s)(R:Rp X.K π H μ):∀ (n:Nat){A:Vh}{v v':V}{u u':UC}{x y:D}{b:Bool},A.units+n<V3->RelV v u->RelV v' u'->IsD X.K π μ.length H v x->IsD X.K π μ.length H v' y->b9 n μ x y=some b->EqAt A s u u' b:=by
 intro n
 induction n with
 | zero=>intro A v v' u u' x y b _ _ _ _ _ h;cases h
 | succ n ih=>
  intro A v v' u u' x y b hu r r' hx hy h
  have h0:=h
  obtain ⟨k,h1,h⟩:=Uw.mp h
  obtain ⟨k',h2,h⟩:=Uw.mp h
  have a1:=nE I R hx r h1
  have a2:=nE I R hy r' h2
  by_cases hs:u=u'
  ·subst hs
   have:v=v':=r.inj r'
   subst this
   have:=Ka I R (n+1) r hx hy h0
   subst this
   exact EqAt.same _
  ·have he:=Bo I ih hu a1 a2 h
   rw [Bn h]
   exact J9 a1.isK a2.isK (by omega) he fun l b' e1 e2 z=>hs (by rw [e1,e2,z])
theorem Bp (I:Inv X a5f σ H s)(R:Rp X.K π H μ)(n:Nat){A:Vh}{v v':V}{u u':UC}{x y:D}{b:Bool}(hu:A.units+n<V3)(r:RelV v u)(r':RelV v' u')(hx:IsD X.K π μ.length H v x)(hy:IsD X.K π μ.length H v' y)(h:b9 n μ x y=some b) :
  RcAt A s u u' b/\RcNeAt A s u u' (!b):=by
 cases n with
 | zero=>cases h
 | succ n=>
  obtain ⟨k,h1,h⟩:=Uw.mp h
  obtain ⟨k',h2,h⟩:=Uw.mp h
  have a1:=nE I R hx r h1
  have a2:=nE I R hy r' h2
  have he:=Bo I (A:=A) (rV I R n) hu a1 a2 h
  rw [Bn h]
  exact ⟨vK a1.isK a2.isK (by omega) he,J8 a1.isK a2.isK (by omega) he⟩
end
end L3
namespace L3
open PySem L2
open SeqAt (EqAt RcAt RcNeAt)
section
variable {K:Ux}
noncomputable def jW (g:Int->Int->Option Int):D->D->Hm->Option (D×Hm)
 | .int i,.int j,μ=>(g i j).map fun z=>(.int z,μ)
 | _,_,_=>none
theorem Bq {g:Int->Int->Option Int}{x y d:D}{μ μ':Hm}(h:jW g x y μ=some (d,μ')):∃ i j z,x=.int i/\y=.int j/\g i j=some z/\d=.int z/\μ'=μ:=by
 unfold jW at h
 split at h
 ·rename_i i j
  obtain ⟨z,h1,h2⟩:=UB.mp h
  cases h2
  exact ⟨i,j,z,rfl,rfl,h1,rfl,rfl⟩
 ·cases h
theorem rW {Cc:Int->Int->Prop}{g:Int->Int->Option Int}{g':Int->Int->Int}(hg:∀ i j z,g i j=some z->Cc i j/\z=g' i j):cP K (jW g) (rI Cc fun i j=>.int (g' i j)):=by
 intro π H μ x y d μ' vx vy Q R ix iy hm k
 obtain ⟨i,j,z,rfl,rfl,h1,rfl,rfl⟩:=Bq hm
 cases ix
 cases iy
 obtain ⟨c,rfl⟩:=hg i j z h1
 exact ⟨i,j,rfl,rfl,c,k π _ H .refl R (.int _)⟩
theorem Kb {g':Int->Int->Int}:cP K (jW fun i j=>some (g' i j)) (fU fun i j=>.int (g' i j)):=by
 intro π H μ x y d μ' vx vy Q R ix iy hm k
 obtain ⟨i,j,z,rfl,rfl,h1,rfl,rfl⟩:=Bq hm
 cases ix
 cases iy
 cases h1
 exact ⟨i,j,rfl,rfl,k π _ H .refl R (.int _)⟩
noncomputable def cJ:=jW fun i j=>some (i - j)
noncomputable def Br:=jW fun i j=>if ((-(2 ^ 64)<i/\i<2 ^ 64)\/(-(2 ^ 64)<j/\j<2 ^ 64))\/(i.natAbs<2 ^ 4000/\j.natAbs<2 ^ 4000)\/Vl i+Vl j<=134217728 then some (i * j) else none
noncomputable def bH:D->D->Hm->Option (D×Hm)
 | .loc a,.int k,μ=>match μ[a]? with
  | some (.lst xs)=>if -(2 ^ 63)<=k/\k<2 ^ 63/\xs.length * k.toNat<=UM then some (.loc μ.length,μ++[.lst (Vi k.toNat xs).flatten]) else none
  | _=>none
 | x,y,μ=>Br x y μ
noncomputable def dS:=jW fun i j=>if 0<j/\j<2 ^ 4000 then some (i / j) else none
noncomputable def aY:=jW fun i j=>if 0<j then some (i % j) else none
noncomputable def nF:=jW fun i j=>if (0<=j/\j<=1000000/\i.natAbs<2 ^ 64)\/(0<=j/\j<=100/\i.natAbs<2 ^ 4000) then some (i ^ j.toNat) else none
noncomputable def CMulB (i j:Int):Prop:=CMul i j\/(i.natAbs<2 ^ 4000/\j.natAbs<2 ^ 4000)\/Vl i+Vl j<=134217728
noncomputable def Bs (i j:Int):Prop:=0<j/\j<2 ^ 4000
noncomputable def Bt (i j:Int):Prop:=HM i j\/(0<=j/\j<=100/\i.natAbs<2 ^ 4000)
theorem vP {i:Int}(h:i.natAbs<2 ^ 4000):Vl i<=4000:=by
 unfold Vl
 split
 ·exact Vk _
 ·rename_i hz
  have h0:i.natAbs≠0:=by
   intro z
   exact hz (by simpa using z)
  have:=(a4G h0).mpr h
  omega
theorem CMulB.ok {i j:Int}(h:CMulB i j):a3e i j:=by
 rcases h with h|⟨h1,h2⟩|h
 ·exact h.ok
 rotate_left
 ·have hl:XX (Vl i+Vl j)=false:=by
   unfold XX
   rw [decide_eq_false]
   have:bitsLine=134217728:=by decide
   omega
  unfold a3e
  rw [hl]
  simp
 ·have b1:=vP h1
  have b2:=vP h2
  have hl:XX (Vl i+Vl j)=false:=by
   unfold XX
   rw [decide_eq_false]
   have:(8000:Int)<=bitsLine:=by decide
   omega
  unfold a3e
  rw [hl]
  simp
section
variable {X:Cx}
theorem op_mulB:OpR X (XO .Mult) (rI CMulB fun i j=>.int (i * j)):=rH fun _ _ _ _ _ _ _ hc q=>a4w q hc.ok
theorem Kc:OpR X (XO .FloorDiv) (rI Bs fun i j=>.int (i / j)):=rH fun i j _ _ _ _ _ hc q=>by
 have h1:(0:Int)<j:=hc.1
 have h2:j<2 ^ 4000:=hc.2
 have h0:j.natAbs≠0:=by omega
 have h3:j.natAbs<2 ^ 4000:=by
  have:((2 ^ 4000:Nat):Int)=2 ^ 4000:=by decide
  omega
 have h4:=(a4G h0).mpr h3
 exact a4y (by omega) (by rw [Int.fdiv_eq_ediv_of_nonneg i (by omega)];exact q) (.inl (PyProof.noPylong_of_log2 (by omega)))
theorem Kd:OpR X (XO .Pow) (rI Bt fun i j=>.int (i ^ j.toNat)):=rH fun i j _ _ _ _ _ hc q=>by
 rcases hc with hc|⟨h1,h2,h3⟩
 ·exact a4t hc.1 hc.2.1 hc.2.2 q
 ·have b:=vP h3
  refine a4u h1 ?_ q
  have:(Vl i:Int) * j<=4000 * 100:=a3B (by omega) h2 h1 (by omega)
  omega
end
theorem rX {c:Prop} [Decidable c] {a z:Int}(h:(if c then some a else none)=some z):c/\z=a:=by
 split at h
 ·cases h;exact ⟨by assumption,rfl⟩
 ·cases h
theorem Ke:cP K cJ (fU fun i j=>.int (i - j)):=Kb
theorem Kf:cP K Br (rI CMulB fun i j=>.int (i * j)):=rW fun i j z h=>by
 have:=rX h
 exact this
theorem Bu {π:Nat->Addr}{n:Nat}{H:Hp}{vs:List V}{ds:List D}(h:IsDs K π n H vs ds):∀ k:Nat,IsDs K π n H (Vi k vs).flatten (Vi k ds).flatten
 | 0=>.nil
 | k+1=>by
  rw [WE,WE,Xo,Xo]
  exact h.append (Bu h k)
theorem Kg:cP K bH (fun x y H Q=>rI CMulB (fun i j=>.int (i * j)) x y H Q\/A5 x y H Q):=by
 intro π H μ x y d μ' vx vy Q R ix iy hm k
 unfold bH at hm
 split at hm
 ·rename_i a kk
  split at hm
  ·rename_i xs hx
   split at hm
   ·rename_i hb
    cases hm
    cases ix
    cases iy
    obtain ⟨ws,h1,h2⟩:=R.lst a xs hx
    refine .inr ⟨_,kk,ws,rfl,rfl,h1,hb.1,hb.2.1,by rw [h2.length];exact hb.2.2,fun p hp=>?_⟩
    obtain ⟨e2,R2,_⟩:=R.alloc (c:=.lst (Vi kk.toNat xs).flatten) (o:=.lst (Vi kk.toNat ws).flatten) hp (Bu h2 _)
    exact k _ _ _ e2 R2 eM
   ·cases hm
  ·cases hm
 ·exact .inl (Kf π H μ _ _ d μ' vx vy Q R ix iy hm k)
theorem Kh:cP K dS (rI Bs fun i j=>.int (i / j)):=rW fun i j z h=>by
 have:=rX h
 exact this
theorem Ki:cP K aY (rI (fun _ j=>0<j) fun i j=>.int (i % j)):=rW fun _ _ _ h=>rX h
theorem Kj:cP K nF (rI Bt fun i j=>.int (i ^ j.toNat)):=rW fun i j z h=>by
 have:=rX h
 exact this
noncomputable def Bv:D->Option D
 | .int i=>some (.int (-i))
 | _=>none
noncomputable def bK:D->D->Hm->Option (D×Hm)
 | .int i,.int j,μ=>some (.int (i+j),μ)
 | .str x,.str y,μ=>if x.length+y.length<=UM then some (.str (x++y),μ) else none
 | .loc a,.loc b,μ=>match μ[a]?,μ[b]? with
  | some (.lst xs),some (.lst ys)=>if xs.length+ys.length<=UM then some (.loc μ.length,μ++[.lst (xs++ys)]) else none
  | _,_=>none
 | .rol xs,.loc b,μ=>match μ[b]? with
  | some (.lst ys)=>if xs.length+ys.length<=UM then some (.loc μ.length,μ++[.lst (xs++ys)]) else none
  | _=>none
 | _,_,_=>none
open PySem.AutoSeq1 in
theorem Kk (l:Addr)(items:Array UC)(n:Nat)(sl:Array (Option UC))(b:Addr)(items2:Array UC)(n2:Nat)(hc0:items.size+items2.size<=UM) :
  Meets (Builtin.«list.__add__» ⟨[.ref l,.ref b],[]⟩) (fun _ R s=>s.heap.get? l=some { cls:=.type "list",dict:=none,data:=.seq items n,slots:=sl }/\s.heap.get? b=some { cls:=.type "list",dict:=none,data:=.seq items2 n2,slots:=#[] }/\R (.ok (.ret (UP s.heap.objs.size))) { s with heap:=s.heap.push { cls:=Wv "list",data:=a0Q (items++items2) },toks:=s.toks }):=
 .of_wp fun prog w A R s h=>by obtain ⟨hp,g,d,tk,os⟩:=s;obtain ⟨hl,hb,h⟩:=h;have f1:=idx_int;have f2:=sub_tuple_tuple;have f3:=sub_list_list;have f4:=sub_tuple_list;have f5:=sub_list_tuple;wp_walk using Zw hl,Zw hb;exact ⟨_,rfl,h⟩
noncomputable def Bw (K:Ux):R2:=fun x y H Q=>∃ l b xs zs,x=.ref l/\y=.ref b/\SqL K H l xs/\H b=some (.lst zs)/\xs.length+zs.length<=UM/\∀ p,H p=none->Q (.ref p) (aK H p (.lst (xs++zs)))
theorem Kl {X:Cx}:OpR X (XO .Add) (Bw X.K):=by
 intro a5f s σ H x y v u Q I rx ry h
 obtain ⟨l,b,xs,zs,rfl,rfl,hH,hB,hz,q⟩:=h
 cases rx
 cases ry
 obtain ⟨its,r,⟨o,n,e,c1,c2,c3⟩,z⟩:=I.list hH
 obtain ⟨z2,its2,n2,r2,hl2,e2⟩:=I.lstM hB
 obtain ⟨c,dct,dat,sl⟩:=o
 dsimp only at c1 c2 c3
 subst c1 c2 c3
 refine concat_meets ⟨_,e,rfl⟩ ⟨_,e2,rfl⟩ noFill_list_add seq_list_add F.slot_list_add F.entry_list_add (F.args_list_add_2 _ _) (Kk l its.toArray n sl b its2.toArray n2 (by rw [US,US,<- r.length,<- hl2];exact hz)) ⟨e,e2,?_⟩
 have ea:its.toArray++its2.toArray=(its++its2).toArray:=by simp
 rw [ea]
 exact ⟨.ref _,_,I.lnew (t':=s.toks) (r.append r2) (by rw [U5];omega),rfl,q _ I.fresh⟩
noncomputable def Bx (K:Ux):R2:=fun x y H Q=>fU (fun i j=>.int (i+j)) x y H Q\/(∃ i j,x=.str i/\y=.str j/\i.length+j.length<=UM/\Q (.str (i++j)) H)\/Bw K x y H Q
theorem Km {X:Cx}:OpR X (XO .Add) (Bx X.K):=op_add.or (op_add_str.or Kl)
theorem Kn:cP K bK (Bx K):=by
 intro π H μ x y d μ' vx vy Q R ix iy hm k
 unfold bK at hm
 split at hm
 ·cases hm
  cases ix
  cases iy
  exact .inl ⟨_,_,rfl,rfl,k π _ H .refl R (.int _)⟩
 ·split at hm
  ·rename_i hl
   cases hm
   cases ix
   cases iy
   exact .inr (.inl ⟨_,_,rfl,rfl,hl,k π _ H .refl R (.str _)⟩)
  ·cases hm
 ·split at hm
  ·rename_i xs ys ha hb
   split at hm
   ·rename_i hl
    cases hm
    cases ix
    cases iy
    obtain ⟨vs,h1,h2⟩:=R.lst _ xs ha
    obtain ⟨ws,h3,h4⟩:=R.lst _ ys hb
    refine .inr (.inr ⟨_,_,vs,ws,rfl,rfl,by first|exact h1|exact .inl (.inl h1),h3,by rw [h2.length,h4.length];exact hl,fun p hp=>?_⟩)
    obtain ⟨e2,R2,q⟩:=R.alloc (c:=.lst (xs++ys)) (o:=.lst (vs++ws)) hp (h2.append h4)
    exact k _ _ _ e2 R2 eM
   ·cases hm
  ·cases hm
 ·split at hm
  ·rename_i ys hb
   split at hm
   ·rename_i hl
    cases hm
    cases ix with
    | rol h1 h2=>
     cases iy
     obtain ⟨ws,h3,h4⟩:=R.lst _ ys hb
     refine .inr (.inr ⟨_,_,_,ws,rfl,rfl,h1.sq,h3,by rw [h2.length,h4.length];exact hl,fun p hp=>?_⟩)
     obtain ⟨e2,R2,q⟩:=R.alloc (c:=.lst (_++ys)) (o:=.lst (_++ws)) hp (h2.append h4)
     exact k _ _ _ e2 R2 eM
   ·cases hm
  ·cases hm
 ·cases hm
noncomputable def fJ (p:Int->Int->Bool):D->D->Hm->Option (D×Hm)
 | .int i,.int j,μ=>some (.bl (p i j),μ)
 | _,_,_=>none
theorem hU {p:Int->Int->Bool}:cP K (fJ p) (fU fun i j=>.bl (p i j)):=by
 intro π H μ x y d μ' vx vy Q R ix iy hm k
 unfold fJ at hm
 split at hm
 ·cases hm
  cases ix
  cases iy
  exact ⟨_,_,rfl,rfl,k π _ H .refl R (.bl _)⟩
 ·cases hm
noncomputable def iQ:=fJ fun i j=>decide (i<j)
noncomputable def vQ:=fJ fun i j=>decide (i<=j)
noncomputable def nG:=fJ fun i j=>decide (j<i)
noncomputable def pL:=fJ fun i j=>decide (j<=i)
noncomputable def vT (K:Ux)(ne:Bool):R2:=fun x y H Q=>∃ π μ dx dy b,Rp K π H μ/\IsD K π μ.length H x dx/\IsD K π μ.length H y dy/\b9 8 μ dx dy=some b/\Q (.bl (if ne then !b else b)) H
theorem By {X:Cx}(hu:X.A.units+8<V3):OpR X (VD .Eq) (vT X.K false):=by
 intro a5f s σ H x y v u Q I rx ry h
 obtain ⟨π,μ,dx,dy,b,R,ix,iy,e,q⟩:=h
 exact (Bp I R 8 hu rx ry ix iy e).1 _ _ _ _ ⟨.bl b,H,I,rfl,q⟩
theorem Bz {X:Cx}(hu:X.A.units+8<V3):OpR X (VD .NotEq) (vT X.K true):=by
 intro a5f s σ H x y v u Q I rx ry h
 obtain ⟨π,μ,dx,dy,b,R,ix,iy,e,q⟩:=h
 exact (Bp I R 8 hu rx ry ix iy e).2 _ _ _ _ ⟨.bl (!b),H,I,rfl,q⟩
noncomputable def aZ (ne:Bool):D->D->Hm->Option (D×Hm):=fun x y μ=>(b9 8 μ x y).map fun b=>(.bl (if ne then !b else b),μ)
theorem rY {ne:Bool}:cP K (aZ ne) (vT K ne):=by
 intro π H μ x y d μ' vx vy Q R ix iy hm k
 obtain ⟨b,h1,h2⟩:=UB.mp hm
 cases h2
 exact ⟨π,μ,x,y,b,R,ix,iy,h1,k π _ H .refl R (.bl _)⟩
noncomputable def vU:D->D->Hm->Option (D×Hm)
 | .str i,.str j,μ=>some (.bl (!(V1 j i 0 j.length 1).isEmpty),μ)
 | _,_,_=>none
theorem BA:cP K vU (fun x y H Q=>∃ i j,x=.str i/\y=.str j/\Q (.bl (!(V1 j i 0 j.length 1).isEmpty)) H):=by
 intro π H μ x y d μ' vx vy Q R ix iy hm k
 unfold vU at hm
 split at hm
 ·cases hm
  cases ix
  cases iy
  exact ⟨_,_,rfl,rfl,k π _ H .refl R (.bl _)⟩
 ·cases hm
end
section
variable {X:Cx}{a b c:UO}{ma mb mc:ME}{pos:Wl}
theorem rZ {k:Nat}{A:Vh}(r:Room k A):A.units+8<V3:=by have:=r.un;omega
theorem jC (ha:PE X a (tM X.K ma)):PE X (.UnaryOp .USub a pos) (tM X.K (fun ρ μ=>(ma ρ μ).bind fun p=>(Bv p.1).map fun d=>(d,p.2))):=cO (HL HR ha) (by
 rintro σ H Q ⟨π,ρ,μ,d,μ',R,E,hm,k⟩
 obtain ⟨⟨x,μ1⟩,h1,hm⟩:=Uw.mp hm
 obtain ⟨y,h2,h3⟩:=UB.mp hm
 cases h3
 cases x with
 | int i=>
  cases h2
  refine ⟨π,ρ,μ,_,_,R,E,h1,fun π1 v1 H1 e1 R1 i1=>?_⟩
  cases i1
  exact ⟨_,rfl,k π1 _ H1 e1 R1 (.int _)⟩
 | _=>cases h2)
theorem Ko {x:Str}{n:String}(hg:Gl X x)(hm:X.mg x=none)(hv:Wa x=some (.type n))(hn:x ≠ "__name__":=by decide) (hd:(x == ("__debug__":Str))=false:=by decide):PE X (.Name x pos) (tM X.K (mC (.ty n))):=
 nA (GN (v:=.ty n) hg hm hv rfl hn hd) fun _ _ _=>.ty n
end
noncomputable def pM (μ:Hm):D->Option String
 | .non=>some "NoneType"
 | .bl _=>some "bool"
 | .int _=>some "int"
 | .str _=>some "str"
 | .tup _=>some "tuple"
 | .rol _=>some "list"
 | .loc a=>match μ[a]? with
  | some (.lst _)=>some "list"
  | some (.dK _)=>some "dict"
  | some (.dT _)=>some "dict"
  | _=>none
 | .ty _=>none
noncomputable def r0 (t c:String):Option Bool:=match c with
 | "int"=>some (t == "int" || t == "bool")
 | "bool"=>some (t == "bool")
 | "str"=>some (t == "str")
 | "list"=>some (t == "list")
 | "tuple"=>some (t == "tuple")
 | "dict"=>some (t == "dict")
 | _=>none
noncomputable def eN:MF:=fun ds μ=>match ds with
 | [x,.ty c]=>(pM μ x).bind fun t=>(r0 t c).map fun b=>(.bl b,μ)
 | _=>none
theorem jX (K:Ux){t c:String}{b:Bool}(ht:t = "NoneType"\/t = "bool"\/t = "int"\/t = "str"\/t = "tuple"\/t = "list"\/t = "dict") (h:r0 t c=some b):a2r K (.type t) (.type c)=some b:=by
 unfold r0 at h
 split at h<;>first
  | cases h;done
  | (have h':=U9 h;subst h'
     rcases ht with rfl|rfl|rfl|rfl|rfl|rfl|rfl<;>first|rfl|decide +kernel|(unfold a2r;simp;rfl))
end L3
namespace L3
open PySem L2
noncomputable abbrev MG:=D->aL->Hm->Option aL
noncomputable def fY (K:Ux)(g:MG):TG:=fun v σ H Q=>∃ π ρ μ d ρ',Rp K π H μ/\En K π μ.length H σ ρ/\IsD K π μ.length H v d/\g d ρ μ=some ρ'/\∀ σ',En K π μ.length H σ' ρ'->Q σ' H
noncomputable def cH (i:Nat):MG:=fun d ρ _=>some (ρ.set i (some d))
section
variable {X:Cx}{pos:Wl}
theorem BB {i:Nat}{x:Str}(hN:X.N.Nodup)(hi:X.N[i]? = some x)(hx:Loc X.env.scope x)(hf:X.fn x=true\/X.env.scope.names.lookup x=some .local:=by first|exact .inl rfl|exact .inr rfl|assumption):PG X (.Name x pos) (fY X.K (cH i)):=by
 intro a5f s σ H v u Q I r h
 obtain ⟨π,ρ,μ,d,ρ',R,E,hd,hm,k⟩:=h
 cases hm
 exact Ak hN hi hx hf a5f s σ H v u Q I r (k _ (E.set hd i))
noncomputable def Kp (K:Ux)(tl:TE):TI:=fun σ H R=>tl σ H fun x H1=>∃ a,x=.ref a/\(((∃ xs,SqL K H1 a xs)/\R (uR K a) H1)\/((∃ xs,SqT K H1 a xs)/\R (uS K a) H1))
theorem Kq {l tg:UO}{tl:TE}(hl:PE X l tl):PI X tg l (Kp X.K tl):=by
 intro a5f s σ H R I h
 refine aU (hl a5f s σ H _ I h) fun v s1 ⟨x,H1,I1,r1,q1⟩=>?_
 obtain ⟨a,e,q⟩:=q1
 subst e
 cases r1
 rcases q with ⟨⟨xs,hq⟩,q⟩|⟨⟨xs,hq⟩,q⟩
 ·obtain ⟨its,rv,p,hz⟩:=I1.list hq
  refine Yi p.isList ?_
  refine ⟨s1.heap.objs.size,[s1.heap.objs.size],_,_,H1,rfl,I1.kept (t':=s1.toks) fun b o e=>UD _ e,Hy a _,⟨_,UT _ rfl,rfl,rfl⟩,fun b hb=>?_,q⟩
  have e:b=s1.heap.objs.size:=by simpa using hb
  subst e
  exact I1.fpOk (UJ _) (I1.hok.fresh (UJ _))
 ·obtain ⟨its,rv,p,hz⟩:=I1.tuple hq
  refine Y0 (show s1.heap.IsTuple a its.toArray from p) ?_
  refine ⟨s1.heap.objs.size,[s1.heap.objs.size],_,_,H1,rfl,I1.kept (t':=s1.toks) fun b o e=>UD _ e,Hz a _,⟨_,UT _ rfl,rfl,rfl⟩,fun b hb=>?_,q⟩
  have e:b=s1.heap.objs.size:=by simpa using hb
  subst e
  exact I1.fpOk (UJ _) (I1.hok.fresh (UJ _))
end
structure Wk (K:Ux)(J:It)(src:Hm->Nat->Option (Option D))(π:Nat->Addr)(n:Nat)(H:Hp):Prop where
 stop:∀ π' μ H' i,Ext π n H π' μ.length H'->Rp K π' H' μ->src μ i=some none->J.stop i H'
 go:∀ π' μ H' i d,Ext π n H π' μ.length H'->Rp K π' H' μ->src μ i=some (some d)->J.go i H'/\∀ x H2,J.yld i H' x H2->Ext π' μ.length H' π' μ.length H2/\Rp K π' H2 μ/\IsD K π' μ.length H2 x d
noncomputable def jY (x:D):Hm->Nat->Option (Option D):=fun μ i=>(bI μ x).map fun xs=>xs[i]?
theorem Kr {K:Ux}{π:Nat->Addr}{μ:Hm}{H:Hp}{v:V}{x:D}{xs:List D}(R:Rp K π H μ)(h:IsD K π μ.length H v x)(hs:bI μ x=some xs) :
  ∃ a,v=.ref a/\(((∃ vs,SqL K H a vs)/\Wk K (uR K a) (jY x) π μ.length H)\/((∃ vs,SqT K H a vs)/\Wk K (uS K a) (jY x) π μ.length H)):=by
 cases h with
 | @tup p vs ds q t=>
  refine ⟨p,rfl,.inr ⟨⟨vs,q⟩,⟨fun π' μ' H' i e R' z=>?_,fun π' μ' H' i d e R' z=>?_⟩⟩⟩
  ·simp only [jY,bI,U7] at z
   have z':ds[i]? = none:=U9 z
   exact ⟨vs,e.sqT q,by rw [t.length];exact VF.mp z'⟩
  ·simp only [jY,bI,U7] at z
   have z':ds[i]? = some d:=U9 z
   obtain ⟨w,h1,h2⟩:=t.get z'
   refine ⟨⟨vs,w,e.sqT q,h1⟩,fun y H2 ⟨e1,e2⟩=>?_⟩
   subst e1
   have:=e2 vs (e.sqT q)
   rw [h1] at this
   cases this
   exact ⟨.refl,R',h2.mono e⟩
 | @rol p vs ds q t=>
  refine ⟨p,rfl,.inl ⟨⟨vs,q.sq⟩,⟨fun π' μ' H' i e R' z=>?_,fun π' μ' H' i d e R' z=>?_⟩⟩⟩
  ·simp only [jY,bI,U7] at z
   have z':ds[i]? = none:=U9 z
   exact ⟨vs,(e.roL q).sq,by rw [t.length];exact VF.mp z'⟩
  ·simp only [jY,bI,U7] at z
   have z':ds[i]? = some d:=U9 z
   obtain ⟨w,h1,h2⟩:=t.get z'
   refine ⟨⟨vs,w,(e.roL q).sq,h1⟩,fun y H2 ⟨e1,e2⟩=>?_⟩
   subst e1
   have:=e2 vs (e.roL q).sq
   rw [h1] at this
   cases this
   exact ⟨.refl,R',h2.mono e⟩
 | @loc a ha=>
  have hc:∃ vs,H (π a)=some (.lst vs):=by
   simp only [bI] at hs
   split at hs
   ·rename_i ys hy
    obtain ⟨vs,h1,_⟩:=R.lst a ys hy
    exact ⟨vs,h1⟩
   ·cases hs
  obtain ⟨vs0,hv0⟩:=hc
  refine ⟨π a,rfl,.inl ⟨⟨vs0,.of hv0⟩,⟨fun π' μ' H' i e R' z=>?_,fun π' μ' H' i d e R' z=>?_⟩⟩⟩
  ·simp only [jY,bI] at z
   split at z
   ·rename_i ys hy
    obtain ⟨vs,h1,h2⟩:=R'.lst a ys hy
    rw [e.pi a ha] at h1
    have z':ys[i]? = none:=U9 z
    exact ⟨vs,.of h1,by rw [h2.length];exact VF.mp z'⟩
   ·cases z
  ·simp only [jY,bI] at z
   split at z
   ·rename_i ys hy
    obtain ⟨vs,h1,h2⟩:=R'.lst a ys hy
    rw [e.pi a ha] at h1
    have z':ys[i]? = some d:=U9 z
    obtain ⟨w,h3,h4⟩:=h2.get z'
    refine ⟨⟨vs,w,.of h1,h3⟩,fun y H2 ⟨e1,e2⟩=>?_⟩
    subst e1
    have:=e2 vs (.of h1)
    rw [h3] at this
    cases this
    exact ⟨.refl,R',h4⟩
   ·cases z
 | _=>cases hs
noncomputable def eX (src:Hm->Nat->Option (Option D))(g:MG)(b:MS):Nat->Nat->MS
 | 0,_,_,_=>none
 | n+1,i,ρ,μ=>(src μ i).bind fun o=>match o with
  | none=>some (.nx,ρ,μ)
  | some d=>(g d ρ μ).bind fun ρ1=>(b ρ1 μ).bind fun p=>match p.1 with
   | .nx=>eX src g b n (i+1) p.2.1 p.2.2
   | .ct=>eX src g b n (i+1) p.2.1 p.2.2
   | .bk=>some (.nx,p.2.1,p.2.2)
   | .rt d=>some (.rt d,p.2.1,p.2.2)
theorem Ks {K:Ux}{J:It}{src:Hm->Nat->Option (Option D)}{g:MG}{b:MS}{π:Nat->Addr}{n0:Nat}{H0:Hp}(W:Wk K J src π n0 H0){E:Ends}{fl:Fl}{ρ':aL}{μ':Hm}(hE:lU K E π n0 H0 fl ρ' μ')
  {π1:Nat->Addr}{μ1:Hm}{H1:Hp}{ρ1:aL}{σ1:St}{n:Nat}(e1:Ext π n0 H0 π1 μ1.length H1)(R1:Rp K π1 H1 μ1)(E1:En K π1 μ1.length H1 σ1 ρ1)(h:eX src g b n 0 ρ1 μ1=some (fl,ρ',μ')) :
  ∃ Wd:Nat->Nat->St->Hp->Prop,(∃ m,Wd 0 m σ1 H1)/\∀ i m σ H,Wd i m σ H->
   (J.stop i H/\E.nx σ H)\/(J.go i H/\∃ N:St->Hp->Prop,(∀ σ' H',N σ' H'->∃ m',m'<m/\Wd (i+1) m' σ' H')/\∀ x H',J.yld i H x H'->fY K g x σ H' fun σ2 H2=>dB K b { E with nx:=N,ct:=N,bk:=E.nx } σ2 H2):=by
 have lift:∀ {π2:Nat->Addr}{n2:Nat}{H2:Hp}(e:Ext π n0 H0 π2 n2 H2){fl:Fl}{ρ':aL}{μ':Hm},lU K E π n0 H0 fl ρ' μ'->lU K E π2 n2 H2 fl ρ' μ':=fun {π2 n2 H2} e {fl ρ' μ'} k=>by
  cases fl with
  | nx=>exact fun π3 σ3 H3 e3 R3 E3=>k π3 σ3 H3 (e.trans e3) R3 E3
  | bk=>exact fun π3 σ3 H3 e3 R3 E3=>k π3 σ3 H3 (e.trans e3) R3 E3
  | ct=>exact fun π3 σ3 H3 e3 R3 E3=>k π3 σ3 H3 (e.trans e3) R3 E3
  | rt d=>exact KC.after k e
 refine ⟨fun i m σ H=>∃ π2 μ2 ρ2,Ext π n0 H0 π2 μ2.length H/\Rp K π2 H μ2/\En K π2 μ2.length H σ ρ2/\eX src g b m i ρ2 μ2=some (fl,ρ',μ'),⟨n,π1,μ1,ρ1,e1,R1,E1,h⟩,?_⟩
 rintro i m σ H ⟨π2,μ2,ρ2,e2,R2,E2,h2⟩
 cases m with
 | zero=>cases h2
 | succ m=>
  obtain ⟨o,h3,h4⟩:=Uw.mp h2
  cases o with
  | none=>
   cases h4
   exact .inl ⟨W.stop π2 _ H i e2 R2 h3,hE π2 σ H e2 R2 E2⟩
  | some d=>
   obtain ⟨g1,g2⟩:=W.go π2 μ2 H i d e2 R2 h3
   obtain ⟨ρ3,h5,h6⟩:=Uw.mp h4
   obtain ⟨⟨f4,ρ4,μ4⟩,h7,h8⟩:=Uw.mp h6
   refine .inr ⟨g1,fun σ' H'=>∃ π5 ρ5 μ5,Ext π n0 H0 π5 μ5.length H'/\Rp K π5 H' μ5/\En K π5 μ5.length H' σ' ρ5/\eX src g b m (i+1) ρ5 μ5=some (fl,ρ',μ'),
    fun σ' H' ⟨π5,ρ5,μ5,a1,a2,a3,a4⟩=>⟨m,XI _,π5,μ5,ρ5,a1,a2,a3,a4⟩,fun x H' y=>?_⟩
   obtain ⟨ex,Rx,hx⟩:=g2 x H' y
   have e2:=e2.trans ex
   refine ⟨π2,ρ2,μ2,d,ρ3,Rx,E2.mono ex,hx,h5,fun σ3 E3=>⟨π2,ρ3,μ2,f4,ρ4,μ4,Rx,E3,h7,?_⟩⟩
   cases f4 with
   | nx=>exact fun π5 σ5 H5 e5 R5 E5=>⟨π5,ρ4,μ4,e2.trans e5,R5,E5,h8⟩
   | ct=>exact fun π5 σ5 H5 e5 R5 E5=>⟨π5,ρ4,μ4,e2.trans e5,R5,E5,h8⟩
   | bk=>
    cases h8
    exact fun π5 σ5 H5 e5 R5 E5=>hE π5 σ5 H5 (e2.trans e5) R5 E5
   | rt d'=>
    cases h8
    exact KC.after hE e2
section
variable {X:Cx}{pos:Wl}{tg iter:UO}{body:List Stmt}{mi:ME}{g:MG}{mb:MS}
noncomputable def fZ (lo:Int)(n:Nat):Hm->Nat->Option (Option D):=fun _ i=>some (if i<n then some (.int (lo+i)) else none)
theorem BC {K:Ux}{lo:Int}{k:Nat}{π:Nat->Addr}{n:Nat}{H:Hp}:Wk K (pE lo k) (fZ lo k) π n H:=by
 refine ⟨fun π' μ H' i e R z=>?_,fun π' μ H' i d e R z=>?_⟩
 ·have z':=U9 z
  split at z'
  ·cases z'
  ·exact XC.mp (by assumption)
 ·have z':=U9 z
  split at z'
  ·cases z'
   rename_i h
   exact ⟨h,fun x H2 ⟨e1,e2⟩=>by subst e1;rw [e2];exact ⟨.refl,R,.int _⟩⟩
  ·cases z'
end
end L3
namespace L3
open PySem L2
noncomputable def nH (y:Str):Str:="#"++y
noncomputable def bL (xs N:List Str):List Str:=N.map fun y=>if xs.contains y then nH y else y
theorem lV (xs N:List Str):(bL xs N).length=N.length:=by unfold bL;simp
theorem Kt {xs N:List Str}{i:Nat}{y:Str}(h:(bL xs N)[i]? = some y):∃ y0,N[i]? = some y0/\((xs.contains y0=true/\y=nH y0)\/(xs.contains y0=false/\y=y0)):=by
 unfold bL at h
 rw [Vd] at h
 obtain ⟨y0,h1,h2⟩:=UB.mp h
 refine ⟨y0,h1,?_⟩
 cases hc:xs.contains y0 with
 | true=>rw [hc] at h2;exact .inl ⟨rfl,by simpa using h2.symm⟩
 | false=>rw [hc] at h2;exact .inr ⟨rfl,by simpa using h2.symm⟩
noncomputable def cX (X:Cx)(scope:Xf)(cl:List (Str×Addr))(C:Addr)(N:List Str)(s₀:UE)(H₀:Hp)(fp:List Addr):Cx:=
 { X with N:=N,s₀:=s₀,H₀:=H₀,env:=Yk scope cl C X.env,outer:=X.stack,stack:=X.stack,ex:=fp,fn:=fun _=>false,pn:=[],xe:=fun _ _=>False }
theorem BE {env:ZZ}:∀ (names:List (Str×W3))(x:Str),(names.map fun (n,k)=>if (k == WB&&env.scope.kind == .function&&env.kindOf n == some .cell) then (n,WQ) else (n,k)).lookup x
  = (names.lookup x).map fun k=>if (k == WB&&env.scope.kind == .function&&env.kindOf x == some .cell) then WQ else k
 | [],_=>rfl
 | (n,k)::r,x=>by
  have ih:=BE (env:=env) r x
  rw [UQ]
  by_cases hx:x=n
  ·subst hx
   have key:∀ (k':W3)(l:List (Str×W3)),Zm x ((x,k')::l)=some k':=fun k' l=>by simp [Yg]
   rw [key]
   show Zm x ((if (k == WB&&env.scope.kind == .function&&env.kindOf x == some .cell)=true then (x,WQ) else (x,k))::_)=some (if (k == WB&&env.scope.kind == .function&&env.kindOf x == some .cell)=true then WQ else k)
   split
   ·rw [key]
   ·rw [key]
  ·have hx':(x == n)=false:=by simpa using hx
   have key:∀ (k':W3)(l:List (Str×W3)),Zm x ((n,k')::l)=Zm x l:=fun k' l=>by simp only [Yg,hx']
   rw [key]
   show Zm x ((if (k == WB&&env.scope.kind == .function&&env.kindOf n == some .cell)=true then (n,WQ) else (n,k))::_)=_
   split
   ·rw [key]
    exact ih
   ·rw [key]
    exact ih
structure CompOk (X:Cx)(scope:Xf)(cl:List (Str×Addr))(xs:List Str):Prop where
 clos:a3v scope X.env=pure cl
 nocell:∀ y∈scope.names,y.2≠.cell
 kind:scope.kind=.function
 names:∀ y∈scope.names,y.2=.local->scope.names.lookup y.1=some .local
 here:∀ x∈xs,scope.names.lookup x=some .local
 sub:∀ y c,cl.lookup y=some c->X.env.cells.lookup y=some c
 free:∀ y,scope.names.lookup y=some .free->(X.env.kindOf y=some .cell\/X.env.kindOf y=some .free)/\∃ c,cl.lookup y=some c
 own:∀ y,scope.names.lookup y=some .local->y∉bL xs X.N
 hidn:∀ y∈X.N,xs.contains y=true->scope.names.lookup (nH y)=none
section
variable {X:Cx}{scope:Xf}{cl:List (Str×Addr)}{xs:List Str}
theorem CompOk.kindOf (O:CompOk X scope cl xs)(C:Addr)(y:Str):(Yk scope cl C X.env).kindOf y=(scope.names.lookup y).map fun k=>if (k == WB&&X.env.scope.kind == .function&&X.env.kindOf y == some .cell) then WQ else k:=
 BE scope.names y
theorem CompOk.outer (O:CompOk X scope cl xs){C:Addr}{y:Str}(h:(Yk scope cl C X.env).kindOf y=some .cell\/(Yk scope cl C X.env).kindOf y=some .free):scope.names.lookup y=some .free:=by
 rw [O.kindOf] at h
 cases q:scope.names.lookup y with
 | none=>rw [q] at h;rcases h with h|h<;>cases h
 | some k=>
  rw [q] at h
  cases k with
  | free=>rfl
  | cell=>exact absurd rfl (O.nocell _ (VQ q))
  | «local»=>rcases h with h|h<;>simp at h
  | globalExplicit=>rcases h with h|h<;>simp at h
  | globalImplicit=>rcases h with h|h<;>simp at h
theorem CompOk.inv {a5f:List (Addr×Wf)}{σ:St}{H:Hp}{s:UE}{fp:List Addr}{h₁:VL}{tk:Nat}(O:CompOk X scope cl xs)(I:Inv X a5f σ H s)(hfp:∀ b∈fp,fF X a5f H b)(hob:∀ b∈fp,∃ o,s.heap.get? b=some o){m:Str->Option UC}
  (hns:h₁.Ns s.heap.objs.size m)(hk:∀ b o,s.heap.get? b=some o->h₁.get? b=some o) :
  Inv (cX X scope cl s.heap.objs.size (bL xs X.N++xs) s H fp) [] (σ++Vi xs.length none) H { s with heap:=h₁,toks:=tk }:=by
 refine ⟨⟨I.ok.mod,O.kind,I.ok.glob,I.ok.blt,UJ _,fun y z c h1 h2=>?_,fun y hy=>?_,(fun y c h=>by cases h),I.ok.hd,I.ok.frames,.inl rfl,fun b hb=>?_,fun b o e=>I.bs b o e,VG I.ok.bsz I.sz,fun b o e hb=>?_,fun b hb hb2=>?_,I.stack,I.stkFree⟩,
  rfl,I.bare,Un.kept hk,⟨m,hns,fun i y v h1 h2 h3=>?_⟩,fun y c h=>?_,I.hok.fresh (UJ _),fun y c h=>I.freeC y c (O.sub y c h),fun p hp=>absurd (show p∈([]:List (Addr×Wf)) from hp) (by simp),I.hok.kept hk,?_⟩
 ·exact I.ok.inj y z c (O.sub y c h1) (O.sub z c h2)
 ·exact (O.free y (O.outer hy)).2
 ·obtain ⟨f0,f1,f2,f3,f4,f5⟩:=hfp b hb
  obtain ⟨o,ho⟩:=hob b hb
  exact ⟨UY (UK ho),fun y c h=>f4 y c (O.sub y c h)⟩
 ·obtain ⟨f0,f1,f2,f3,f4,f5⟩:=hfp b hb
  rcases f3 with f3|f3
  ·exact I.ok.noex b o e f3
  ·exact absurd (Vg (UK (I.ok.bs b o e).1) f3) (WJ _)
 ·obtain ⟨f0,f1,f2,f3,f4,f5⟩:=hfp b hb
  rcases U6.mp (I.stkSub b hb2) with z|z
  ·exact f1 z
  ·exact f2 z
 ·have hi:i<σ.length:=by
   by_cases hi:i<σ.length
   ·exact hi
   ·rw [Wq (XC.mp hi),W6] at h2
    split at h2<;>cases h2
  rw [Vt hi] at h2
  have h0':(bL xs X.N)[i]? = some y:=by
   have h1'':(bL xs X.N++xs)[i]? = some y:=h1
   rw [Vt (by rw [lV,<- I.len];exact hi)] at h1''
   exact h1''
  have notown:scope.names.lookup y≠some .local:=fun z=>O.own y z (Ve h0')
  have hk':=O.kindOf s.heap.objs.size y
  have h1':X.N[i]? = some y:=by
   obtain ⟨y0,q1,q2⟩:=Kt h0'
   rcases q2 with ⟨q2,q3⟩|⟨q2,q3⟩
   ·exfalso
    have hz:=O.hidn y0 (Ve q1) q2
    rw [<- q3] at hz
    rw [hz] at hk'
    have h3':(Yk scope cl s.heap.objs.size X.env).kindOf y=some .local\/(Yk scope cl s.heap.objs.size X.env).kindOf y=some .cell\/(Yk scope cl s.heap.objs.size X.env).kindOf y=some .free:=h3
    rw [hk'] at h3'
    rcases h3' with h3'|h3'|h3'<;>cases h3'
   ·rw [q3];exact q1
  have h3':(Yk scope cl s.heap.objs.size X.env).kindOf y=some .cell\/(Yk scope cl s.heap.objs.size X.env).kindOf y=some .free:=by
   rcases h3 with h3|h3|h3
   ·exfalso
    have h3':(Yk scope cl s.heap.objs.size X.env).kindOf y=some .local:=h3
    rw [hk'] at h3'
    cases q:scope.names.lookup y with
    | none=>rw [q] at h3';cases h3'
    | some k=>
     rw [q] at h3'
     cases k with
     | «local»=>exact notown q
     | cell=>simp at h3'
     | free=>
      simp only [U7] at h3'
      split at h3'<;>cases h3'
     | globalExplicit=>simp at h3'
     | globalImplicit=>simp at h3'
   ·exact .inl h3
   ·exact .inr h3
  obtain ⟨hf,c,hc⟩:=O.free y (O.outer h3')
  obtain ⟨m0,hn0,hl0⟩:=I.loc
  obtain ⟨u,r,l⟩:=hl0 i y v h1' h2 (by rcases hf with hf|hf;exact .inr (.inl hf);exact .inr (.inr hf))
  refine ⟨u,r,.inr ⟨h3',c,hc,?_⟩⟩
  rcases l with ⟨lk,_⟩|⟨_,c',e',z⟩
  ·exfalso
   rcases hf with hf|hf
   ·rw [hf] at lk;cases lk
   ·rw [hf] at lk;cases lk
  ·rw [O.sub y c hc] at e'
   cases e'
   obtain ⟨o,ho,hd⟩:=z
   exact ⟨o,hk c o ho,hd⟩
 ·obtain ⟨v,q⟩:=I.cell y c (O.sub y c h)
  exact ⟨v,by obtain ⟨o,ho,hd⟩:=q;exact ⟨o,hk c o ho,hd⟩⟩
 ·show (σ++Vi xs.length none).length=(bL xs X.N++xs).length
  rw [U5,U5,I.len,WM,lV]
theorem CompOk.back {a5f pl:List (Addr×Wf)}{σ σ':St}{H H':Hp}{s s1:UE}{fp:List Addr}{h':VL}{N:List Str}(I:Inv X a5f σ H s)(hfp:∀ b∈fp,fF X a5f H b)
  (J:Inv (cX X scope cl s.heap.objs.size N s H fp) pl σ' H' s1)(hs:∀ b o,b≠s.heap.objs.size->s1.heap.get? b=some o->h'.get? b=some o):Inv X a5f σ H' { s1 with heap:=h' }:=by
 have u:Un (gW X.stack) fp H H' s.heap h':=by
  have u0:Un (gW X.stack) fp H H' s.heap s1.heap:=J.base
  have ne:∀ b o,s.heap.get? b=some o->b≠s.heap.objs.size:=fun b o e=>UY (UK e)
  refine ⟨fun b o e n hb hx=>hs b o (ne b o e) (u0.keep b o e n hb hx),fun b o e n hb hx=>?_,u0.free,fun b o e hx=>?_,u0.tups,u0.frzs,u0.tbls⟩
  ·obtain ⟨sl,q⟩:=u0.slot b o e n hb hx
   exact ⟨sl,hs b _ (ne b o e) q⟩
  ·obtain ⟨o',q⟩:=u0.there b o e hx
   exact ⟨o',hs b _ (ne b o e) q⟩
 have hfree:H' s.heap.objs.size=none:=J.free
 have hok:HOk X.prog X.w H' h':=fun b v e=>by
  refine (J.hok b v e).stay (fun c w hc q=>hs c w ?_ q) (fun _ q=>q) fun _ _ q=>q
  rcases hc with z|z
  ·rw [z]
   intro z2
   rw [z2,hfree] at e
   cases e
  ·intro z2
   rw [z2,hfree] at z
   cases z
 have hos:s1.os=s.os:=J.os
 obtain ⟨hh,g,d,t,os'⟩:=s1
 obtain rfl:os'=s.os:=hos
 have r:=Inv.call (X:=X) (a5f:=a5f) (σ:=σ) (H:=H) (s:=s) (h':=h') (g':=g) (d':=d) (t':=t) (ch:=fp) I u hok J.bare fun b hb=>let ⟨f0,f1,f2,f3,f4,f5⟩:=hfp b hb;⟨f3,f1,f4,f5⟩
 exact r
end
theorem Ku {prog:Va}{w:Vu}{A:Vh}{R:a0l->UE->Prop}{s:UE}{elt target iter:UO}{ifs:List UO}{scope:Xf}{pos:Wl}{it acc:UC}{env:ZZ}(I:Nat->UE->Prop)
  (turn:∀ n s,I n s->U3 (U8 prog w) A (YG it) (fun r s₁=>match r with
   | none=>R (.ok .next) s₁
   | some v=>U3 (U8 prog w) A (Zz target it v) (fun _ s₁'=>U3 (U8 prog w) A (a0k target env v) (fun _ s₂=>
     U3 (U8 prog w) A (forIn ifs true fun c r=>if r=true then do let ok <- a2n c env (eval c env);pure (XF ok) else pure (XF r)) (fun ok s₃=>
      if ok=true then U3 (U8 prog w) A (eval elt env) (fun x s₄=>
       U3 (U8 prog w) A (call (.builtin "list.append") [acc,x]) (fun _ s₅=>∃ m,m<n/\I m s₅) (fun _ _=>False) s₄) (fun _ _=>False) s₃
      else ∃ m,m<n/\I m s₃) (fun _ _=>False) s₂) (fun _ _=>False) s₁') (fun _ _=>False) s₁) (fun _ _=>False) s)
  (n:Nat)(h:I n s) :
  X7 (U8 prog w) A (.compLoop (.ListComp elt [⟨target,iter,ifs,0⟩] scope pos) 0 it acc env) R s:=by
 refine codeAny_loop rfl I (fun n s hI=>?_) n h
 show U3 _ A ((compTurn (.ListComp elt [⟨target,iter,ifs,0⟩] scope pos) 0 it acc env).onRaise (fun x=>do noteFrame x env;theTreesLotGoes x)) _ _ s
 refine wpAny_noted ?_
 rw [compTurn_list]
 refine Uy (a1S (Uy (VP (turn n s hI) (fun r s₁ h₁=>?_) fun _ _ h'=>h'.elim)))
 cases r with
 | none=>exact UG h₁
 | some v=>
  refine Uy (VP h₁ (fun _ s₁' h₁'=>?_) fun _ _ h'=>h'.elim)
  refine Uy (VP h₁' (fun _ s₂ h₂=>Uy (VP h₂ (fun ok s₃ h₃=>?_) fun _ _ h'=>h'.elim)) fun _ _ h'=>h'.elim)
  cases ok with
  | false=>exact UG ⟨rfl,h₃⟩
  | true=>
   exact Uy (Uy (VP h₃ (fun x s₄ h₄=>Uy (VP h₄ (fun _ s₅ h₅=>UG (UG ⟨rfl,h₅⟩)) fun _ _ h'=>h'.elim)) fun _ _ h'=>h'.elim))
noncomputable def nI (μ:Hm)(a:Nat)(y:D):Option Hm:=match μ[a]? with
 | some (.lst xs)=>if xs.length<UM then some (μ.set a (.lst (xs++[y]))) else none
 | _=>none
noncomputable abbrev BD:=D->Hm->Option aL
noncomputable def pN:BD:=fun d _=>some [some d]
noncomputable def vV (k:Nat):BD:=fun d μ=>(bI μ d).bind fun xs=>if xs.length=k then some (xs.map some) else none
noncomputable def f6 (src:Hm->Nat->Option (Option D))(bd:BD)(c:MT)(e:ME)(ρ:aL)(a0:Nat):Nat->Nat->Hm->Option Hm
 | 0,_,_=>none
 | n+1,i,μ=>(src μ i).bind fun o=>match o with
  | none=>some μ
  | some d=>(bd d μ).bind fun x=>(c (ρ++x) μ).bind fun p=>match p.1 with
   | true=>(e (ρ++x) p.2).bind fun q=>(nI q.2 a0 q.1).bind fun μ3=>f6 src bd c e ρ a0 n (i+1) μ3
   | false=>f6 src bd c e ρ a0 n (i+1) p.2
noncomputable def f7:MT:=fun _ μ=>some (true,μ)
noncomputable def nJ (X:Cx)(ifs:List UO)(m:MT):Prop:=
 ∀ (a5f:List (Addr×Wf))(s:UE)(σ:St)(H:Hp)(Q:Bool->Hp->Prop),Inv X a5f σ H s->c6 X.K m σ H Q->
  U3 (U8 X.prog X.w) X.A (forIn ifs true fun c r=>if r=true then do let ok <- a2n c X.env (eval c X.env);pure (XF ok) else pure (XF r)) (TP X a5f σ Q) X.xe s
theorem Kw {X:Cx}:nJ X [] f7:=by
 intro a5f s σ H Q I h
 obtain ⟨π,ρ,μ,b,μ',R,E,hm,k⟩:=h
 cases hm
 exact wpAny_tests_nil ⟨H,I,k π H .refl R⟩
theorem Ky {X:Cx}{c:UO}{m:MT}(h:PT X c (c6 X.K m)):nJ X [c] m:=fun a5f s σ H Q I q=>wpAny_tests_one (h a5f s σ H Q I q)
end L3
namespace L3
open PySem L2
section
variable {prog:Va}{w:Vu}{A:Vh}{E:UC->UE->Prop}{s:UE}
theorem BF {it t:Addr}{items:Array UC}(hne:t≠it):∀ (n i:Nat)(s:UE)(Q:List UC->UE->Prop),s.heap.IsListIter it t i->s.heap.IsList t items->i+n<=items.size->
  (∀ h',h'.IsListIter it t (i+n)->WX it s.heap h'->Q ((items.toList.drop i).take n) { s with heap:=h' })->U3 (U8 prog w) A (draw (.ref it) n) Q E s
 | 0,i,s,Q,hit,_,_,hQ=>by
  show U3 _ _ (pure []) Q E s
  exact UG (by simpa using hQ s.heap hit (a0Z ..))
 | n+1,i,s,Q,hit,ht,hle,hQ=>by
  have hlt:i<items.size:=by omega
  show U3 _ _ (YG (.ref it) >>= _) Q E s
  refine Uy (Zo hit ht (x:=items[i]) (by simp [hlt]) fun h₁ hit₁ hs₁=>?_)
  refine Uy (Vy (BF hne n (i+1) _ _ hit₁ (ht.extBut hs₁.extBut hne) (by omega) fun h₂ hit₂ hs₂=>UG ?_))
  have hd:items.toList.drop i=items[i]::items.toList.drop (i+1):=by simp [YM,hlt]
  have:=hQ h₂ (by rw [show i+(n+1)=i+1+n by omega];exact hit₂) (hs₁.trans hs₂)
  rw [hd,List.take_succ_cons] at this
  exact this
theorem Kz {t:Addr}{items:Array UC}{Q:List UC->UE->Prop}(hh:A.handled=none)(ht:s.heap.IsList t items)
  (hQ:∀ h',a0o s.heap.objs.size s.heap h'->Q items.toList { s with heap:=h' }):U3 (U8 prog w) A (unpackItems (.ref t) items.size none) Q E s:=by
 have hlt:t≠s.heap.objs.size:=by obtain ⟨o,ho,_⟩:=ht;exact UY (UK ho)
 unfold unpackItems
 refine Uy ?_
 ·unfold notIterableAtAll
  refine Uy (X5 ht.typeIs slot_list_iter.lookup ?_)
  refine UG ?_
  simp only [UN,if_false]
  refine Uy (Vy (Yi ht ?_))
  refine Uy (Vy (BF hlt items.size 0 _ _ ⟨_,UT _ rfl,rfl,rfl⟩ (ht.push _) (by omega) fun h₁ hit₁ hs₁=>?_))
  have hall:List.take items.size (List.drop 0 items.toList)=items.toList:=by
   rw [a0N];exact Xc (by simp)
  rw [hall]
  rw [if_neg (by simp)]
  have ht₁:h₁.IsList t items:=(ht.push _).extBut hs₁.extBut hlt
  refine Uy (Vy (ZE hh hit₁ ht₁ (by simp) fun h₂ he₂=>?_))
  simp only [Option.isSome_none,UN,if_false]
  refine UG (hQ h₂ fun b o hb e=>he₂ b o hb (hs₁.extBut b o hb (UD _ e)))
theorem KA {env:ZZ}{elts:List UO} {x1} {pos:Wl}{t:Addr}{items:Array UC}{Q:Unit->UE->Prop}(hh:A.handled=none)(ht:s.heap.IsList t items)
  (hn:(WH elts env).length=items.size)(hstar:(WH elts env).findIdx? (·.1)=none)
  (h:∀ h',a0o s.heap.objs.size s.heap h'->U3 (U8 prog w) A (assignInOrder ((WH elts env).map (·.2)) items.toList) Q E { s with heap:=h' }) :
  U3 (U8 prog w) A (a0k (.Tuple elts x1 pos) env (.ref t)) Q E s:=by
 rw [a4F]
 refine Uy (a1S ?_)
 unfold unpack
 rw [hn,hstar]
 exact Uy (Vy (Kz hh ht h))
end
noncomputable def lW:aL->List Nat->List D->aL
 | ρ,i::is,x::xs=>lW (ρ.set i (some x)) is xs
 | ρ,_,_=>ρ
noncomputable def c7 (is:List Nat):MG:=fun d ρ μ=>(bI μ d).bind fun xs=>if xs.length=is.length then some (lW ρ is xs) else none
noncomputable def r6:List Nat->m7
 | []=>Al
 | i::r=>Am (uQ i) (r6 r)
theorem vW {K:Ux}{π:Nat->Addr}{n:Nat}{H:Hp}:∀ (is:List Nat){vs:List V}{xs:List D}{σ:St}{ρ:aL}{Q:St->Hp->Prop},IsDs K π n H vs xs->En K π n H σ ρ->xs.length=is.length->(∀ σ',En K π n H σ' (lW ρ is xs)->Q σ' H)->r6 is vs σ H Q
 | [],vs,xs,σ,ρ,Q,h,E,hl,k=>by
  cases h with
  | nil=>exact ⟨rfl,k σ E⟩
  | cons h t=>cases hl
 | i::is,vs,xs,σ,ρ,Q,h,E,hl,k=>by
  cases h with
  | nil=>cases hl
  | cons h t=>exact ⟨_,_,rfl,vW is t (E.set h i) (by simpa using hl) k⟩
section
variable {X:Cx}{pos:Wl}
theorem KG {es:List UO}{k:Nat}{is:List Nat}(hc:X.calm=true)(h:pD X es (r6 is))(hn:(WH es X.env).length=is.length:=by rfl)(hst:(WH es X.env).findIdx? (·.1)=none:=by rfl) :
  PG X (.Tuple es k pos) (fY X.K (c7 is)):=by
 intro a5f s σ H v u Q I r hw
 obtain ⟨π,ρ,μ,d,ρ',R,E,hd,hm,kk⟩:=hw
 obtain ⟨xs,h1,h2⟩:=Uw.mp hm
 split at h2
 ·rename_i hl
  cases h2
  have both:(∃ a vs,v=.ref a/\SqT X.K H a vs/\IsDs X.K π μ.length H vs xs)\/(∃ a vs,v=.ref a/\SqL X.K H a vs/\IsDs X.K π μ.length H vs xs):=by
   cases hd with
   | tup q t=>cases h1;exact .inl ⟨_,_,rfl,q,t⟩
   | rol q t=>cases h1;exact .inr ⟨_,_,rfl,q.sq,t⟩
   | @loc a ha=>
    simp only [bI] at h1
    split at h1
    ·rename_i ys hy
     cases h1
     obtain ⟨vs,h3,h4⟩:=R.lst a xs hy
     exact .inr ⟨_,vs,rfl,.of h3,h4⟩
    ·cases h1
   | _=>cases h1
  rcases both with ⟨a,vs,rfl,q,t⟩|⟨a,vs,rfl,q,t⟩
  ·cases r
   obtain ⟨its,rv,ht,hz⟩:=I.tuple q
   have hlen:its.length=is.length:=by rw [<- rv.length,t.length];exact hl
   refine a4E (I.ok.hd hc) ht (by simp [hn,hlen]) hst fun h' hx=>?_
   have I1:Inv X a5f σ H { s with heap:=h' }:=I.kept (t':=s.toks) fun b o e=>hx b o (UY (UK e)) e
   exact h a5f _ σ H vs _ Q I1 (by simpa using rv) (vW is t E hl kk)
  ·cases r
   obtain ⟨its,rv,ht,hz⟩:=I.list q
   have hlen:its.length=is.length:=by rw [<- rv.length,t.length];exact hl
   refine KA (I.ok.hd hc) ht.isList (by simp [hn,hlen]) hst fun h' hx=>?_
   have I1:Inv X a5f σ H { s with heap:=h' }:=I.kept (t':=s.toks) fun b o e=>hx b o (UY (UK e)) e
   exact h a5f _ σ H vs _ Q I1 (by simpa using rv) (vW is t E hl kk)
 ·cases h2
noncomputable def fK (m:ME)(g:MG):MS:=fun ρ μ=>(m ρ μ).bind fun p=>(g p.1 ρ p.2).map fun ρ'=>(.nx,ρ',p.2)
theorem KH {tg e:UO}{m:ME}{g:MG}(he:PE X e (tM X.K m))(hg:PG X tg (fY X.K g))(hs:swapsWithSole [tg] e pos.line X.env=pure false:=by rfl)(hw:a1U [tg] e X.env=pure none:=by rfl)
  (h1:(WH [tg] X.env).map (·.2)=[a0k tg X.env]:=by rfl):PS X (.Assign [tg] e pos) (dB X.K (fK m g)):=iN (Hu he hg hs hw h1) (by
 rintro E σ H ⟨π,ρ,μ,fl,ρ',μ',R,EN,hm,k⟩
 obtain ⟨⟨x,μ1⟩,h1,hm⟩:=Uw.mp hm
 obtain ⟨ρ1,h2,hm⟩:=UB.mp hm
 cases hm
 exact ⟨π,ρ,μ,x,μ1,R,EN,h1,fun π1 v1 H1 e1 R1 i1=>⟨π1,ρ,_,x,_,R1,EN.mono e1,i1,h2,fun σ' E'=>k π1 σ' H1 e1 R1 E'⟩⟩)
end
section
variable {X:Cx}{K:Ux}
noncomputable def pO:MF:=fun ds μ=>match ds with
 | [.str z]=>if z.length<=UM then some (.int z.length,μ) else none
 | [x]=>(bI μ x).map fun xs=>(.int xs.length,μ)
 | _=>none
noncomputable def vX (K:Ux):List V->Hp->VK->Prop:=fun xs H Q=>(∃ p ys,xs=[.ref p]/\(SqL K H p ys\/SqT K H p ys)/\Q (.int ys.length) H)\/(∃ z,xs=[.str z]/\z.length<=UM/\Q (.int z.length) H)
theorem call_lenM:CallR X (.builtin "len") (vX X.K):=call_len_seq.or IV
theorem lX {π:Nat->Addr}{μ:Hm}{H:Hp}{v:V}{x:D}{xs:List D}(R:Rp K π H μ)(h:IsD K π μ.length H v x)(e:bI μ x=some xs):∃ p vs,v=.ref p/\(SqL K H p vs\/SqT K H p vs)/\IsDs K π μ.length H vs xs:=by
 cases h with
 | tup q t=>cases e;exact ⟨_,_,rfl,.inr q,t⟩
 | rol q t=>cases e;exact ⟨_,_,rfl,.inl q.sq,t⟩
 | @loc a ha=>
  simp only [bI] at e
  split at e
  ·rename_i ys hy
   cases e
   obtain ⟨vs,h3,h4⟩:=R.lst a xs hy
   exact ⟨_,vs,rfl,.inl (.of h3),h4⟩
  ·cases e
 | _=>cases e
theorem BG:dC K pO (vX K):=by
 intro π H μ xs d μ' vs Q R i hm k
 unfold pO at hm
 split at hm
 ·split at hm
  ·rename_i hl
   cases hm
   cases i with
   | cons i t=>cases i;cases t;exact .inr ⟨_,rfl,hl,k π _ H .refl R (.int _)⟩
  ·cases hm
 ·obtain ⟨ys,h1,h2⟩:=UB.mp hm
  cases h2
  cases i with
  | cons i t=>
   cases t
   obtain ⟨p,ws,rfl,q,hd⟩:=lX R i h1
   refine .inl ⟨p,ws,rfl,q,?_⟩
   rw [hd.length]
   exact k π _ H .refl R (.int _)
 ·cases hm
noncomputable def nK:MF:=fun ds μ=>match ds with
 | [.int i]=>some (.int i,μ)
 | [.bl b]=>some (.int (if b then 1 else 0),μ)
 | _=>none
theorem KI:dC K nK (fun xs H Q=>(∃ i,xs=[.int i]/\Q (.int i) H)\/∃ k,xs=[.bl k]/\Q (.int (if k then 1 else 0)) H):=by
 intro π H μ xs d μ' vs Q R i hm k
 unfold nK at hm
 split at hm
 ·cases hm
  cases i with
  | cons i t=>cases i;cases t;exact .inl ⟨_,rfl,k π _ H .refl R (.int _)⟩
 ·cases hm
  cases i with
  | cons i t=>cases i;cases t;exact .inr ⟨_,rfl,k π _ H .refl R (.int _)⟩
 ·cases hm
noncomputable def r8:MF:=fun ds μ=>match ds with
 | [x]=>(bI μ x).map fun xs=>(.loc μ.length,μ++[.lst xs])
 | _=>none
theorem BH:dC K r8 (fun xs H Q=>∃ p ys,xs=[.ref p]/\(SqL K H p ys\/SqT K H p ys)/\∀ l,H l=none->Q (.ref l) (aK H l (.lst ys))):=by
 intro π H μ xs d μ' vs Q R i hm k
 unfold r8 at hm
 split at hm
 ·obtain ⟨ys,h1,h2⟩:=UB.mp hm
  cases h2
  cases i with
  | cons i t=>
   cases t
   obtain ⟨p,ws,rfl,q,hd⟩:=lX R i h1
   refine ⟨p,ws,rfl,q,fun l hl=>?_⟩
   obtain ⟨e2,R2,_⟩:=R.alloc (c:=.lst ys) (o:=.lst ws) hl hd
   exact k _ _ _ e2 R2 eM
 ·cases hm
noncomputable def BI (K:Ux):List V->Hp->VK->Prop:=fun vs H Q=>∃ π μ x v t c b,vs=[v,.ty c]/\Rp K π H μ/\IsD K π μ.length H v x/\pM μ x=some t/\r0 t c=some b/\Q (.bl b) H
theorem KJ:dC K eN (BI K):=by
 intro π H μ xs d μ' vs Q R i hm k
 unfold eN at hm
 split at hm
 ·obtain ⟨t,h1,hm⟩:=Uw.mp hm
  obtain ⟨b,h2,hm⟩:=UB.mp hm
  cases hm
  cases i with
  | cons i t1=>
   cases t1 with
   | cons i2 t2=>
    cases t2
    cases i2
    exact ⟨π,_,_,_,t,_,b,rfl,R,i,h1,h2,k π _ H .refl R (.bl _)⟩
 ·cases hm
theorem KL:CallR X (.builtin "isinstance") (BI X.K):=by
 intro a5f s σ H xs us Q I r h
 obtain ⟨π,μ,x,v,t,c,b,rfl,R,i,h1,h2,q⟩:=h
 obtain ⟨u,u2,rfl,r1,r2⟩:=Ia r
 cases r2
 have fin:∀ tk,EP X a5f σ Q (.bool b) { s with toks:=tk }:=fun tk=>⟨.bl b,H,I.tok tk,rfl,q⟩
 cases i with
 | non=>cases h1;cases r1;exact Wy PySem.W.kitx_none I.kIn WZ (jX X.K (by simp) h2) (fun z=>nomatch z) fin
 | bl y=>cases h1;cases r1;exact Wy PySem.W.kitx_bool I.kIn WZ (jX X.K (by simp) h2) (fun z=>nomatch z) fin
 | int y=>cases h1;obtain ⟨t,rfl⟩:=r1;exact Wy PySem.W.kitx_int I.kIn WZ (jX X.K (by simp) h2) (fun z=>nomatch z) fin
 | str y=>cases h1;obtain ⟨t,rfl⟩:=r1;exact Wy PySem.W.kitx_str I.kIn WZ (jX X.K (by simp) h2) (fun z=>nomatch z) fin
 | tup g t=>
  cases h1
  cases r1
  obtain ⟨its,r',p,_⟩:=I.tuple g
  obtain ⟨o,e1,e2,_⟩:=p
  exact Wy PySem.W.kitx_tuple I.kIn ⟨o,e1,e2⟩ (jX X.K (by simp) h2) (fun z=>nomatch z) fin
 | rol g t=>
  cases h1
  cases r1
  obtain ⟨its,r',p,_⟩:=I.list g.sq
  obtain ⟨o,e1,e2,_⟩:=p.isList
  exact Wy a1N I.kIn ⟨o,e1,e2⟩ (jX X.K (by simp) h2) (fun z=>nomatch z) fin
 | @loc a ha=>
  cases r1
  simp only [pM] at h1
  split at h1
  ·rename_i xs hx
   cases h1
   obtain ⟨vs,h3,h4⟩:=R.lst a xs hx
   obtain ⟨its,r',p,_⟩:=I.list (SqL.of (K:=X.K) h3)
   obtain ⟨o,e1,e2,_⟩:=p.isList
   exact Wy a1N I.kIn ⟨o,e1,e2⟩ (jX X.K (by simp) h2) (fun z=>nomatch z) fin
  ·rename_i kvs hx
   cases h1
   obtain ⟨vs,h3,_⟩:=R.dK a kvs hx
   obtain ⟨_,_,ws,_,p⟩:=(show ObjOk X.prog X.w H s.heap (π a) (.dK vs) from I.hok _ _ h3)
   obtain ⟨o,es,ep,e1,e2,_⟩:=p
   exact Wy a1O I.kIn ⟨o,e1,e2.1⟩ (jX X.K (by simp) h2) (fun z=>nomatch z) fin
  ·rename_i kvs hx
   cases h1
   obtain ⟨vs,h3,_⟩:=R.dT a kvs hx
   obtain ⟨⟨ws,_,_,_,o,es,ep,e1,e2,_⟩,_⟩:=(show ObjOk X.prog X.w H s.heap (π a) (aO (π a) vs) from I.hok _ _ h3)
   exact Wy a1O I.kIn ⟨o,e1,e2.1⟩ (jX X.K (by simp) h2) (fun z=>nomatch z) fin
  ·cases h1
 | ty n=>cases h1
end
noncomputable def nM (kvs:List (bD×D))(k:bD):Option D:=(kvs.find? fun kv=>decide (kv.1=k)).map (·.2)
inductive IsKs (K:Ux)(π:Nat->Addr)(n:Nat)(H:Hp):List (bD×V)->List (bD×D)->Prop where
 | nil:IsKs K π n H [] []
 | cons {k:bD}{v:V}{d:D}{vs:List (bD×V)}{ds:List (bD×D)}(h:IsD K π n H v d)(t:IsKs K π n H vs ds):IsKs K π n H ((k,v)::vs) ((k,d)::ds)
section
variable {K:Ux}{π π':Nat->Addr}{n n':Nat}{H H':Hp}
theorem IsKs.of:∀ {vs:List (bD×V)}{ds:List (bD×D)},vs.map (·.1)=ds.map (·.1)->IsDs K π n H (vs.map (·.2)) (ds.map (·.2))->IsKs K π n H vs ds
 | [],[],_,_=>.nil
 | [],_::_,h,_=>by cases h
 | _::_,[],h,_=>by cases h
 | (k,v)::vs,(k',d)::ds,h,t=>by
  rw [UQ,UQ] at h t
  injection h with h1 h2
  dsimp only at h1
  subst h1
  cases t with
  | cons t1 t2=>exact .cons t1 (IsKs.of h2 t2)
theorem IsKs.append {vs ws:List (bD×V)}{ds es:List (bD×D)}(h:IsKs K π n H vs ds)(h2:IsKs K π n H ws es):IsKs K π n H (vs++ws) (ds++es):=by
 induction h with
 | nil=>exact h2
 | cons h t ih=>exact .cons h ih
theorem IsKs.any {vs:List (bD×V)}{ds:List (bD×D)}(h:IsKs K π n H vs ds)(k:bD):(vs.any fun kv=>decide (kv.1=k))=ds.any fun kv=>decide (kv.1=k):=by
 induction h with
 | nil=>rfl
 | cons h t ih=>rw [XQ,XQ,ih]
theorem IsKs.val {vs:List (bD×V)}{ds:List (bD×D)}(h:IsKs K π n H vs ds)(k:bD):(nM ds k=none/\eI vs k=none)\/∃ v d,nM ds k=some d/\eI vs k=some v/\IsD K π n H v d:=by
 induction h with
 | nil=>exact .inl ⟨rfl,rfl⟩
 | @cons k' v' d' vs ds h t ih=>
  by_cases e:k'=k
  ·exact .inr ⟨v',d',by simp [nM,VE,e],by simp [eI,VE,e],h⟩
  ·have e1:nM ((k',d')::ds) k=nM ds k:=by simp [nM,VE,e]
   have e2:eI ((k',v')::vs) k=eI vs k:=by simp [eI,VE,e]
   rw [e1,e2]
   exact ih
theorem IsKs.length {vs:List (bD×V)}{ds:List (bD×D)}(h:IsKs K π n H vs ds):vs.length=ds.length:=by
 induction h with
 | nil=>rfl
 | cons h t ih=>rw [Vm,Vm,ih]
end
noncomputable def KN (K:Ux)(prs:List (ME×ME)):List (TE×TE):=prs.map fun p=>(tM K p.1,tM K p.2)
section
variable {X:Cx}{a b c:UO}{ma mb mc:ME}{pos:Wl}
end
theorem eP {k:Nat}{A:Vh}(r:Room k A):A.units+1<V3:=by have:=r.un;omega
noncomputable def jD (ma:ME):ME:=fun ρ μ=>(ma ρ μ).bind fun p=>(Bv p.1).map fun d=>(d,p.2)
end L3
namespace L3
open PySem L2
noncomputable def fL (cells:List (Str×Addr)):List (Str×W3)->List (Str×Addr)->List (Str×Addr)
 | [],acc=>acc
 | (n,k)::r,acc=>if k=.free then (match cells.lookup n with|some c=>fL cells r ((n,c)::acc)|none=>fL cells r acc) else fL cells r acc
theorem BJ {env:ZZ}:∀ (names:List (Str×W3))(acc:List (Str×Addr)),(∀ y∈names,y.2=.free->∃ c,env.cells.lookup y.1=some c)->
  (forIn names acc fun (x:Str×W3)(cs:List (Str×Addr))=>(do
   if x.2 == .free then (do let c <- cellOf env x.1;pure (XF ((x.1,c)::cs))) else pure (XF cs):a4q (ForInStep (List (Str×Addr)))))=pure (fL env.cells names acc)
 | [],acc,_=>rfl
 | (n,k)::r,acc,h=>by
  have ih:=fun acc=>BJ r acc fun y hy=>h y (UX _ hy)
  rw [List.forIn_cons]
  by_cases hk:k=.free
  ·subst hk
   obtain ⟨c,hc⟩:=h (n,.free) (U2 ..) rfl
   dsimp only at hc
   have e:cellOf env n=pure c:=by unfold cellOf;rw [hc]
   simp only [fL,hc,e,beq_self_eq_true,if_true,pure_bind]
   exact ih _
  ·have e:(k == WB)=false:=by simpa using hk
   simp only [fL,e,hk,if_false,UN,pure_bind]
   exact ih _
theorem KO {scope:Xf}{env:ZZ}(h:∀ y∈scope.names,y.2=.free->∃ c,env.cells.lookup y.1=some c):a3v scope env=pure (fL env.cells scope.names []):=by
 have:=BJ (env:=env) scope.names [] h
 unfold a3v
 simp only [bind_pure] at *
 exact this
theorem r9 {cells:List (Str×Addr)}:∀ (names:List (Str×W3))(acc:List (Str×Addr)),(∀ y c,acc.lookup y=some c->cells.lookup y=some c)->∀ y c,(fL cells names acc).lookup y=some c->cells.lookup y=some c
 | [],acc,h=>h
 | (n,k)::r,acc,h=>by
  unfold fL
  split
  ·split
   ·rename_i c0 hc
    refine r9 r _ fun y c e=>?_
    rw [Yg] at e
    by_cases hy:y=n
    ·subst hy
     simp only [beq_self_eq_true] at e
     cases e
     exact hc
    ·have:(y == n)=false:=by simpa using hy
     rw [this] at e
     exact h y c e
   ·exact r9 r acc h
  ·exact r9 r acc h
theorem sA {cells:List (Str×Addr)}:∀ (names:List (Str×W3))(acc:List (Str×Addr))(y:Str),(∃ c,acc.lookup y=some c)->∃ c,(fL cells names acc).lookup y=some c
 | [],acc,y,h=>h
 | (n,k)::r,acc,y,h=>by
  unfold fL
  split
  ·split
   ·refine sA r _ y ?_
    rw [Yg]
    by_cases hy:(y == n)=true
    ·rw [hy];exact ⟨_,rfl⟩
    ·have:(y == n)=false:=by simpa using hy
     rw [this]
     exact h
   ·exact sA r acc y h
  ·exact sA r acc y h
theorem sC {cells:List (Str×Addr)}:∀ (names:List (Str×W3))(acc:List (Str×Addr))(y:Str),(y,WB)∈names->(∃ c,cells.lookup y=some c)->∃ c,(fL cells names acc).lookup y=some c
 | [],acc,y,h,_=>by cases h
 | (n,k)::r,acc,y,h,hc=>by
  unfold fL
  rcases U6.mp h with h|h
  ·cases h
   obtain ⟨c,hc⟩:=hc
   rw [if_pos rfl,hc]
   exact sA r _ _ ⟨c,by simp [Yg]⟩
  ·split
   ·split
    ·exact sC r _ y h hc
    ·exact sC r _ y h hc
   ·exact sC r _ y h hc
structure CompSt (osc:Xf)(N:List Str)(scope:Xf)(xs:List Str):Prop where
 nocell:∀ y∈scope.names,y.2≠.cell
 kind:scope.kind=.function
 names:∀ y∈scope.names,y.2=.local->scope.names.lookup y.1=some .local
 here:∀ x∈xs,scope.names.lookup x=some .local
 free:∀ y∈scope.names,y.2=.free->osc.names.lookup y.1=some .cell\/osc.names.lookup y.1=some .free
 own:∀ y∈scope.names,y.2=.local->y.1∉bL xs N
 nd:N.Nodup
 hnd:(bL xs N).Nodup
 hidn:∀ y∈N,xs.contains y=true->scope.names.lookup (nH y)=none
theorem CompSt.ok {X:Cx}{scope:Xf}{xs:List Str}(S:CompSt X.env.scope X.N scope xs)(ok:X.Ok):CompOk X scope (fL X.env.cells scope.names []) xs:=by
 have has:∀ y∈scope.names,y.2=.free->∃ c,X.env.cells.lookup y.1=some c:=fun y hy hf=>ok.has y.1 (S.free y hy hf)
 refine ⟨KO has,S.nocell,S.kind,S.names,S.here,r9 scope.names [] (fun y c e=>by cases e),fun y e=>?_,fun y e=>?_,S.hidn⟩
 ·have hm:=VQ e
  exact ⟨S.free _ hm rfl,sC scope.names [] y hm (has _ hm rfl)⟩
 ·exact S.own _ (VQ e) rfl
end L3
namespace L3
open PySem L2
section
variable {X:Cx}{pos:Wl}
end
end L3
namespace L3
open PySem L2
noncomputable def dE:UO->Bool
 | .Starred ..=>false
 | _=>true
theorem eY {e:UO}{es:List UO}{env:ZZ}(h:dE e=true):Vj (e::es) env=(false,eval e env)::Vj es env:=by
 cases e<;>first|rfl|cases h
theorem lY {pos:Wl}{env:ZZ}:∀ {es:List UO},es.all dE=true->(W0 pos (Vj es env)).any (·.1)=false
 | [],_=>rfl
 | e::es,h=>by
  rw [Vo,UL] at h
  rw [eY h.1]
  have:=lY (pos:=pos) (env:=env) h.2
  simpa [W0] using this
theorem sD {e:UO}{es:List UO}{env:ZZ}(h:dE e=true):WH (e::es) env=(false,a0k e env)::WH es env:=by
 cases e<;>first|rfl|cases h
theorem BK {env:ZZ}:∀ {es:List UO},es.all dE=true->(WH es env).length=es.length
 | [],_=>rfl
 | e::es,h=>by
  rw [Vo,UL] at h
  rw [sD h.1,Vm,Vm,BK h.2]
theorem BL {env:ZZ}:∀ {es:List UO},es.all dE=true->(WH es env).findIdx? (·.1)=none
 | [],_=>rfl
 | e::es,h=>by
  rw [Vo,UL] at h
  rw [sD h.1,List.findIdx?_cons,BL h.2]
  rfl
section
variable {X:Cx}{e a b c:UO}{es:List UO}{m:ME}{ms:MA}{pos:Wl}
end
end L3
namespace L3
open PySem L2
structure QE (X:Cx)(e:UO)(m:ME):Prop where
 h:PE X e (tM X.K m)
structure QT (X:Cx)(e:UO)(m:MT):Prop where
 h:PT X e (c6 X.K m)
structure QW (X:Cx)(e:UO)(m:MT):Prop where
 h:PW X e (c6 X.K m)
structure QA (X:Cx)(es:List UO)(m:MA)(n:Nat):Prop where
 h:PA X es (eV X.K m)
 l:∀ ρ μ ds μ',m ρ μ=some (ds,μ')->ds.length=n
 s:es.all dE=true
structure QO (X:Cx)(e:Option UO)(m:MO):Prop where
 h:PO X e (pK X.K m)
structure QS (X:Cx)(st:Stmt)(m:MS):Prop where
 h:PS X st (dB X.K m)
structure QB (X:Cx)(st:List Stmt)(m:MS):Prop where
 h:PSs X st (dB X.K m)
structure QG (X:Cx)(e:UO)(g:MG):Prop where
 h:PG X e (fY X.K g)
structure QGs (X:Cx)(es:List UO)(is:List Nat):Prop where
 h:pD X es (r6 is)
 n:es.length=is.length
 s:es.all dE=true
structure QI (X:Cx)(ifs:List UO)(m:MT):Prop where
 h:nJ X ifs m
structure QP (X:Cx)(pos:Wl)(keys:List (Option UO))(values:List UO)(prs:List (ME×ME)):Prop where
 h:Iv X pos keys values (KN X.K prs)
 a:keys.all (·.isSome)=true
 l:keys.length=values.length
section
variable {X:Cx}{e a b c:UO}{m ma mb mc:ME}{pos:Wl}{mt mu:MT}{bO es:List UO}{ms:MA}{n:Nat}
theorem KP {x:Str}(i:Nat)(hN:X.N[i]? = some x:=by rfl)(hv:pC X.env.scope x:=by first|exact a2L rfl|exact a1Q (a2L rfl)|exact a1Q (a1Q rfl))(hd:(x == ("__debug__":Str))=false:=by decide)
  (hcd:(x == ("__classdict__":Str))=false:=by decide):QE X (.Name x pos) (aA i):=⟨Jr i (GF hN hv hd hcd)⟩
theorem KQ {i:Int}{j:Nat}:QE X (.Constant (.int i) j pos) (mC (.int i)):=⟨Js⟩
theorem KR {i:Bool}{j:Nat}:QE X (.Constant (.bool i) j pos) (mC (.bl i)):=⟨Jt⟩
theorem KS {i:Str}{j:Nat}:QE X (.Constant (.str i) j pos) (mC (.str i)):=⟨Ju⟩
theorem KU {j:Nat}:QE X (.Constant .none j pos) (mC .non):=⟨Jv⟩
theorem nN {op:a1E}{r:R2}{f:D->D->Hm->Option (D×Hm)}(ho:OpR X (XO op) r)(hf:cP X.K f r)(ha:QE X a ma)(hb:QE X b mb):QE X (.BinOp a op b pos) (aB f ma mb):=⟨Jw ho hf ha.h hb.h⟩
theorem KW (ha:QE X a ma)(hb:QE X b mb):QE X (.BinOp a .Add b pos) (aB bK ma mb):=nN Km Kn ha hb
theorem KY (ha:QE X a ma)(hb:QE X b mb):QE X (.BinOp a .Sub b pos) (aB cJ ma mb):=nN HN Ke ha hb
theorem KZ (ha:QE X a ma)(hb:QE X b mb):QE X (.BinOp a .Mult b pos) (aB bH ma mb):=nN (op_mulB.or Jf) Kg ha hb
theorem K0 (ha:QE X a ma)(hb:QE X b mb):QE X (.BinOp a .FloorDiv b pos) (aB dS ma mb):=nN Kc Kh ha hb
theorem K1 (ha:QE X a ma)(hb:QE X b mb):QE X (.BinOp a .Mod b pos) (aB aY ma mb):=nN HQ Ki ha hb
theorem K2 (ha:QE X a ma)(hb:QE X b mb):QE X (.BinOp a .Pow b pos) (aB nF ma mb):=nN Kd Kj ha hb
theorem K3 (ha:QE X a ma):QE X (.UnaryOp .USub a pos) (jD ma):=⟨jC ha.h⟩
theorem K5 (ha:QE X a ma):QE X (.UnaryOp .Not a pos) (nB ma):=⟨JF ha.h⟩
theorem K6 {k:Nat}(hr:Room k X.A)(ha:QE X a ma)(hb:QE X b mb):QE X (.Compare a [.Eq] [b] pos) (aB (aZ false) ma mb):=⟨eC (By (rZ hr)) rY ha.h hb.h (cW _)⟩
theorem K7 {k:Nat}(hr:Room k X.A)(ha:QE X a ma)(hb:QE X b mb):QE X (.Compare a [.NotEq] [b] pos) (aB (aZ true) ma mb):=⟨eC (Bz (rZ hr)) rY ha.h hb.h (cW _)⟩
theorem K9 (ha:QE X a ma)(hb:QE X b mb):QE X (.Compare a [.Lt] [b] pos) (aB iQ ma mb):=⟨eC uV hU ha.h hb.h (cW _)⟩
theorem La (ha:QE X a ma)(hb:QE X b mb):QE X (.Compare a [.LtE] [b] pos) (aB vQ ma mb):=⟨eC uW hU ha.h hb.h (cW _)⟩
theorem Lb (ha:QE X a ma)(hb:QE X b mb):QE X (.Compare a [.Gt] [b] pos) (aB nG ma mb):=⟨eC uX hU ha.h hb.h (cW _)⟩
theorem Lc (ha:QE X a ma)(hb:QE X b mb):QE X (.Compare a [.GtE] [b] pos) (aB pL ma mb):=⟨eC uY hU ha.h hb.h (cW _)⟩
noncomputable def fM:UO->Bool
 | .Set ..=>false
 | _=>true
theorem hV {op:X3}{b:UO}(h:fM b=true):Xw op b=false:=by
 cases b<;>first|rfl|cases h
theorem Ld {op:BoolOp}(h:QE X a m):QE X (.BoolOp op [a] pos) m:=⟨JC h.h⟩
theorem Le (ha:QE X a ma)(hb:QE X (.BoolOp .And (b::bO) pos) mb):QE X (.BoolOp .And (a::b::bO) pos) (fX ma mb):=⟨JD ha.h hb.h⟩
theorem Lf (ha:QE X a ma)(hb:QE X (.BoolOp .Or (b::bO) pos) mb):QE X (.BoolOp .Or (a::b::bO) pos) (vG ma mb):=⟨JE ha.h hb.h⟩
theorem Lg (hc:QT X c mt)(ha:QE X a ma)(hb:QE X b mb):QE X (.IfExp c a b pos) (jA mt ma mb):=⟨JG hc.h ha.h hb.h⟩
theorem Lh:QA X [] aD 0:=⟨JH,JM,rfl⟩
theorem Li (ha:QE X e m)(hr:QA X es ms n)(h:dE e=true:=by rfl):QA X (e::es) (aC m ms) (n+1):=⟨JI ha.h hr.h (eY h),JN hr.l,by rw [Vo,h,hr.s];rfl⟩
theorem Lj {x1:Nat}(h:QA X es ms n):QE X (.Tuple es x1 pos) (bP ms):=⟨JJ h.h⟩
theorem Lk (h:QA X es ms n):QE X (.List es pos) (b7 ms):=⟨JK h.h⟩
noncomputable def nO:UO->Bool
 | .Slice ..=>false
 | _=>true
theorem BM {b:UO}(h:nO b=true):u7 b:=by
 intro o i
 cases b<;>first|rfl|cases h
theorem Ll (ha:QE X a ma)(hb:QE X b mb)(h:nO b=true:=by rfl):QE X (.Subscript a b pos) (aB fH ma mb):=⟨JS ha.h hb.h (BM h)⟩
theorem Lm:QO X none iP:=⟨JT⟩
theorem Ln (h:QE X e m):QO X (some e) (gY m):=⟨JU h.h⟩
theorem Lo {lo hi:Option UO}{ml mh:MO}{p2:Wl}(ha:QE X a ma)(hl:QO X lo ml)(hu:QO X hi mh):QE X (.Subscript a (.Slice lo hi none p2) pos) (jV ma ml mh):=⟨JW ha.h hl.h hu.h⟩
theorem Lp {k:Nat}{f:Addr}{fd:WS}{ps:List Str}{fm:MF}{x:Str}{p:Wl}(F:FnOk X.prog X.w X.K X.mg X.base fG k f fd ps (i9 X.K n fm))(hr:Room k X.A)(hm:X.mg x=some (.ref f))
  (hk:Wm X.K (.ref f)=true)(hb:Binds X.K fd ps [])(ha:QA X (e::es) ms n)(hg:Gl X x:=by rfl)(hdb:(x == ("__debug__":Str))=false:=by decide):QE X (.Call (.Name x p) (e::es) [] pos) (aG fm ms):=by
 have hs:=ha.s
 rw [Vo,UL] at hs
 exact ⟨JO F hr hg hm hk hb ha.h ha.l hdb (eY hs.1) (lY hs.2)⟩
theorem BN {f:MF}{r:List V->Hp->VK->Prop}{id:String}{x:Str}{p:Wl}(hc:CallR X (.builtin id) r)(hf:dC X.K f r)(hm:X.mg x=none)(hv:Wa x=some (.builtin id))(ha:QA X (e::es) ms n)
  (hg:Gl X x:=by rfl)(hn:x ≠ "__name__":=by decide) (hdb:(x == ("__debug__":Str))=false:=by decide):QE X (.Call (.Name x p) (e::es) [] pos) (aG f ms):=by
 have hs:=ha.s
 rw [Vo,UL] at hs
 exact ⟨JP hc hf hg hm hv ha.h hn hdb (eY hs.1) (lY hs.2)⟩
theorem BO {f:MF}{r:List V->Hp->VK->Prop}{T:String}{x:Str}{p:Wl}(hc:CallR X (.type T) r)(hf:dC X.K f r)(hm:X.mg x=none)(hv:Wa x=some (.type T))(ha:QA X (e::es) ms n)
  (hg:Gl X x:=by rfl)(hn:x ≠ "__name__":=by decide) (hdb:(x == ("__debug__":Str))=false:=by decide):QE X (.Call (.Name x p) (e::es) [] pos) (aG f ms):=by
 have hs:=ha.s
 rw [Vo,UL] at hs
 exact ⟨JQ hc hf hg hm hv ha.h hn hdb (eY hs.1) (lY hs.2)⟩
theorem Lq {x:Str}{n:String}(hm:X.mg x=none)(hv:Wa x=some (.type n))(hg:Gl X x:=by rfl)(hn:x ≠ "__name__":=by decide) (hd:(x == ("__debug__":Str))=false:=by decide):QE X (.Name x pos) (mC (.ty n)):=⟨Ko hg hm hv hn hd⟩
theorem Lr {k:Nat}(hr:Room k X.A)(ha:QE X a ma)(hb:QE X b mb):QT X (.Compare a [.Eq] [b] pos) (aR (aB (aZ false) ma mb)):=⟨eD (By (rZ hr)) rY ha.h hb.h (cW _)⟩
theorem Ls {k:Nat}(hr:Room k X.A)(ha:QE X a ma)(hb:QE X b mb):QT X (.Compare a [.NotEq] [b] pos) (aR (aB (aZ true) ma mb)):=⟨eD (Bz (rZ hr)) rY ha.h hb.h (cW _)⟩
theorem Lu (ha:QE X a ma)(hb:QE X b mb):QT X (.Compare a [.Lt] [b] pos) (aR (aB iQ ma mb)):=⟨eD uV hU ha.h hb.h (cW _)⟩
theorem Lv (ha:QE X a ma)(hb:QE X b mb):QT X (.Compare a [.LtE] [b] pos) (aR (aB vQ ma mb)):=⟨eD uW hU ha.h hb.h (cW _)⟩
theorem Lx (ha:QE X a ma)(hb:QE X b mb):QT X (.Compare a [.Gt] [b] pos) (aR (aB nG ma mb)):=⟨eD uX hU ha.h hb.h (cW _)⟩
theorem Lz (ha:QE X a ma)(hb:QE X b mb):QT X (.Compare a [.GtE] [b] pos) (aR (aB pL ma mb)):=⟨eD uY hU ha.h hb.h (cW _)⟩
noncomputable def vY:UO->Bool
 | .UnaryOp .Not ..=>false
 | .BoolOp ..=>false
 | .IfExp ..=>false
 | .Compare ..=>false
 | _=>true
theorem LA {e:UO}{env:ZZ}(h:vY e=true):∀ whole,a2n e env whole=(do let v <- whole;standAt e.pos;holding [v] (truthy v)):=by
 intro whole
 cases e<;>first|rfl|cases h|skip
 rename_i op x p
 cases op<;>first|rfl|cases h
theorem LB (ha:QT X a mt):QT X (.UnaryOp .Not a pos) (fW mt):=⟨JB ha.h⟩
theorem LC (ha:QT X a mt):QW X (.BoolOp .And [a] pos) mt:=⟨Jx ha.h⟩
theorem LF (ha:QT X a mt):QW X (.BoolOp .Or [a] pos) mt:=⟨Jy ha.h⟩
theorem LG (ha:QT X a mt)(hb:QW X (.BoolOp .And (b::bO) pos) mu):QW X (.BoolOp .And (a::b::bO) pos) (iO mt mu):=⟨Jz ha.h hb.h⟩
theorem LH (ha:QT X a mt)(hb:QW X (.BoolOp .Or (b::bO) pos) mu):QW X (.BoolOp .Or (a::b::bO) pos) (eE mt mu):=⟨JA ha.h hb.h⟩
theorem LJ (h:QW X e mt):QT X e mt:=⟨h.h.pt⟩
theorem LK:QI X [] f7:=⟨Kw⟩
theorem LL (h:QT X c mt):QI X [c] mt:=⟨Ky h.h⟩
end
section
variable {X:Cx}{e a b c:UO}{m:ME}{pos:Wl}{mt:MT}{st:Stmt}{bO body orelse:List Stmt}{ms mr mu:MS}{n:Nat}{is:List Nat}{es:List UO}{g:MG}
theorem LM:QB X [] bJ:=⟨JX⟩
theorem LN (h1:QS X st ms)(h2:QB X bO mr):QB X (st::bO) (aH ms mr):=⟨JY h1.h h2.h⟩
theorem LO (h1:QS X st ms):QB X [st] ms:=⟨JZ h1.h⟩
theorem LP:QS X (.Pass pos) bJ:=⟨J0⟩
theorem LQ (he:QE X e m):QS X (.Return (some e) pos) (aS m):=⟨J3 he.h⟩
noncomputable def jZ:UO->Bool
 | .ListComp ..=>false
 | .SetComp ..=>false
 | .DictComp ..=>false
 | _=>true
theorem sE {e:UO}{t:Option UO}{n:Nat}{env:ZZ}(h:jZ e=true):Yx e t n env=pure false:=by
 cases e<;>first|rfl|cases h
theorem LR (he:QE X e m)(h:jZ e=true:=by rfl):QS X (.Expr e pos) (dD m):=⟨J4 he.h (sE h)⟩
theorem LS (hc:QT X c mt)(ha:QB X body ms)(hb:QB X orelse mu):QS X (.If c body orelse pos) (bF mt ms mu):=⟨J5 hc.h ha.h hb.h⟩
theorem LU (i:Nat){x:Str}{pos':Wl}(hN:X.N.Nodup)(he:QE X e m)(h:jZ e=true:=by rfl)(hi:X.N[i]? = some x:=by rfl)(hx:Loc X.env.scope x:=by first|exact a2L rfl|exact a1Q rfl)
  (hf:X.fn x=true\/X.env.scope.names.lookup x=some .local:=by first|exact .inl rfl|exact .inr rfl):QS X (.Assign [.Name x pos'] e pos) (aV i m):=⟨Bk hN hi hx he.h (sE h) hf⟩
theorem LV (i:Nat){x:Str}(hN:X.N.Nodup)(hi:X.N[i]? = some x:=by rfl)(hx:Loc X.env.scope x:=by first|exact a2L rfl|exact a1Q rfl)
  (hf:X.fn x=true\/X.env.scope.names.lookup x=some .local:=by first|exact .inl rfl|exact .inr rfl):QG X (.Name x pos) (cH i):=⟨BB hN hi hx hf⟩
theorem BP:QGs X [] []:=⟨Hs,rfl,rfl⟩
theorem BQ (i:Nat){x:Str}(hN:X.N.Nodup)(hr:QGs X es is)(hi:X.N[i]? = some x:=by rfl)(hx:Loc X.env.scope x:=by first|exact a2L rfl|exact a1Q rfl)
  (hf:X.fn x=true\/X.env.scope.names.lookup x=some .local:=by first|exact .inl rfl|exact .inr rfl):QGs X (.Name x pos::es) (i::is):=
 ⟨Ht (Ak hN hi hx hf) hr.h (by rw [sD (e:=.Name x pos) rfl];rfl),by rw [Vm,Vm,hr.n],by rw [Vo,hr.s];rfl⟩
theorem vZ {k:Nat}(h:QGs X es is)(hc:X.calm=true:=by rfl):QG X (.Tuple es k pos) (c7 is):=⟨KG hc h.h ((BK h.s).trans h.n) (BL h.s)⟩
noncomputable def v7:UO->Bool
 | .Tuple ..=>false
 | _=>true
theorem LW {tg e:UO}{env:ZZ}(h:v7 e=true):a1U [tg] e env=pure none:=by
 cases e<;>first|(cases tg<;>rfl)|cases h
theorem LX {k:Nat}{pt:Wl}(he:QE X e m)(hg:QG X (.Tuple es k pt) g)(h:v7 e=true:=by rfl):QS X (.Assign [.Tuple es k pt] e pos) (fK m g):=
 ⟨KH he.h hg.h (by cases e<;>rfl) (LW h) (by rw [sD (e:=.Tuple es k pt) rfl];rfl)⟩
end
section
variable {P:Va}{w:Vu}{K:Ux}{mg:Str->Option UC}{base:VL}
theorem LY {x qual:Str}{st:Stmt}{f:Addr}{fd:WS}{N ps:List Str}{k:Nat}{body:List Stmt}{m:MS}(F:Fun K x qual st f fd)(S:FnScope N ps (cN st))(hps:ps.length<=N.length)(hbd:fV st=body)
  (hbody:∀ (cdv:UC)(A:Vh)(outer:List ZZ)(s:UE)(H:Hp)(E:XK),Room k (A.deeper (a0E qual (cN st) s.heap.objs.size f cdv))->
   QB (jS fG P w K mg base N qual (cN st) f cdv A outer s H E).nox body m):FnOk P w K mg base fG (k+1) f fd ps (i9 K ps.length (vJ N.length m)):=
 J7 F S hps fun cdv A outer s H E hr=>by
  rw [hbd]
  exact (hbody cdv A outer s H E hr).h
end
end L3
namespace L3
open PySem L2
noncomputable abbrev f9:=Hm->Nat->Option (Option D)
noncomputable abbrev MI:=aL->Hm->Option (f9×Nat×Hm)
noncomputable def j0 (K:Ux)(m:MI):TI:=fun σ H R=>∃ π ρ μ src n μ',Rp K π H μ/\En K π μ.length H σ ρ/\m ρ μ=some (src,n,μ') /\
 ∀ π' H' J,Ext π μ.length H π' μ'.length H'->Rp K π' H' μ'->Wk K J src π' μ'.length H'->R J H'
structure QJ (X:Cx)(e:UO)(m:MI):Prop where
 h:∀ tg,PI X tg e (j0 X.K m)
section
variable {X:Cx}{pos:Wl}{e:UO}{m:ME}
noncomputable def BR:MI:=fun _ _=>none
theorem LZ:QJ X e BR:=⟨fun tg a5f s σ H R I hw=>by
 obtain ⟨π,ρ,μ,src,n,μ',Rr,E,hm,k⟩:=hw
 cases hm⟩
noncomputable def j4 (μ:Hm):D->Option (List D)
 | d=>bI μ d
noncomputable def hW (x:D):f9:=fun μ i=>(j4 μ x).map fun xs=>xs[i]?
noncomputable def b8 (m:ME):MI:=fun ρ μ=>(m ρ μ).bind fun p=>(j4 p.2 p.1).map fun xs=>(hW p.1,xs.length+1,p.2)
theorem L0 (h:QE X e m):QJ X e (b8 m):=⟨fun tg a5f s σ H R I hw=>by
 obtain ⟨π,ρ,μ,src,n,μ',Rr,E,hm,k⟩:=hw
 obtain ⟨⟨x,μ1⟩,h1,hm⟩:=Uw.mp hm
 obtain ⟨xs,h2,hm⟩:=UB.mp hm
 cases hm
 have key:∀ (hs:bI μ1 x=some xs)(hx:hW x=jY x),U3 (U8 X.prog X.w) X.A (eval e X.env) (fun v s1=>U3 (U8 X.prog X.w) X.A (a1z v) (rD X a5f σ tg R) X.xe s1) X.xe s:=fun hs hx=>by
  refine Kq h.h a5f s σ H R I ⟨π,ρ,μ,x,_,Rr,E,h1,fun π1 v1 H1 e1 R1 i1=>?_⟩
  obtain ⟨a,e,q⟩:=Kr R1 i1 hs
  subst e
  refine ⟨a,rfl,?_⟩
  dsimp only at k
  rw [hx] at k
  rcases q with ⟨q1,W⟩|⟨q1,W⟩
  ·exact .inl ⟨q1,k π1 H1 _ e1 R1 W⟩
  ·exact .inr ⟨q1,k π1 H1 _ e1 R1 W⟩
 cases x with
 | _=>exact key h2 rfl⟩
noncomputable def j5 (ms:MA):MI:=fun ρ μ=>(ms ρ μ).bind fun p=>match p.1 with
 | [.int j]=>if -(2 ^ 62)<=j/\j<2 ^ 62 then some (fZ 0 j.toNat,j.toNat+1,p.2) else none
 | _=>none
theorem L1 {a:UO}{ms:MA}{n:Nat}{p:Wl}(hgl:Gl X "range") (hmg:X.mg "range" = none) (ha:QA X [a] ms n):QJ X (.Call (.Name "range" p) [a] [] pos) (j5 ms):=⟨fun tg a5f s σ H R I hw=>by
 have hs:=ha.s
 rw [Vo,UL] at hs
 obtain ⟨π,ρ,μ,src,n',μ',Rr,E,hm,k⟩:=hw
 obtain ⟨⟨x,μ1⟩,h1,hm⟩:=Uw.mp hm
 refine HD hgl hmg ha.h (eY hs.1) a5f s σ H R I ⟨π,ρ,μ,x,μ1,Rr,E,h1,fun π1 vs H1 e1 R1 i1=>?_⟩
 dsimp only at hm
 split at hm
 ·rename_i j
  split at hm
  ·rename_i hb
   cases hm
   cases i1 with
   | cons i1 t1=>
    cases i1
    cases t1
    exact ⟨j,rfl,hb.1,hb.2,k π1 H1 _ e1 R1 BC⟩
  ·cases hm
 ·cases hm⟩
noncomputable def kQ (ms:MA):MI:=fun ρ μ=>(ms ρ μ).bind fun p=>match p.1 with
 | [.int i,.int j]=>if -(2 ^ 62)<=i/\i<2 ^ 62/\-(2 ^ 62)<=j/\j<2 ^ 62 then some (fZ i (j - i).toNat,(j - i).toNat+1,p.2) else none
 | _=>none
theorem L4 {a b:UO}{ms:MA}{n:Nat}{p:Wl}(hgl:Gl X "range") (hmg:X.mg "range" = none) (ha:QA X [a,b] ms n):QJ X (.Call (.Name "range" p) [a,b] [] pos) (kQ ms):=⟨fun tg a5f s σ H R I hw=>by
 have hs:=ha.s
 rw [Vo,UL,Vo,UL] at hs
 obtain ⟨π,ρ,μ,src,n',μ',Rr,E,hm,k⟩:=hw
 obtain ⟨⟨x,μ1⟩,h1,hm⟩:=Uw.mp hm
 refine HE hgl hmg ha.h (by rw [eY hs.1,eY hs.2.1];rfl) (by rw [eY hs.2.1];rfl) a5f s σ H R I ⟨π,ρ,μ,x,μ1,Rr,E,h1,fun π1 vs H1 e1 R1 i1=>?_⟩
 dsimp only at hm
 split at hm
 ·rename_i i j
  split at hm
  ·rename_i hb
   cases hm
   cases i1 with
   | cons i1 t1=>
    cases i1
    cases t1 with
    | cons i2 t2=>
     cases i2
     cases t2
     exact ⟨i,j,rfl,hb,k π1 H1 _ e1 R1 BC⟩
  ·cases hm
 ·cases hm⟩
noncomputable def cB (it:MI)(g:MG)(b:MS):MS:=fun ρ μ=>(it ρ μ).bind fun p=>eX p.1 g b p.2.1 0 ρ p.2.2
end
noncomputable def j6 (bd:BD)(it:MI)(c:MT)(e:ME):ME:=fun ρ μ=>(it ρ μ).bind fun p=>
 (f6 p.1 bd c e ρ p.2.2.length p.2.1 0 (p.2.2++[.lst []])).map fun μ'=>(.loc p.2.2.length,μ')
noncomputable abbrev d5 (it:MI)(c:MT)(e:ME):ME:=j6 pN it c e
noncomputable def gB (n:Nat)(bd:BD):MG:=fun d ρ μ=>(bd d μ).map fun x=>ρ.take n++x
theorem L5 {X:Cx}{n:Nat}{x:Str}{px:Wl}(hl:X.N.length=n+1)(h:PG X (.Name x px) (fY X.K (cH n))):PG X (.Name x px) (fY X.K (gB n pN)):=by
 intro a5f s σ H v u Q I r hw
 obtain ⟨π,ρ,μ,d,ρ',R,E,hd,hm,k⟩:=hw
 cases hm
 refine h a5f s σ H v u Q I r ⟨π,ρ,μ,d,_,R,E,hd,rfl,fun σ' E'=>k σ' ?_⟩
 have hρ:ρ.length=n+1:=by rw [<- E.len,I.len,hl]
 have e:ρ.set n (some d)=ρ.take n++[some d]:=by
  rw [List.set_eq_take_append_cons_drop,if_pos (by omega),Y8 (by omega)]
 rw [e] at E'
 exact E'
theorem BS:∀ (xs:List D)(a b:aL),b.length=xs.length->lW (a++b) (YS a.length xs.length) xs=a++xs.map some
 | [],a,[],_=>by simp [lW]
 | x::xs,a,y::b,h=>by
  have ih:=BS xs (a++[some x]) b (by simpa using h)
  rw [Vm,Y3]
  show lW ((a++y::b).set a.length (some x)) (YS (a.length+1) xs.length) xs=_
  rw [Ze _ _ (UJ _),Nat.sub_self,UH]
  rw [U5,Zf] at ih
  rw [a2F,List.singleton_append] at ih
  rw [ih]
  simp
theorem L6 {X:Cx}{n k:Nat}{tg:UO}(hl:X.N.length=n+k)(h:PG X tg (fY X.K (c7 (YS n k)))):PG X tg (fY X.K (gB n (vV k))):=by
 intro a5f s σ H v u Q I r hw
 obtain ⟨π,ρ,μ,d,ρ',R,E,hd,hm,kk⟩:=hw
 obtain ⟨y,h1,h2⟩:=UB.mp hm
 obtain ⟨xs,h3,h4⟩:=Uw.mp h1
 split at h4
 ·rename_i hx
  cases h4
  subst h2
  have hρ:ρ.length=n+k:=by rw [<- E.len,I.len,hl]
  refine h a5f s σ H v u Q I r ⟨π,ρ,μ,d,lW ρ (YS n k) xs,R,E,hd,(by simp only [c7,h3,UZ,List.length_range',if_pos hx]),fun σ' E'=>kk σ' ?_⟩
  have e:=BS xs (ρ.take n) (ρ.drop n) (by rw [XE];omega)
  rw [Zd,W5,YB (by omega),hx] at e
  rw [e] at E'
  exact E'
 ·cases h4
section
variable {X:Cx}{scope:Xf}{cl:List (Str×Addr)}{xs:List Str}{tg elt iter:UO}{ifs:List UO}{pos ppos:Wl}{mi:MI}{me:ME}{mc:MT}{bd:BD}
theorem L7 {K:Ux}{π:Nat->Addr}{n:Nat}{H:Hp}{σ:St}{ρ o:aL}{k:Nat}(E:En K π n H σ (ρ++o))(ho:o.length=k):En K π n H σ (ρ++Vi k none):=by
 refine ⟨by rw [E.len,U5,U5,WM,ho],fun i d q=>?_⟩
 by_cases hi:i<ρ.length
 ·rw [Vt hi] at q
  exact E.get i d (by rw [Vt hi];exact q)
 ·rw [Wq (XC.mp hi),W6] at q
  split at q<;>cases q
theorem BU (O:CompOk X scope cl xs)(hcalm:X.calm=true)(hi:PI X tg iter (j0 X.K mi))(hb':∀ d μ z,bd d μ=some z->z.length=xs.length)(hg:∀ C s₀ H₀ fp,PG (cX X scope cl C (bL xs X.N++xs) s₀ H₀ fp) tg (fY X.K (gB X.N.length bd)))
  (hc:∀ C s₀ H₀ fp,nJ (cX X scope cl C (bL xs X.N++xs) s₀ H₀ fp) ifs mc)(he:∀ C s₀ H₀ fp,PE (cX X scope cl C (bL xs X.N++xs) s₀ H₀ fp) elt (tM X.K me))
  (hs:∀ x,Yj iter X.env x=pure x){use:Option (UC->a4q Unit)}{QQ:UC->UE->Prop}{a5f:List (Addr×Wf)}{s:UE}{σ:St}{H:Hp}{π:Nat->Addr}{ρ:aL}{μ μ':Hm}{d:D}
  (I:Inv X a5f σ H s)(R:Rp X.K π H μ)(E:En X.K π μ.length H σ ρ)(hm:j6 bd mi mc me ρ μ=some (d,μ'))
  (fin:∀ (p C:Addr)(π':Nat->Addr)(H':Hp)(s':UE),Ext π μ.length H π' μ'.length H'->Rp X.K π' H' μ'->IsD X.K π' μ'.length H' (.ref p) d->(∃ m,s'.heap.Ns C m)->X.s₀.heap.objs.size<=C->C≠X.env.locals->H' C=none->
   (∀ y c,X.env.cells.lookup y=some c->c≠C)->(∀ q∈X.pn++a5f,q.1≠C)->(∀ h',(∀ b o,b≠C->s'.heap.get? b=some o->h'.get? b=some o)->Inv X a5f σ H' { s' with heap:=h' })->
   compPost (U8 X.prog X.w) X.A X.xe use QQ (.ref p) C (.ok .next) s') :
  U3 (U8 X.prog X.w) X.A (comprehension (.ListComp elt [⟨tg,iter,ifs,0⟩] scope pos) scope X.env ppos (newList []) false (eval iter X.env) use) QQ X.xe s:=by
 obtain ⟨⟨src,nt,μ1⟩,h1,hm⟩:=Uw.mp hm
 obtain ⟨μ2,h3,hm⟩:=UB.mp hm
 cases hm
 have hit:U3 (U8 X.prog X.w) X.A (eval iter X.env) (fun v s1=>U3 (U8 X.prog X.w) X.A (a1z v) (rD X a5f σ tg fun J H1=>∃ π1,Ext π μ.length H π1 μ1.length H1/\Rp X.K π1 H1 μ1/\Wk X.K J src π1 μ1.length H1) X.xe s1) X.xe s:=
  hi a5f s σ H _ I ⟨π,ρ,μ,src,nt,μ1,R,E,h1,fun π1 H1 J e1 R1 W=>⟨π1,e1,R1,W⟩⟩
 refine wpAny_comprehension_free rfl hs O.clos O.kind O.names (VP hit (fun v s1 hv=>VP hv (fun itv s2 h4=>?_) fun _ _ z=>z) fun _ _ z=>z)
 obtain ⟨it,fp,tn,J,H2,rfl,I2,T,st2,f2,π1,e1,R1,W⟩:=h4
 refine Wt (wpAny_newFunctionEnv O.nocell (by intro y hy;simp at hy) (fun h₁ hns₁ hsb₁=>?_) O.kind)
 dsimp only at hns₁ hsb₁ ⊢
 have hfr:H2 s2.heap.objs.size=none:=I2.hok.fresh (UJ _)
 have I3:Inv X a5f σ (aK H2 s2.heap.objs.size (.lst [])) { s2 with heap:=s2.heap.push { cls:=.type "list",dict:=none,data:=.seq ([]:List UC).toArray } }:=
  I2.laid (t':=s2.toks) (fun b u e=>UD _ e) (UJ _) ⟨Vk _,[],0,.nil,UT _ rfl⟩
 obtain ⟨e2,R2,q2⟩:=R1.alloc (c:=.lst []) (o:=.lst []) hfr .nil
 generalize hs3:({ s2 with heap:=s2.heap.push { cls:=.type "list",dict:=none,data:=.seq ([]:List UC).toArray } }:UE)=s3 at I3
 have hheap:s2.heap.push { cls:=.type "list",dict:=none,data:=.seq ([]:List UC).toArray } = s3.heap:=by rw [<- hs3]
 have e12:=e1.trans e2
 generalize hH3:aK H2 s2.heap.objs.size (.lst [])=H3 at I3 e2 R2 e12
 generalize hπ3:gX π1 μ1.length s2.heap.objs.size=π3 at e2 R2 q2 e12
 have hob:∀ b∈fp,∃ o,s3.heap.get? b=some o:=fun b hb=>by
  obtain ⟨o,ho,_⟩:=T.obj 0 _ st2 b hb
  exact ⟨o,by rw [<- hheap];exact UD _ ho⟩
 have f3:∀ b∈fp,fF X a5f H3 b:=fun b hb=>by
  obtain ⟨o,ho,_⟩:=T.obj 0 _ st2 b hb
  refine ⟨?_,(f2 b hb).2⟩
  rw [<- hH3,bE (UY (UK ho))]
  exact (f2 b hb).1
 have st3:tn 0 s3.heap:=T.keep 0 _ _ st2 fun b hb o e=>by rw [<- hheap];exact UD _ e
 have hC:(s2.heap.push { cls:=.type "list",dict:=none,data:=.seq ([]:List UC).toArray }).objs.size=s3.heap.objs.size:=by rw [hheap]
 rw [hheap] at hns₁ hsb₁
 have hk1:∀ b o,s3.heap.get? b=some o->h₁.get? b=some o:=fun b o e=>hsb₁.extBut b o (UY (UK e)) (UD _ e)
 have E3:En X.K π3 (μ1++[C.lst []]).length H3 (σ++Vi xs.length none) (ρ++Vi xs.length none):=by
  have E':=E.mono e12
  refine ⟨by rw [U5,U5,E'.len,WM,WM],fun i d' q=>?_⟩
  by_cases hi:i<ρ.length
  ·rw [Vt hi] at q
   obtain ⟨v,h5,h6⟩:=E'.get i d' q
   exact ⟨v,by rw [Vt (by rw [E'.len];exact hi)];exact h5,h6⟩
  ·rw [Wq (XC.mp hi),W6] at q
   split at q<;>cases q
 have hlen:ρ.length=X.N.length:=by rw [<- E.len];exact I.len
 have stat:∀ {H':Hp}{pl:List (Addr×Wf)},(∀ b∈fp,H' b=none)->pl=[]->∀ b∈fp,fF (cX X scope cl s3.heap.objs.size (bL xs X.N++xs) s3 H3 fp) pl H' b:=fun {H' pl} hn hpl b hb=>by
  obtain ⟨f0,f1,f2',f3',f4,f5⟩:=f3 b hb
  obtain ⟨o,ho⟩:=hob b hb
  refine ⟨hn b hb,UY (UK ho),fun z=>?_,.inl hb,fun y c h=>f4 y c (O.sub y c h),fun p hp=>?_⟩
  ·rcases U6.mp (I3.stkSub b z) with z|z
   ·exact f1 z
   ·exact f2' z
  ·subst hpl
   exact absurd (show p∈([]:List (Addr×Wf)) from hp) (by simp)
 have loop:∀ s4:UE,(∃ tk,s4 = { s3 with heap:=h₁,toks:=tk })->
   X7 (U8 X.prog X.w) X.A (.compLoop (.ListComp elt [⟨tg,iter,ifs,0⟩] scope pos) 0 (.ref it) (.ref s2.heap.objs.size) (Yk scope cl s3.heap.objs.size X.env))
    (compPost (U8 X.prog X.w) X.A X.xe use QQ (.ref s2.heap.objs.size) s3.heap.objs.size) s4:=by
  rintro s4 ⟨tk,rfl⟩
  have I4:=O.inv (tk:=tk) I3 f3 hob hns₁ hk1
  refine Ku (fun n s'=>∃ i σ' H' π' μi o,Inv (cX X scope cl s3.heap.objs.size (bL xs X.N++xs) s3 H3 fp) [] σ' H' s'/\tn i s'.heap/\(∀ b∈fp,H' b=none)/\Ext π3 (μ1++[C.lst []]).length H3 π' μi.length H'/\Rp X.K π' H' μi /\
   En X.K π' μi.length H' σ' (ρ++o)/\o.length=xs.length/\f6 src bd mc me ρ μ1.length n i μi=some μ') ?_ nt
   ⟨0,_,H3,π3,μ1++[C.lst []],Vi xs.length none,I4,T.keep 0 _ _ st3 fun b hb o e=>hk1 b o e,fun b hb=>(f3 b hb).1,.refl,R2,E3,WM,h3⟩
  rintro n s5 ⟨i,σ5,H5,π5,μ5,o5,I5,st5,fr5,e5,R5,E5,l5,g5⟩
  cases n with
  | zero=>cases g5
  | succ n=>
   obtain ⟨o,h6,h7⟩:=Uw.mp g5
   cases o with
   | none=>
    cases h7
    have stop:=W.stop π5 _ H5 i (e2.trans e5) R5 h6
    refine VP (T.done (cX X scope cl s3.heap.objs.size (bL xs X.N++xs) s3 H3 fp) rfl rfl rfl hcalm i [] s5 σ5 H5 (fun _ _=>False) I5 (stat fr5 rfl) st5 stop) (fun r s6 ⟨hr,I6⟩=>?_) fun _ _ z=>z
    subst hr
    obtain ⟨m6,hn6,_⟩:=id I6.loc
    have hp:π5 μ1.length=s2.heap.objs.size:=by rw [e5.pi μ1.length (by simp),q2]
    refine fin s2.heap.objs.size s3.heap.objs.size π5 H5 s6 (e12.trans e5) R5 ?_ ⟨m6,hn6⟩ I3.sz (VH (UY I3.lt)) I6.free (fun y c hc z=>?_) (fun q hq z=>?_) fun h' hh=>CompOk.back I3 f3 I6 hh
    ·rw [<- hp]
     exact .loc (Vg (by simp) e5.le)
    ·obtain ⟨v,o,ho,_⟩:=I3.cell y c hc
     exact UY (UK ho) z
    ·exact UY (UK (I3.pin q hq).1) z
   | some d=>
    obtain ⟨z,hz,h7⟩:=Uw.mp h7
    obtain ⟨⟨b,μ6⟩,h8,h9⟩:=Uw.mp h7
    obtain ⟨g1,g2⟩:=W.go π5 μ5 H5 i d (e2.trans e5) R5 h6
    refine VP (T.item (cX X scope cl s3.heap.objs.size (bL xs X.N++xs) s3 H3 fp) rfl rfl rfl hcalm i [] s5 σ5 H5 (fun _ _=>False) I5 (stat fr5 rfl) st5 g1) (fun r s6 ⟨u,hr,h10⟩=>?_) fun _ _ z=>z
    subst hr
    refine VP h10 (fun _ s7 ⟨v,H7,I7,r7,y7,st7,fr7⟩=>?_) fun _ _ z=>z
    obtain ⟨e7,R7,hd⟩:=g2 v H7 y7
    have I7':=I7.pinned (stat fr7 rfl) (T.obj _ _ st7)
    have e5:=e5.trans e7
    refine VP (hg _ _ _ _ _ s7 σ5 H7 v u (fun σ' H'=>En X.K π5 μ5.length H7 σ' (ρ++z)/\H'=H7) I7' r7
     ⟨π5,ρ++Vi xs.length none,μ5,d,ρ++z,R7,L7 (E5.mono e7) l5,hd,(by
      show (bd d μ5).map (fun x=>(ρ++Vi xs.length none).take X.N.length++x)=_
      rw [hz,<- hlen,List.take_left]
      rfl),fun σ' E'=>⟨E',rfl⟩⟩) (fun _ s8 ⟨σ8,H8,I8,E8,z2⟩=>?_) fun _ _ z=>z
    subst z2
    have again:∀ {s9:UE}{H9:Hp}{π9:Nat->Addr}{μ9:Hm},Inv (cX X scope cl s3.heap.objs.size (bL xs X.N++xs) s3 H3 fp) ([]++pF fp s7.heap) σ8 H9 s9->Ext π3 (μ1++[C.lst []]).length H3 π9 μ9.length H9->Rp X.K π9 H9 μ9->
      En X.K π9 μ9.length H9 σ8 (ρ++z)->f6 src bd mc me ρ μ1.length n (i+1) μ9=some μ'->
      ∃ m,m<n+1/\∃ i σ' H' π' μi o,Inv (cX X scope cl s3.heap.objs.size (bL xs X.N++xs) s3 H3 fp) [] σ' H' s9/\tn i s9.heap/\(∀ b∈fp,H' b=none)/\Ext π3 (μ1++[C.lst []]).length H3 π' μi.length H'/\Rp X.K π' H' μi /\
       En X.K π' μi.length H' σ' (ρ++o)/\o.length=xs.length/\f6 src bd mc me ρ μ1.length m i μi=some μ':=fun {s9 H9 π9 μ9} I9 e9 R9 E9 g9=>by
     refine ⟨n,XI _,i+1,_,H9,π9,μ9,z,I9.unpinned,T.keep _ _ _ st7 fun b hb o e=>(I9.pin (b,o) (VR _ (VR _ (rG hb e)))).1,fun b hb=>?_,e9,R9,E9,hb' _ _ _ hz,g9⟩
     obtain ⟨o,e,_⟩:=T.obj _ _ st7 b hb
     exact (I9.pin (b,o) (VR _ (VR _ (rG hb e)))).2.1
    refine VP (hc _ _ _ _ _ s8 _ H8 (fun b' H'=>∃ π9,b'=b/\Ext π5 μ5.length H8 π9 μ6.length H'/\Rp X.K π9 H' μ6) I8 ⟨π5,_,μ5,b,μ6,R7,E8,h8,fun π9 H9 e9 R9=>⟨π9,rfl,e9,R9⟩⟩) (fun ok s9 ⟨H9,I9,π9,hb,e9,R9⟩=>?_) fun _ _ z=>z
    subst hb
    cases ok with
    | false=>
     rw [if_neg Vn]
     exact again I9 (e5.trans e9) R9 (E8.mono e9) h9
    | true=>
     rw [if_pos rfl]
     obtain ⟨⟨dy,μ7⟩,h11,h12⟩:=Uw.mp h9
     obtain ⟨μ8,h13,h14⟩:=Uw.mp h12
     refine VP (he _ _ _ _ _ s9 _ H9 (fun y H'=>∃ π10,Ext π9 μ6.length H9 π10 μ7.length H'/\Rp X.K π10 H' μ7/\IsD X.K π10 μ7.length H' y dy) I9 ⟨π9,_,μ6,dy,μ7,R9,E8.mono e9,h11,fun π10 y H10 e10 R10 i10=>⟨π10,e10,R10,i10⟩⟩)
      (fun u' s10 ⟨y,H10,I10,ry,π10,e10,R10,i10⟩=>?_) fun _ _ z=>z
     unfold nI at h13
     split at h13
     ·rename_i zs hz
      split at h13
      ·rename_i hl
       cases h13
       obtain ⟨vs,h15,h16⟩:=R10.lst _ zs hz
       have eall:=(e5.trans e9).trans e10
       have hp:π10 μ1.length=s2.heap.objs.size:=by rw [eall.pi μ1.length (by simp),q2]
       obtain ⟨e11,R11⟩:=R10.put (a:=μ1.length) (c:=.lst (zs++[dy])) (o:=.lst (vs++[y])) (UA.mp hz).1 h15 (.inl ⟨vs,rfl⟩) (h16.append (.cons i10 .nil))
       rw [hp] at h15 e11 R11
       refine VP (AZ (X:=cX X scope cl s3.heap.objs.size (bL xs X.N++xs) s3 H3 fp) _ s10 _ H10 (.ref s2.heap.objs.size) [y] (.ref s2.heap.objs.size) [u'] (fun _ H'=>H'=aK H10 s2.heap.objs.size (.lst (vs++[y]))) I10 rfl (.cons ry .nil)
        ⟨s2.heap.objs.size,vs,y,rfl,rfl,h15,by rw [h16.length];exact hl,rfl⟩) (fun _ s11 ⟨_,H11,I11,_,z⟩=>?_) fun _ _ z=>z
       subst z
       exact again I11 (eall.trans e11) R11 ((E8.mono (e9.trans e10)).mono e11) h14
      ·cases h13
     ·cases h13
 have l4:=loop { s3 with heap:=h₁,toks:=s2.toks+([]:List (Str×UC)).length } ⟨_,rfl⟩
 have hst4:tn 0 h₁:=T.keep 0 _ _ st3 fun b hb o e=>hk1 b o e
 subst hs3
 exact codeAny_compStart_list l4 (T.self _ 0 _ _ _ hst4 l4)
theorem L8 (O:CompOk X scope cl xs)(hcalm:X.calm=true)(hi:PI X tg iter (j0 X.K mi))(hb':∀ d μ z,bd d μ=some z->z.length=xs.length)(hg:∀ C s₀ H₀ fp,PG (cX X scope cl C (bL xs X.N++xs) s₀ H₀ fp) tg (fY X.K (gB X.N.length bd)))
  (hc:∀ C s₀ H₀ fp,nJ (cX X scope cl C (bL xs X.N++xs) s₀ H₀ fp) ifs mc)(he:∀ C s₀ H₀ fp,PE (cX X scope cl C (bL xs X.N++xs) s₀ H₀ fp) elt (tM X.K me))
  (hs:∀ x,Yj iter X.env x=pure x):PE X (.ListComp elt [⟨tg,iter,ifs,0⟩] scope pos) (tM X.K (j6 bd mi mc me)):=by
 intro a5f s σ H Q I hw
 obtain ⟨π,ρ,μ,d,μ',R,E,hm,k⟩:=hw
 rw [eval_ListComp]
 refine BU (use:=none) O hcalm hi hb' hg hc he hs I R E hm fun p C π' H' s' e1 R1 i1 hns hsz hne hfree hcel hpin back=>?_
 obtain ⟨m,hn⟩:=hns
 exact ⟨m,hn,fun h' sb=>⟨.ref p,H',back h' (fun b o hb e=>(sb.2 b hb).trans e),rfl,k π' _ H' e1 R1 i1⟩⟩
theorem L9 {i:Nat}{y:Str}{py spos:Wl}(O:CompOk X scope cl xs)(hN:X.N.Nodup)(hcalm:X.calm=true)(hi:PI X tg iter (j0 X.K mi))(hb':∀ d μ z,bd d μ=some z->z.length=xs.length)(hg:∀ C s₀ H₀ fp,PG (cX X scope cl C (bL xs X.N++xs) s₀ H₀ fp) tg (fY X.K (gB X.N.length bd)))
  (hc:∀ C s₀ H₀ fp,nJ (cX X scope cl C (bL xs X.N++xs) s₀ H₀ fp) ifs mc)(he:∀ C s₀ H₀ fp,PE (cX X scope cl C (bL xs X.N++xs) s₀ H₀ fp) elt (tM X.K me))
  (hs:∀ x,Yj iter X.env x=pure x)(hy:X.N[i]? = some y)(hl:X.env.scope.names.lookup y=some .local)
  (hsw:Yx (.ListComp elt [⟨tg,iter,ifs,0⟩] scope pos) (some (.Name y py)) spos.line X.env=pure true) :
  PS X (.Assign [.Name y py] (.ListComp elt [⟨tg,iter,ifs,0⟩] scope pos) spos) (dB X.K (aV i (j6 bd mi mc me))):=by
 intro a5f s σ H EN I hw
 obtain ⟨π,ρ,μ,fl,ρ',μ',R,E,hm,k⟩:=hw
 obtain ⟨⟨d,μ1⟩,h1,hm⟩:=UB.mp hm
 cases hm
 rw [exec_Assign_Name_used _ _ _ _ hsw]
 refine Uy (a1S ?_)
 refine Uy (Uy ?_)
 refine BU (use:=some (a0k (.Name y py) X.env)) (QQ:=fun _ s'=>U3 (U8 X.prog X.w) X.A (pure ()) (fun _ s''=>U3 (U8 X.prog X.w) X.A (pure Flow.next) (SP X a5f EN) X.xe s'') X.xe s') O hcalm hi hb' hg hc he hs I R E h1 fun p C π' H' s' e1 R1 i1 hns hsz hne hfree hcel hpin back=>?_
 obtain ⟨m,hn⟩:=hns
 have I1:Inv X a5f σ H' s':=back s'.heap fun b o _ e=>e
 show U3 (U8 X.prog X.w) X.A (a0k (.Name y py) X.env (.ref p)) _ X.xe s'
 refine a3G ?_
 refine Af I1 hN hy (.inl hl) (show RelV (.ref p) (.ref p) from rfl) (fun s2 I2 ⟨a,sb,ha⟩=>?_) (.inr hl)
 have hCa:C≠a:=by
  rcases ha with rfl|ha
  ·exact hne
  ·exact VH (hcel _ _ ha)
 refine ⟨m,hn.sameBut sb hCa,fun h' sb'=>UG (UG ?_)⟩
 refine ⟨σ.set i (some (.ref p)),H',I2.turned (t':=s2.toks) (fun b o hb e=>(sb'.2 b hb).trans e) hfree hne (.inr hsz) hcel hpin,?_⟩
 exact k π' _ H' e1 R1 ((E.mono e1).set i1 i)
end
end L3
namespace L3
open PySem L2
noncomputable def bX:ME:=fun _ _=>none
noncomputable def lZ:MT:=fun _ _=>none
noncomputable def gA:MS:=fun _ _=>none
section
variable {X:Cx}{e a b c o:UO}{m m1 m2 ma mb mc:ME}{pos:Wl}{mt mu:MT}{bO es:List UO}{ms:MA}{n:Nat}
theorem cA:QE X e bX:=⟨fun a5f s σ H Q I h=>by
 obtain ⟨π,ρ,μ,d,μ',R,E,hm,k⟩:=h
 cases hm⟩
theorem v8:QT X e lZ:=⟨fun a5f s σ H Q I h=>by
 obtain ⟨π,ρ,μ,d,μ',R,E,hm,k⟩:=h
 cases hm⟩
theorem Ma:QW X e lZ:=⟨fun wh a5f s σ H Q I h=>by
 obtain ⟨π,ρ,μ,d,μ',R,E,hm,k⟩:=h
 cases hm⟩
theorem iR {st:Stmt}:QS X st gA:=⟨fun a5f s σ H D I h=>by
 obtain ⟨π,ρ,μ,fl,ρ',μ',R,E,hm,k⟩:=h
 cases hm⟩
theorem sF {g:MG}(hg:∀ d ρ μ,g d ρ μ=none):QG X e g:=⟨fun a5f s σ H v u Q I r h=>by
 obtain ⟨π,ρ,μ,d,ρ',R,E,hd,hm,k⟩:=h
 rw [hg] at hm
 cases hm⟩
theorem l8 (h1:QE X e m1)(h2:QE X e m2)(h:∀ ρ μ r,m ρ μ=some r->m1 ρ μ=some r\/m2 ρ μ=some r):QE X e m:=⟨fun a5f s σ H Q I q=>by
 obtain ⟨π,ρ,μ,d,μ',R,E,hm,k⟩:=q
 rcases h ρ μ _ hm with z|z
 ·exact h1.h a5f s σ H Q I ⟨π,ρ,μ,d,μ',R,E,z,k⟩
 ·exact h2.h a5f s σ H Q I ⟨π,ρ,μ,d,μ',R,E,z,k⟩⟩
theorem nP {m m1 m2:MT}(h1:QT X e m1)(h2:QT X e m2)(h:∀ ρ μ r,m ρ μ=some r->m1 ρ μ=some r\/m2 ρ μ=some r):QT X e m:=⟨fun a5f s σ H Q I q=>by
 obtain ⟨π,ρ,μ,d,μ',R,E,hm,k⟩:=q
 rcases h ρ μ _ hm with z|z
 ·exact h1.h a5f s σ H Q I ⟨π,ρ,μ,d,μ',R,E,z,k⟩
 ·exact h2.h a5f s σ H Q I ⟨π,ρ,μ,d,μ',R,E,z,k⟩⟩
theorem gC {f f1 f2:D->D->Hm->Option (D×Hm)}(h:∀ x y μ r,f x y μ=some r->f1 x y μ=some r\/f2 x y μ=some r) :
  ∀ ρ μ r,aB f ma mb ρ μ=some r->aB f1 ma mb ρ μ=some r\/aB f2 ma mb ρ μ=some r:=by
 intro ρ μ r hm
 obtain ⟨p,h1,hm⟩:=Uw.mp hm
 obtain ⟨q,h2,hm⟩:=Uw.mp hm
 rcases h _ _ _ _ hm with z|z
 ·exact .inl (Uw.mpr ⟨p,h1,Uw.mpr ⟨q,h2,z⟩⟩)
 ·exact .inr (Uw.mpr ⟨p,h1,Uw.mpr ⟨q,h2,z⟩⟩)
theorem nQ (h:∀ ρ μ r,m ρ μ=some r->m1 ρ μ=some r\/m2 ρ μ=some r):∀ ρ μ r,aR m ρ μ=some r->aR m1 ρ μ=some r\/aR m2 ρ μ=some r:=by
 intro ρ μ r hm
 obtain ⟨p,h1,hm⟩:=Uw.mp hm
 rcases h _ _ _ h1 with z|z
 ·exact .inl (Uw.mpr ⟨p,z,hm⟩)
 ·exact .inr (Uw.mpr ⟨p,z,hm⟩)
noncomputable def kR:List D->Option (List Int)
 | []=>some []
 | .int i::r=>(kR r).map (i::·)
 | _=>none
noncomputable def cS:D->Option (List Int)
 | .tup ds=>kR ds
 | _=>none
noncomputable def bC (kvs:List (List Int×D))(k:List Int):Option D:=(kvs.find? fun p=>decide (p.1=k)).map (·.2)
noncomputable def cC (kvs:List (List Int×D))(k:List Int)(d:D):List (List Int×D):=if (bC kvs k).isSome then kvs.map (fun p=>if p.1=k then (p.1,d) else p) else kvs++[(k,d)]
noncomputable def aI:D->D->Hm->Option (D×Hm):=fun x y μ=>match x with
 | .loc a=>match μ[a]? with
  | some (.dT kvs)=>(cS y).bind fun k=>(bC kvs k).map fun d=>(d,μ)
  | some (.dF kvs)=>(cS y).bind fun k=>(bC kvs k).map fun d=>(d,μ)
  | _=>fH x y μ
 | _=>fH x y μ
structure TabOk (X:Cx)(x:Str)(kvs:List (bD×D)):Prop where
 ex:∃ (p:Addr)(vs:List (bD×V))(ws:List (bD×UC)),X.mg x=some (.ref p)/\(∀ h:VL,X.K.In h->h.DictOf (lR X.prog X.w) p ws)/\KV vs ws/\∀ π n H,IsKs X.K π n H vs kvs
theorem BV {a5f:List (Addr×Wf)}{σ:St}{H:Hp}{s:UE}(I:Inv X a5f σ H s){p:Addr}{ob:Wf}(h:X.K.lookup p=some ob):H p=none:=(I.bs p ob (I.mod.kin p ob h)).2
theorem BW {K:Ux}{π:Nat->Addr}{H:Hp}{μ:Hm}(R:Rp K π H μ){a':Nat}(ha:a'<μ.length):(∃ vs,H (π a')=some (.lst vs))\/(∃ vs,H (π a')=some (.dK vs))\/(∃ φ,H (π a')=some (.ext φ))\/∃ ob φ,H (π a')=some (.frz ob (.ext φ)):=by
 cases q:μ[a']? with
 | none=>exact absurd (VF.mp q) (by omega)
 | some cl=>
  cases cl with
  | lst xs=>obtain ⟨vs,h,_⟩:=R.lst a' xs q;exact .inl ⟨vs,h⟩
  | dK xs=>obtain ⟨vs,h,_⟩:=R.dK a' xs q;exact .inr (.inl ⟨vs,h⟩)
  | st xs=>obtain ⟨vs,h,_⟩:=R.st a' xs q;exact .inr (.inr (.inl ⟨_,h⟩))
  | dT xs=>obtain ⟨vs,h,_⟩:=R.dT a' xs q;exact .inr (.inr (.inl ⟨_,h⟩))
  | dF xs=>obtain ⟨ob,vs,h,_⟩:=R.dF a' xs q;exact .inr (.inr (.inr ⟨ob,_,h⟩))
section
variable {a5f:List (Addr×Wf)}{σ:St}{H:Hp}{s:UE}{π:Nat->Addr}{μ:Hm}
theorem BX (I:Inv X a5f σ H s)(R:Rp X.K π H μ){a':Nat}(ha:a'<μ.length){vs:List V}(h:SqT X.K H (π a') vs):False:=by
 have hc:=BW R ha
 rcases h with h|h
 ·rcases h with h|⟨ob,h⟩<;>rcases hc with ⟨ws,z⟩|⟨ws,z⟩|⟨ws,z⟩|⟨_,ws,z⟩<;>(rw [h] at z;cases z)
 ·obtain ⟨ob,its,n,hk,_⟩:=h
  have:=BV I hk
  rcases hc with ⟨ws,z⟩|⟨ws,z⟩|⟨ws,z⟩|⟨_,ws,z⟩<;>(rw [this] at z;cases z)
theorem BY (I:Inv X a5f σ H s)(R:Rp X.K π H μ){a':Nat}(ha:a'<μ.length){vs:List V}(h:RoL X.K H (π a') vs):False:=by
 have hc:=BW R ha
 rcases h with ⟨ob,h⟩|h
 ·rcases hc with ⟨ws,z⟩|⟨ws,z⟩|⟨ws,z⟩|⟨_,ws,z⟩<;>(rw [h] at z;cases z)
 ·obtain ⟨ob,its,n,hk,_⟩:=h
  have:=BV I hk
  rcases hc with ⟨ws,z⟩|⟨ws,z⟩|⟨ws,z⟩|⟨_,ws,z⟩<;>(rw [this] at z;cases z)
theorem BZ (I:Inv X a5f σ H s){p:Addr}{vs ws:List V}(h:SqT X.K H p vs)(h':RoL X.K H p ws):False:=by
 obtain ⟨its,_,t,_⟩:=I.tuple h
 obtain ⟨its',_,l,_⟩:=I.list h'.sq
 exact absurd rfl (Wo l.isList t)
mutual
theorem v9 (I:Inv X a5f σ H s)(R:Rp X.K π H μ){v:V}{d d':D}:IsD X.K π μ.length H v d->IsD X.K π μ.length H v d'->d=d'
 | .non,h'=>by cases h';rfl
 | .bl _,h'=>by cases h';rfl
 | .int _,h'=>by cases h';rfl
 | .str _,h'=>by cases h';rfl
 | .ty _,h'=>by cases h';rfl
 | .tup h t,h'=>by
  cases h' with
  | tup h2 t2=>
   have:=I.tuple_inj h h2
   subst this
   rw [wA I R t t2]
  | rol h2 t2=>exact (BZ I h h2).elim
  | loc h2=>exact (BX I R h2 h).elim
 | .rol h t,h'=>by
  cases h' with
  | tup h2 t2=>exact (BZ I h2 h).elim
  | rol h2 t2=>
   have:=I.list_inj h.sq h2.sq
   subst this
   rw [wA I R t t2]
  | loc h2=>exact (BY I R h2 h).elim
 | .loc (a:=a1) ha,h'=>by
  generalize hz:V.ref (π a1)=z at h'
  cases h' with
  | tup h2 t2=>cases hz;exact (BX I R ha h2).elim
  | rol h2 t2=>cases hz;exact (BY I R ha h2).elim
  | loc h2=>
   have:=R.inj _ _ ha h2 (V.ref.inj hz)
   rw [this]
  | _=>cases hz
theorem wA (I:Inv X a5f σ H s)(R:Rp X.K π H μ){vs:List V}{ds ds':List D}:IsDs X.K π μ.length H vs ds->IsDs X.K π μ.length H vs ds'->ds=ds'
 | .nil,h'=>by cases h';rfl
 | .cons h t,h'=>by
  cases h' with
  | cons h2 t2=>rw [v9 I R h h2,wA I R t t2]
end
end
noncomputable def j7 (μ:Hm)(x:D):List D->Option Bool
 | []=>some false
 | y::r=>(b9 8 μ y x).bind fun b=>(j7 μ x r).map fun c=>b||c
noncomputable def l9 (neg:Bool):D->D->Hm->Option (D×Hm):=fun x y μ=>(bI μ y).bind fun ys=>(j7 μ x ys).map fun b=>(.bl (if neg then !b else b),μ)
noncomputable def wB (K:Ux)(neg:Bool):R2:=fun x y H Q=>∃ π μ dx dy ys b,Rp K π H μ/\IsD K π μ.length H x dx/\IsD K π μ.length H y dy/\bI μ dy=some ys/\j7 μ dx ys=some b/\Q (.bl (if neg then !b else b)) H
theorem sG {K:Ux}{neg:Bool}:cP K (l9 neg) (wB K neg):=by
 intro π H μ x y d μ' vx vy Q R ix iy hm k
 obtain ⟨ys,h1,hm⟩:=Uw.mp hm
 obtain ⟨b,h2,hm⟩:=UB.mp hm
 cases hm
 exact ⟨π,_,x,y,ys,b,R,ix,iy,h1,h2,k π _ H .refl R (.bl _)⟩
theorem sH {a5f:List (Addr×Wf)}{σ:St}{H:Hp}{s:UE}{π:Nat->Addr}{μ:Hm}(I:Inv X a5f σ H s)(R:Rp X.K π H μ){A:Vh}(hu:A.units+8<V3){x:V}{v:UC}{dx:D}(rx:RelV x v)(ix:IsD X.K π μ.length H x dx) :
  ∀ {ys:List D}{vs:List V}{us:List UC}{b:Bool},IsDs X.K π μ.length H vs ys->Vals vs us->j7 μ dx ys=some b->
   ∃ g:UC->Bool,(∀ u∈us,Y6 A s u v (g u))/\us.any g=b:=by
 classical
 intro ys vs us b hi hv hm
 have each:∀ {ys:List D}{vs:List V}{us:List UC}{b:Bool},IsDs X.K π μ.length H vs ys->Vals vs us->j7 μ dx ys=some b->(∀ u∈us,∃ c,Y6 A s u v c/\∃ w dy,RelV w u/\IsD X.K π μ.length H w dy/\b9 8 μ dy dx=some c):=by
  intro ys
  induction ys with
  | nil=>
   intro vs us b hi hv hm u hu'
   cases hi
   cases hv
   cases hu'
  | cons y ys ih=>
   intro vs us b hi hv hm u hu'
   cases hi with
   | cons h t=>
    cases hv with
    | cons r rt=>
     obtain ⟨c,h1,hm⟩:=Uw.mp hm
     obtain ⟨c2,h2,hm⟩:=UB.mp hm
     rcases U6.mp hu' with rfl|hu'
     ·exact ⟨c,rV I R 8 hu r rx h ix h1,_,_,r,h,h1⟩
     ·exact ih t rt h2 u hu'
 have ec:=each hi hv hm
 refine ⟨fun u=>if h:u∈us then Xp (ec u h) else false,fun u hu'=>?_,?_⟩
 ·simp only [dif_pos hu']
  exact (X1 (ec u hu')).1
 ·have key:∀ u (h:u∈us) w dy c,RelV w u->IsD X.K π μ.length H w dy->b9 8 μ dy dx=some c->Xp (ec u h)=c:=by
   intro u h w dy c rw' iw ew
   obtain ⟨_,w2,dy2,r2,i2,e2⟩:=X1 (ec u h)
   have:w2=w:=r2.inj rw'
   subst this
   have:=v9 I R i2 iw
   subst this
   rw [e2] at ew
   exact U9 ew
  have main:∀ {ys:List D}{vs:List V}{us':List UC}{b:Bool},(∀ u∈us',u∈us)->IsDs X.K π μ.length H vs ys->Vals vs us'->j7 μ dx ys=some b->us'.any (fun u=>if h:u∈us then Xp (ec u h) else false)=b:=by
   intro ys
   induction ys with
   | nil=>
    intro vs us' b hs hi hv hm
    cases hi
    cases hv
    cases hm
    rfl
   | cons y ys ih=>
    intro vs us' b hs hi hv hm
    cases hi with
    | cons h t=>
     cases hv with
     | @cons _ u _ us2 r rt=>
      obtain ⟨c,h1,hm⟩:=Uw.mp hm
      obtain ⟨c2,h2,hm⟩:=UB.mp hm
      have eP:u∈us:=hs u (U2 ..)
      rw [XQ,ih (fun z hz=>hs z (UX _ hz)) t rt h2,dif_pos eP,key u eP _ _ c r h h1]
      exact hm
  exact main (fun _ h=>h) hi hv hm
theorem sI {k:Nat}{A:Vh}(r:Room k A):A.units+9<V3:=by have:=r.un;omega
theorem B0 (hu:X.A.units+9<V3):OpR X (VD .In) (wB X.K false):=by
 intro a5f s σ H x y v u Q I rx ry h
 obtain ⟨π,μ,dx,dy,ys,b,R,ix,iy,e1,e2,q⟩:=h
 obtain ⟨p,vs,rfl,hq,hd⟩:=lX R iy e1
 cases ry
 rcases hq with hq|hq
 ·obtain ⟨its,r,pl,hz⟩:=I.list hq
  obtain ⟨g,g1,g2⟩:=sH I R (A:=X.A.in1) (by rw [kP];omega) rx ix hd r e2
  refine SeqAt.in_listAt g pl.isList (fun w hw=>g1 w (by simpa using hw)) ⟨.bl _,H,I,rfl,?_⟩
  rw [show its.toArray.any g=its.any g by simp,g2]
  exact q
 ·obtain ⟨its,r,pl,hz⟩:=I.tuple hq
  obtain ⟨g,g1,g2⟩:=sH I R (A:=X.A.in1) (by rw [kP];omega) rx ix hd r e2
  refine SeqAt.in_tupleAt g pl (fun w hw=>g1 w (by simpa using hw)) ⟨.bl _,H,I,rfl,?_⟩
  rw [show its.toArray.any g=its.any g by simp,g2]
  exact q
theorem B1 (hu:X.A.units+9<V3):OpR X (VD .NotIn) (wB X.K true):=by
 intro a5f s σ H x y v u Q I rx ry h
 obtain ⟨π,μ,dx,dy,ys,b,R,ix,iy,e1,e2,q⟩:=h
 obtain ⟨p,vs,rfl,hq,hd⟩:=lX R iy e1
 cases ry
 rcases hq with hq|hq
 ·obtain ⟨its,r,pl,hz⟩:=I.list hq
  obtain ⟨g,g1,g2⟩:=sH I R (A:=X.A.in1) (by rw [kP];omega) rx ix hd r e2
  refine SeqAt.notIn_listAt g pl.isList (fun w hw=>g1 w (by simpa using hw)) ⟨.bl _,H,I,rfl,?_⟩
  rw [show its.toArray.any g=its.any g by simp,g2]
  exact q
 ·obtain ⟨its,r,pl,hz⟩:=I.tuple hq
  obtain ⟨g,g1,g2⟩:=sH I R (A:=X.A.in1) (by rw [kP];omega) rx ix hd r e2
  refine SeqAt.notIn_tupleAt g pl (fun w hw=>g1 w (by simpa using hw)) ⟨.bl _,H,I,rfl,?_⟩
  rw [show its.toArray.any g=its.any g by simp,g2]
  exact q
noncomputable def dG (neg:Bool):D->D->Hm->Option (D×Hm)
 | .str i,.str j,μ=>some (.bl (if neg then !(!(V1 j i 0 j.length 1).isEmpty) else !(V1 j i 0 j.length 1).isEmpty),μ)
 | x,.loc a,μ=>match μ[a]? with
  | some (.dT kvs)=>(cS x).map fun k=>(.bl (if neg then !(bC kvs k).isSome else (bC kvs k).isSome),μ)
  | some (.dF kvs)=>(cS x).map fun k=>(.bl (if neg then !(bC kvs k).isSome else (bC kvs k).isSome),μ)
  | _=>l9 neg x (.loc a) μ
 | x,y,μ=>l9 neg x y μ
noncomputable def wC:D->D->Hm->Option (D×Hm)
 | .str i,.str j,μ=>some (.bl (!(!(V1 j i 0 j.length 1).isEmpty)),μ)
 | _,_,_=>none
theorem B2 {K:Ux}:cP K wC (fun x y H Q=>∃ i j,x=.str i/\y=.str j/\Q (.bl (!(!(V1 j i 0 j.length 1).isEmpty))) H):=by
 intro π H μ x y d μ' vx vy Q R ix iy hm k
 unfold wC at hm
 split at hm
 ·cases hm
  cases ix
  cases iy
  exact ⟨_,_,rfl,rfl,k π _ H .refl R (.bl _)⟩
 ·cases hm
noncomputable def jE (neg:Bool):D->D->Hm->Option (D×Hm)
 | x,.non,μ=>some (.bl (match x with|.non=>!neg|_=>neg),μ)
 | _,_,_=>none
theorem B3 {K:Ux}:cP K (jE false) (fun x y H Q=>y=.non/\Q (.bl (decide (x=.non))) H):=by
 intro π H μ x y d μ' vx vy Q R ix iy hm k
 unfold jE at hm
 split at hm
 ·cases hm
  cases iy
  refine ⟨rfl,?_⟩
  cases ix<;>exact k π _ H .refl R (.bl _)
 ·cases hm
theorem B4 {K:Ux}:cP K (jE true) (fun x y H Q=>y=.non/\Q (.bl (!decide (x=.non))) H):=by
 intro π H μ x y d μ' vx vy Q R ix iy hm k
 unfold jE at hm
 split at hm
 ·cases hm
  cases iy
  refine ⟨rfl,?_⟩
  cases ix<;>exact k π _ H .refl R (.bl _)
 ·cases hm
theorem Mb (ha:QE X a ma)(hb:QE X b mb):QE X (.Compare a [.Is] [b] pos) (aB (jE false) ma mb):=⟨eC Ar B3 ha.h hb.h (cW _)⟩
theorem Mc (ha:QE X a ma)(hb:QE X b mb):QE X (.Compare a [.IsNot] [b] pos) (aB (jE true) ma mb):=⟨eC Au B4 ha.h hb.h (cW _)⟩
theorem Md (ha:QE X a ma)(hb:QE X b mb):QT X (.Compare a [.Is] [b] pos) (aR (aB (jE false) ma mb)):=⟨eD Ar B3 ha.h hb.h (cW _)⟩
theorem Me (ha:QE X a ma)(hb:QE X b mb):QT X (.Compare a [.IsNot] [b] pos) (aR (aB (jE true) ma mb)):=⟨eD Au B4 ha.h hb.h (cW _)⟩
end
end L3
namespace L3
open PySem L2
section
variable {X:Cx}{e a b c o:UO}{m m1 m2 ma mb mc mo:ME}{pos apos cpos:Wl}{mt mu:MT}{bO es:List UO}{ms:MA}{n:Nat}
noncomputable def mB (μ:Hm):D->Bool
 | .rol _=>true
 | .loc a=>match μ[a]? with|some (.lst _)=>true|_=>false
 | _=>false
noncomputable def cT (f:D->List D->Hm->Option (D×Hm))(mo:ME)(ms:MA):ME:=fun ρ μ=>(mo ρ μ).bind fun p=>match mB p.2 p.1 with
 | true=>(ms ρ p.2).bind fun q=>f p.1 q.1 q.2
 | false=>none
noncomputable def eJ (K:Ux)(f:D->List D->Hm->Option (D×Hm))(r:V->List V->Hp->VK->Prop):Prop:=
 ∀ π H μ x xs d μ' v vs Q,Rp K π H μ->IsD K π μ.length H v x->IsDs K π μ.length H vs xs->f x xs μ=some (d,μ')->KC K Q π μ.length H d μ'->r v vs H Q
theorem B5 {K:Ux}{π:Nat->Addr}{H:Hp}{μ:Hm}{v:V}{x:D}(R:Rp K π H μ)(h:IsD K π μ.length H v x)(e:mB μ x=true):rO K "list" v H:=by
 cases h with
 | rol h t=>exact .inl ⟨rfl,_,h.sq⟩
 | @loc a ha=>
  simp only [mB] at e
  split at e
  ·rename_i xs hx
   obtain ⟨vs,h1,_⟩:=R.lst a xs hx
   exact .inl ⟨rfl,vs,.of h1⟩
  ·cases e
 | _=>cases e
theorem Mf {K:Ux}{f:D->List D->Hm->Option (D×Hm)}{r:V->List V->Hp->VK->Prop}(hf:eJ K f r):∀ σ H Q,tM K (cT f mo ms) σ H Q->AV K "list" r (tM K mo) (eV K ms) σ H Q:=by
 rintro σ H Q ⟨π,ρ,μ,d,μ',R,E,hm,k⟩
 obtain ⟨⟨x,μ1⟩,h1,hm⟩:=Uw.mp hm
 dsimp only at hm
 split at hm
 ·rename_i hl
  obtain ⟨⟨xs,μ2⟩,h2,hm⟩:=Uw.mp hm
  refine ⟨π,ρ,μ,x,μ1,R,E,h1,fun π1 v1 H1 e1 R1 i1=>⟨B5 R1 i1 hl,π1,ρ,μ1,xs,μ2,R1,E.mono e1,h2,fun π2 vs H2 e2 R2 i2=>?_⟩⟩
  exact hf π2 H2 μ2 x xs d μ' v1 vs Q R2 (i1.mono e2) i2 hm (k.after (e1.trans e2))
 ·cases hm
theorem Mg {K:Ux}{f:D->List D->Hm->Option (D×Hm)}{r:V->List V->Hp->VK->Prop}(hf:eJ K f r):∀ σ H Q,tM K (cT f mo aD) σ H Q->AU K "list" r (tM K mo) σ H Q:=by
 rintro σ H Q ⟨π,ρ,μ,d,μ',R,E,hm,k⟩
 obtain ⟨⟨x,μ1⟩,h1,hm⟩:=Uw.mp hm
 dsimp only at hm
 split at hm
 ·rename_i hl
  obtain ⟨⟨xs,μ2⟩,h2,hm⟩:=Uw.mp hm
  cases h2
  refine ⟨π,ρ,μ,x,μ1,R,E,h1,fun π1 v1 H1 e1 R1 i1=>⟨B5 R1 i1 hl,?_⟩⟩
  exact hf π1 H1 μ1 x [] d μ' v1 [] Q R1 i1 .nil hm (k.after e1)
 ·cases hm
noncomputable def kS:UO->Bool
 | .Call (.Name _ _) [] [] _=>false
 | _=>true
theorem kT {o:UO}{attr:Str}{env:ZZ}{whole:a4q UC}(h:kS o=true):Xx o attr env whole=whole:=by
 cases o with
 | Call f args kws p=>
  cases f with
  | Name id q=>
   cases args with
   | nil=>
    cases kws with
    | nil=>cases h
    | cons _ _=>rfl
   | cons _ _=>rfl
  | _=>rfl
 | _=>rfl
theorem B6 {e:UO}{es:List UO}{env:ZZ}{cpos:Wl}(h:(e::es).all dE=true)(hn:(e::es).length<30) :
  ((W0 cpos (Vj (e::es) env)).all (fun x=>!x.1)&&(a1C cpos (ZO [] env)).all (fun x=>x.1.isSome)
   && decide ((e::es).length+([]:List XT).length+(if ([]:List XT).isEmpty then 0 else 1)<30))=true:=by
 have h1:(W0 cpos (Vj (e::es) env)).all (fun x=>!x.1)=true:=by
  have:=lY (pos:=cpos) (env:=env) h
  rw [List.all_eq_not_any_not]
  simpa using this
 rw [h1]
 have h2:(e::es).length+([]:List XT).length+(if ([]:List XT).isEmpty then 0 else 1)<30:=by
  show (e::es).length+0+0<30
  omega
 rw [decide_eq_true h2]
 rfl
theorem wD {f:D->List D->Hm->Option (D×Hm)}{r:V->List V->Hp->VK->Prop}{name:Str}{id:String}(slot:a4a "list" name id) (hty:a0S (.builtin id)=pure (.type "method_descriptor")) (hm:eU X id r)(hf:eJ X.K f r)
  (ho:QE X o mo)(ha:QA X (e::es) ms n)(hs:kS o=true)(hl:(apos.endLine == cpos.line)=true)(hn:(e::es).length<30):QE X (.Call (.Attribute o name apos) (e::es) [] cpos) (cT f mo ms):=by
 have hst:=ha.s
 have hst':=hst
 rw [Vo,UL] at hst'
 exact ⟨cO (IY a0L slot hty hm ho.h ha.h (kT hs) (B6 hst hn) hl (eY hst'.1) (lY hst'.2)) (Mf hf)⟩
theorem wF {f:D->List D->Hm->Option (D×Hm)}{r:V->List V->Hp->VK->Prop}{name:Str}{id:String}(slot:a4a "list" name id) (hty:a0S (.builtin id)=pure (.type "method_descriptor")) (hm:eU X id r)(hf:eJ X.K f r)
  (ho:QE X o mo)(hs:kS o=true)(hl:(apos.endLine == cpos.line)=true):QE X (.Call (.Attribute o name apos) [] [] cpos) (cT f mo aD):=
 ⟨cO (IX a0L slot hty hm ho.h (kT hs) hl) (Mg hf)⟩
noncomputable def dN:D->List D->Hm->Option (D×Hm)
 | .loc a,[y],μ=>(nI μ a y).map fun μ'=>(.non,μ')
 | _,_,_=>none
noncomputable def nR:D->List D->Hm->Option (D×Hm)
 | .loc a,[.loc b],μ=>match μ[a]?,μ[b]? with
  | some (.lst xs),some (.lst ys)=>if xs.length+ys.length<=UM then some (.non,μ.set a (.lst (xs++ys))) else none
  | _,_=>none
 | _,_,_=>none
noncomputable def wG:D->List D->Hm->Option (D×Hm)
 | .loc a,[],μ=>match μ[a]? with
  | some (.lst _)=>some (.non,μ.set a (.lst []))
  | _=>none
 | _,_,_=>none
noncomputable def mD:D->List D->Hm->Option (D×Hm)
 | .loc a,[],μ=>match μ[a]? with
  | some (.lst xs)=>(xs[xs.length - 1]?).map fun y=>(y,μ.set a (.lst xs.dropLast))
  | _=>none
 | _,_,_=>none
noncomputable def wH:D->List D->Hm->Option (D×Hm)
 | .loc a,[],μ=>match μ[a]? with
  | some (.lst xs)=>some (.non,μ.set a (.lst xs.reverse))
  | _=>none
 | _,_,_=>none
theorem B7 {K:Ux}{π:Nat->Addr}{n:Nat}{H:Hp}{vs:List V}{ds:List D}(h:IsDs K π n H vs ds):IsDs K π n H vs.reverse ds.reverse:=by
 induction ds generalizing vs with
 | nil=>cases h;exact .nil
 | cons d ds ih=>
  cases h with
  | cons h t=>
   rw [Xn,Xn]
   exact (ih t).append (.cons h .nil)
theorem Mh {K:Ux}{π:Nat->Addr}{n:Nat}{H:Hp}{vs:List V}{ds:List D}(h:IsDs K π n H vs ds):IsDs K π n H vs.dropLast ds.dropLast:=by
 rw [a1I,a1I,h.length]
 exact h.take _
theorem Mi {K:Ux}:eJ K dN AY:=by
 intro π H μ x xs d μ' v vs Q R ix ixs hm k
 unfold dN at hm
 split at hm
 ·rename_i a y
  obtain ⟨μ1,h1,hm⟩:=UB.mp hm
  cases hm
  unfold nI at h1
  split at h1
  ·rename_i zs hz
   split at h1
   ·rename_i hl
    cases h1
    obtain ⟨ws,h2,h3⟩:=R.lst a zs hz
    cases ix
    cases ixs with
    | cons iy it=>
     cases it
     obtain ⟨e1,R1⟩:=R.put (a:=a) (c:=.lst (zs++[y])) (o:=.lst (ws++[_])) (UA.mp hz).1 h2 (.inl ⟨ws,rfl⟩) (h3.append (.cons iy .nil))
     exact ⟨_,ws,_,rfl,rfl,h2,by rw [h3.length];exact hl,k π _ _ e1 R1 .non⟩
   ·cases h1
  ·cases h1
 ·cases hm
theorem Mj {K:Ux}:eJ K nR A1:=by
 intro π H μ x xs d μ' v vs Q R ix ixs hm k
 unfold nR at hm
 split at hm
 ·rename_i a b
  split at hm
  ·rename_i zs ys hz hy
   split at hm
   ·rename_i hl
    cases hm
    obtain ⟨ws,h2,h3⟩:=R.lst a zs hz
    obtain ⟨us,h4,h5⟩:=R.lst b ys hy
    cases ix
    cases ixs with
    | cons iy it=>
     cases it
     cases iy
     obtain ⟨e1,R1⟩:=R.put (a:=a) (c:=.lst (zs++ys)) (o:=.lst (ws++us)) (UA.mp hz).1 h2 (.inl ⟨ws,rfl⟩) (h3.append h5)
     exact ⟨_,_,ws,us,rfl,rfl,h2,h4,by rw [h3.length,h5.length];exact hl,k π _ _ e1 R1 .non⟩
   ·cases hm
  ·cases hm
 ·cases hm
theorem Ml {K:Ux}:eJ K wG A4:=by
 intro π H μ x xs d μ' v vs Q R ix ixs hm k
 unfold wG at hm
 split at hm
 ·rename_i a
  split at hm
  ·rename_i zs hz
   cases hm
   obtain ⟨ws,h2,h3⟩:=R.lst a zs hz
   cases ix
   cases ixs
   obtain ⟨e1,R1⟩:=R.put (a:=a) (c:=.lst []) (o:=.lst []) (UA.mp hz).1 h2 (.inl ⟨ws,rfl⟩) .nil
   exact ⟨_,ws,rfl,rfl,h2,k π _ _ e1 R1 .non⟩
  ·cases hm
 ·cases hm
theorem Mm {K:Ux}:eJ K wH A3:=by
 intro π H μ x xs d μ' v vs Q R ix ixs hm k
 unfold wH at hm
 split at hm
 ·rename_i a
  split at hm
  ·rename_i zs hz
   cases hm
   obtain ⟨ws,h2,h3⟩:=R.lst a zs hz
   cases ix
   cases ixs
   obtain ⟨e1,R1⟩:=R.put (a:=a) (c:=.lst zs.reverse) (o:=.lst ws.reverse) (UA.mp hz).1 h2 (.inl ⟨ws,rfl⟩) (B7 h3)
   exact ⟨_,ws,rfl,rfl,h2,k π _ _ e1 R1 .non⟩
  ·cases hm
 ·cases hm
theorem Mn {K:Ux}:eJ K mD A2:=by
 intro π H μ x xs d μ' v vs Q R ix ixs hm k
 unfold mD at hm
 split at hm
 ·rename_i a
  split at hm
  ·rename_i zs hz
   obtain ⟨y,h1,hm⟩:=UB.mp hm
   cases hm
   obtain ⟨ws,h2,h3⟩:=R.lst a zs hz
   cases ix
   cases ixs
   obtain ⟨w,h4,h5⟩:=h3.get h1
   obtain ⟨e1,R1⟩:=R.put (a:=a) (c:=.lst zs.dropLast) (o:=.lst ws.dropLast) (UA.mp hz).1 h2 (.inl ⟨ws,rfl⟩) (Mh h3)
   refine ⟨_,ws,w,rfl,rfl,h2,by rw [h3.length];exact h4,k π w _ e1 R1 (h5.mono e1)⟩
  ·cases hm
 ·cases hm
noncomputable def kU (μ:Hm):D->Option Bool
 | .non=>some false
 | .bl b=>some b
 | .int i=>some (i != 0)
 | .str z=>if z.length<=UM then some ((z.length:Int) != 0) else none
 | .tup xs=>some (!xs.isEmpty)
 | .rol xs=>some (!xs.isEmpty)
 | .loc a=>match μ[a]? with|some (.lst xs)=>some (!xs.isEmpty)|some (.dK kvs)=>some (!kvs.isEmpty)|_=>none
 | .ty _=>none
theorem sJ {α β:Type}{xs:List α}{ys:List β}(h:xs.length=ys.length):xs.isEmpty=ys.isEmpty:=by
 cases xs<;>cases ys<;>first|rfl|cases h
theorem Mo {K:Ux}{π:Nat->Addr}{H:Hp}{μ:Hm}{v:V}{x:D}{b:Bool}(R:Rp K π H μ)(h:IsD K π μ.length H v x)(e:kU μ x=some b):u3 K v H b:=by
 cases h with
 | non=>cases e;rfl
 | bl c=>cases e;rfl
 | int i=>cases e;rfl
 | str z=>
  simp only [kU] at e
  split at e
  ·rename_i hl;cases e;exact ⟨hl,rfl⟩
  ·cases e
 | tup h t=>cases e;exact .inr (.inl ⟨_,h,by rw [sJ t.length]⟩)
 | rol h t=>cases e;exact .inl ⟨_,h.sq,by rw [sJ t.length]⟩
 | @loc a ha=>
  simp only [kU] at e
  split at e
  ·rename_i xs hx
   cases e
   obtain ⟨vs,h1,h2⟩:=R.lst a xs hx
   exact .inl ⟨vs,.of h1,by rw [sJ h2.length]⟩
  ·rename_i kvs hx
   cases e
   obtain ⟨vs,h1,h2,_⟩:=R.dK a kvs hx
   refine .inr (.inr ⟨vs,h1,?_⟩)
   have:=congrArg Vq h2
   rw [Uz,Uz] at this
   rw [sJ this]
  ·cases e
 | ty n=>cases e
noncomputable def dU (m:ME):MT:=fun ρ μ=>(m ρ μ).bind fun p=>(kU p.2 p.1).map fun b=>(b,p.2)
theorem Mp (h:QE X e m)(he:vY e=true):QT X e (dU m):=⟨rQ (HZ h.h (LA he)) (by
 rintro σ H Q ⟨π,ρ,μ,b,μ',R,E,hm,k⟩
 obtain ⟨⟨x,μ1⟩,h1,hm⟩:=Uw.mp hm
 obtain ⟨b',h2,hm⟩:=UB.mp hm
 cases hm
 exact ⟨π,ρ,μ,x,_,R,E,h1,fun π1 v1 H1 e1 R1 i1=>⟨_,Mo R1 i1 h2,k π1 H1 e1 R1⟩⟩)⟩
theorem Mq {k:Nat}{f:Addr}{fd:WS}{ps:List Str}{fm:MF}{x:Str}{p:Wl}(F:FnOk X.prog X.w X.K X.mg X.base fG k f fd ps (i9 X.K 0 fm))(hr:Room k X.A)(hm:X.mg x=some (.ref f))
  (hk:Wm X.K (.ref f)=true)(hb:Binds X.K fd ps [])(hg:Gl X x)(hdb:(x == ("__debug__":Str))=false):QE X (.Call (.Name x p) [] [] pos) (aG fm aD):=
 ⟨cO (Im F hr hg hm hk hb .nil (E:=E0) A7 hdb) (by
  rintro σ H Q ⟨π,ρ,μ,d,μ',R,E,hm,k⟩
  obtain ⟨⟨xs,μ1⟩,h1,hm⟩:=Uw.mp hm
  cases h1
  exact ⟨rfl,π,[],μ,d,μ',R,.nil,hm,k⟩)⟩
noncomputable def mE (c:MT)(b:MS):Nat->MS
 | 0,_,_=>none
 | n+1,ρ,μ=>(c ρ μ).bind fun p=>match p.1 with
  | false=>some (.nx,ρ,p.2)
  | true=>(b ρ p.2).bind fun q=>match q.1 with
   | .nx=>mE c b n q.2.1 q.2.2
   | .ct=>mE c b n q.2.1 q.2.2
   | .bk=>some (.nx,q.2.1,q.2.2)
   | .rt d=>some (.rt d,q.2.1,q.2.2)
noncomputable def pP (n:Nat)(c:MT)(b:MS):MS:=mE c b n
theorem Mr {body:List Stmt}{mb:MS}(n:Nat)(hc:QT X c mt)(hb:QB X body mb)(hp:a0X (U8 X.prog X.w) X.A X.env X.xe):QS X (.While c body [] pos) (pP n mt mb):=⟨iN (Hx hp hc.h hb.h) (by
 rintro E σ H ⟨π,ρ,μ,fl,ρ',μ',R,EN,hm,k⟩
 have lift:∀ {π2:Nat->Addr}{n2:Nat}{H2:Hp}(e:Ext π μ.length H π2 n2 H2),lU X.K E π2 n2 H2 fl ρ' μ':=fun {π2 n2 H2} e=>by
  cases fl with
  | nx=>exact fun π3 σ3 H3 e3 R3 E3=>k π3 σ3 H3 (e.trans e3) R3 E3
  | bk=>exact fun π3 σ3 H3 e3 R3 E3=>k π3 σ3 H3 (e.trans e3) R3 E3
  | ct=>exact fun π3 σ3 H3 e3 R3 E3=>k π3 σ3 H3 (e.trans e3) R3 E3
  | rt d=>exact KC.after k e
 refine ⟨fun m σ' H'=>∃ π2 μ2 ρ2,Ext π μ.length H π2 μ2.length H'/\Rp X.K π2 H' μ2/\En X.K π2 μ2.length H' σ' ρ2/\mE mt mb m ρ2 μ2=some (fl,ρ',μ'),⟨n,π,μ,ρ,.refl,R,EN,hm⟩,?_⟩
 rintro m σ1 H1 ⟨π2,μ2,ρ2,e2,R2,E2,h2⟩
 cases m with
 | zero=>cases h2
 | succ m=>
  obtain ⟨⟨b,μ3⟩,h3,h4⟩:=Uw.mp h2
  refine ⟨π2,ρ2,μ2,b,μ3,R2,E2,h3,fun π3 H3 e3 R3=>?_⟩
  cases b with
  | false=>
   refine kM ?_
   cases h4
   exact lift e2 π3 σ1 H3 e3 R3 (E2.mono e3)
  | true=>
   refine kN ?_
   obtain ⟨⟨f4,ρ4,μ4⟩,h5,h6⟩:=Uw.mp h4
   refine ⟨fun σ' H'=>∃ π5 ρ5 μ5,Ext π μ.length H π5 μ5.length H'/\Rp X.K π5 H' μ5/\En X.K π5 μ5.length H' σ' ρ5/\mE mt mb m ρ5 μ5=some (fl,ρ',μ'),
    fun σ' H' ⟨π5,ρ5,μ5,a1,a2,a3,a4⟩=>⟨m,XI _,π5,μ5,ρ5,a1,a2,a3,a4⟩,π3,ρ2,μ3,f4,ρ4,μ4,R3,E2.mono e3,h5,?_⟩
   cases f4 with
   | nx=>exact fun π5 σ5 H5 e5 R5 E5=>⟨π5,ρ4,μ4,(e2.trans e3).trans e5,R5,E5,h6⟩
   | ct=>exact fun π5 σ5 H5 e5 R5 E5=>⟨π5,ρ4,μ4,(e2.trans e3).trans e5,R5,E5,h6⟩
   | bk=>
    cases h6
    exact fun π5 σ5 H5 e5 R5 E5=>lift (e2.trans e3) π5 σ5 H5 e5 R5 E5
   | rt d'=>
    cases h6
    exact lift (e2.trans e3))⟩
theorem Ms:QS X (.Return none pos) (aS (mC .non)):=⟨iN Hn (by
 rintro E σ H ⟨π,ρ,μ,fl,ρ',μ',R,EN,hm,k⟩
 cases hm
 exact k π .non H .refl R .non)⟩
end
end L3
namespace L3
open PySem L2
noncomputable def nS:List D->Option (List Bool)
 | []=>some []
 | .bl b::r=>(nS r).map (b::·)
 | _=>none
noncomputable def pQ:MF:=fun ds μ=>match ds with
 | [x]=>(bI μ x).bind fun xs=>(nS xs).map fun bs=>(.bl (bs.all id),μ)
 | _=>none
theorem B8 {K:Ux}{π:Nat->Addr}{n:Nat}{H:Hp}:∀ {xs:List D}{vs:List V}{bs:List Bool},IsDs K π n H vs xs->nS xs=some bs->vs=bs.map V.bl
 | [],_,bs,h,e=>by cases h;cases e;rfl
 | x::xs,vs,bs,h,e=>by
  cases h with
  | cons h t=>
   cases x with
   | bl b=>
    obtain ⟨bs',h1,h2⟩:=UB.mp e
    subst h2
    cases h
    rw [B8 t h1]
    rfl
   | _=>cases e
noncomputable def B9 (K:Ux)(g:List Bool->Bool):List V->Hp->VK->Prop:=fun xs H Q=>∃ p bs,xs=[.ref p]/\(SqL K H p (bs.map V.bl)\/SqT K H p (bs.map V.bl))/\Q (.bl (g bs)) H
theorem Mt {K:Ux}{g:List Bool->Bool}{f:MF}(hf:f=fun ds μ=>match ds with|[x]=>(bI μ x).bind fun xs=>(nS xs).map fun bs=>(.bl (g bs),μ)|_=>none):dC K f (B9 K g):=by
 subst hf
 intro π H μ xs d μ' vs Q R i hm k
 dsimp only at hm
 split at hm
 ·obtain ⟨ys,h1,hm⟩:=Uw.mp hm
  obtain ⟨bs,h2,hm⟩:=UB.mp hm
  cases hm
  cases i with
  | cons i t=>
   cases t
   obtain ⟨p,ws,rfl,q,hd⟩:=lX R i h1
   have:=B8 hd h2
   subst this
   exact ⟨p,bs,rfl,q,k π _ H .refl R (.bl _)⟩
 ·cases hm
theorem Ca {bs:List Bool}{n:Nat}(hn:n=bs.length):(Vv n).all (fun i=>bs.getD i false)=bs.all id:=by
 subst hn
 induction bs with
 | nil=>rfl
 | cons b bs ih=>
  rw [Vm,a1s,Vo,a1u,Vo,<- ih]
  rfl
section
variable {X:Cx}
theorem Cb {prog:Va}{w:Vu}{A:Vh}{bs:List Bool}{its:List UC}(r:Vals (bs.map V.bl) its):TruthOf prog w A (fun i v=>its.toArray[i]? = some v) (fun i=>bs.getD i false):=by
 intro i v s Q E hP hQ
 have hP':its[i]? = some v:=by simpa using hP
 have hi:i<bs.length:=by
  have:=(UA.mp hP').1
  have:=r.length
  rw [Uz] at this
  omega
 obtain ⟨u,h1,h2⟩:=r.get (i:=i) (x:=.bl bs[i]) (by rw [Vd,UW hi];rfl)
 rw [hP'] at h1
 cases h1
 cases h2
 have e:bs.getD i false=bs[i]:=by simp [VA,hi]
 dsimp only at hQ
 rw [e] at hQ
 exact Ws hQ
theorem Mu (hc:X.calm=true):CallR X (.builtin "all") (B9 X.K (·.all id)):=by
 intro a5f s σ H xs us Q I r h
 obtain ⟨p,bs,rfl,hq,q⟩:=h
 obtain ⟨u,rfl,ru⟩:=eB r
 cases ru
 have hh:X.A.in1.handled=none:=I.ok.hd hc
 rcases hq with hq|hq
 ·obtain ⟨its,rv,pl,hz⟩:=I.list hq
  refine call_all_walk (Yi pl.isList ?_)
  have hne:p≠s.heap.objs.size:=by
   obtain ⟨o,ho,_⟩:=pl.isList
   exact UY (UK ho)
  refine ⟨s.heap.objs.size,_,_,_,_,_,fun i=>bs.getD i false,rfl,a3Z hh _ p hne its.toArray,⟨⟨_,UT _ rfl,rfl,rfl⟩,pl.isList.push _⟩,Cb rv,fun h' tk kp=>?_⟩
  have hlen:its.toArray.size=bs.length:=by rw [US,<- rv.length,Uz]
  refine ⟨.bl _,H,I.kept (t':=tk) fun b o e=>kp b o ?_ (UD _ e),rfl,?_⟩
  ·intro hb
   have:b=s.heap.objs.size:=by simpa using hb
   exact UY (UK e) this
  ·rw [Ca hlen]
   exact q
 ·obtain ⟨its,rv,pl,hz⟩:=I.tuple hq
  refine call_all_walk (Y0 (show s.heap.IsTuple p its.toArray from pl) ?_)
  have hne:p≠s.heap.objs.size:=by
   obtain ⟨o,ho,_⟩:=pl
   exact UY (UK ho)
  refine ⟨s.heap.objs.size,_,_,_,_,_,fun i=>bs.getD i false,rfl,a3L hh _ p hne its.toArray,⟨⟨_,UT _ rfl,rfl,rfl⟩,Zu pl _⟩,Cb rv,fun h' tk kp=>?_⟩
  have hlen:its.toArray.size=bs.length:=by rw [US,<- rv.length,Uz]
  refine ⟨.bl _,H,I.kept (t':=tk) fun b o e=>kp b o ?_ (UD _ e),rfl,?_⟩
  ·intro hb
   have:b=s.heap.objs.size:=by simpa using hb
   exact UY (UK e) this
  ·rw [Ca hlen]
   exact q
end
end L3
namespace L3
open PySem L2
open PyProof.Rows (IntsAre)
open PySem.W (KasT kas_asc kas_desc kas_tail3 kas_descPart kas_count kas_place kas_bin kas_sort kas_rev kas_ask)
noncomputable def bA {α:Type}(ans:Nat->Nat->Bool):a4j α->α
 | .ret a=>a
 | .ask i j k=>bA ans (k (ans i j))
noncomputable def InR {α:Type}(n:Nat)(R:α->Prop):a4j α->Prop
 | .ret a=>R a
 | .ask i j k=>i<n/\j<n/\∀ b,InR n R (k b)
theorem InR.bind {α β:Type}{n:Nat}{R:α->Prop}{R':β->Prop}{f:α->a4j β}(hf:∀ a,R a->InR n R' (f a)):∀ {t:a4j α},InR n R t->InR n R' (t.bind f)
 | .ret a,q=>hf a q
 | .ask i j k,q=>⟨q.1,q.2.1,fun b=>InR.bind hf (q.2.2 b)⟩
theorem wI {α:Type}{n:Nat}{R:α->Prop}{ans:Nat->Nat->Bool}{cmp:Nat->Nat->(Bool->UE->Prop)->UE->Prop}{s:UE}(hc:∀ i j (C:Bool->UE->Prop),i<n->j<n->C (ans i j) s->cmp i j C s){Q:α->UE->Prop} :
  ∀ {t:a4j α},InR n R t->Q (bA ans t) s->t.kasWp cmp Q s
 | .ret a,_,q=>q
 | .ask i j k,h,q=>hc i j _ h.1 h.2.1 (wI hc (h.2.2 _) q)
theorem Cd {α:Type}{n:Nat}{R:α->Prop}{ans:Nat->Nat->Bool}:∀ {t:a4j α},InR n R t->R (bA ans t)
 | .ret a,q=>q
 | .ask i j k,h=>Cd (t:=k (ans i j)) (h.2.2 _)
section
variable {n:Nat}
noncomputable def IxOk (n:Nat)(p:Array Nat):Prop:=p.Perm (Vv n).toArray
theorem IxOk.lt {p:Array Nat}(h:IxOk n p)(h0:0<n)(i:Nat):p.getD i 0<n:=by
 by_cases hi:i<p.size
 ·have e:p.getD i 0=p[i]:=by simp [WY,hi]
  rw [e]
  have hm:p[i]∈p:=Array.getElem_mem hi
  have hm2:p[i]∈(Vv n).toArray:=h.mem_iff.mp hm
  simpa using hm2
 ·have e:p.getD i 0=0:=by simp [WY,hi]
  rw [e];exact h0
theorem IxOk.rev {p:Array Nat}(h:IxOk n p)(i j:Nat):IxOk n (WT p i j):=(a4x _ _ _ _).trans h
theorem IxOk.bub {p:Array Nat}(h:IxOk n p)(i j:Nat):IxOk n (a4D p i j):=(a4C _ _ _).trans h
theorem wJ {p:Array Nat}(h:IxOk n p)(h0:0<n):∀ (f m:Nat),InR n (fun _=>True) (WU p f m)
 | 0,m=>trivial
 | f+1,m=>⟨h.lt h0 _,h.lt h0 _,fun b=>by
   cases b with
   | true=>exact trivial
   | false=>exact wJ h h0 f (m+1)⟩
theorem sL (h0:0<n):∀ (f:Nat)(p:Array Nat)(m q:Nat),IxOk n p->InR n (fun r=>IxOk n r.1) (WA f p m q)
 | 0,p,m,q,h=>h
 | f+1,p,m,q,h=>⟨h.lt h0 _,h.lt h0 _,fun b=>by
   cases b with
   | true=>
    show InR n _ (if q>0 then WA f (WT p (m - (q+1)) m) (m+1) 0 else WA f p (m+1) 0)
    split
    ·exact sL h0 f _ _ _ (h.rev _ _)
    ·exact sL h0 f _ _ _ h
   | false=>
    refine ⟨h.lt h0 _,h.lt h0 _,fun d=>?_⟩
    cases d with
    | true=>exact h
    | false=>exact sL h0 f _ _ _ h⟩
theorem Ce (h0:0<n){p:Array Nat}(h:IxOk n p)(a r:Nat):InR n (fun r=>IxOk n r.2) (YV a r p):=
 by
 have h':IxOk n (WT p 0 a):=h.rev 0 a
 unfold YV
 refine InR.bind (R:=fun _=>True) (fun m _=>?_) (wJ h' h0 _ _)
 exact h'
theorem Cf (h0:0<n){p:Array Nat}(h:IxOk n p)(a r:Nat):InR n (fun r=>IxOk n r.2) (Xm a r p):=
 InR.bind (fun q hq=>by
  show InR n _ (if q.2.2>0 then YV q.2.1 r (WT q.1 (q.2.1 - (q.2.2+1)) q.2.1) else YV q.2.1 r q.1)
  split
  ·exact Ce h0 (hq.rev _ _) _ _
  ·exact Ce h0 hq _ _) (sL h0 _ _ _ _ h)
theorem Mv (h0:0<n){p:Array Nat}(h:IxOk n p)(r:Nat):InR n (fun r=>IxOk n r.2) (a2b r p):=
 InR.bind (fun m _=>by
  show InR n _ (if (m == r)=true then WW (m,p) else if m>1 then Zn (p.getD 0 0) (p.getD (m - 1) 0) (fun c=>if c=true then WW (m,p) else Xm m r (WT p 0 m)) else Xm m r p)
  split
  ·exact h
  ·split
   ·refine ⟨h.lt h0 _,h.lt h0 _,fun b=>?_⟩
    cases b with
    | true=>exact h
    | false=>exact Cf h0 (h.rev _ _) _ _
   ·exact Cf h0 h _ _) (wJ h h0 _ _)
theorem wK {p:Array Nat}(h:IxOk n p)(h0:0<n)(k:Nat):∀ (f l r:Nat),InR n (fun _=>True) (V9 p k f l r)
 | 0,l,r=>trivial
 | f+1,l,r=>by
  show InR n _ (if l >= r then WW l else Zn (p.getD k 0) (p.getD ((l+r) / 2) 0) fun c=>if c=true then V9 p k f l ((l+r) / 2) else V9 p k f ((l+r) / 2+1) r)
  split
  ·exact trivial
  ·refine ⟨h.lt h0 _,h.lt h0 _,fun b=>?_⟩
   cases b with
   | true=>exact wK h h0 k f _ _
   | false=>exact wK h h0 k f _ _
theorem Cg (h0:0<n):∀ (f:Nat)(p:Array Nat)(k:Nat),IxOk n p->InR n (IxOk n) (a0z f p k)
 | 0,p,k,h=>h
 | f+1,p,k,h=>InR.bind (fun l _=>Cg h0 f _ _ (h.bub _ _)) (wK h h0 k _ _ _)
theorem wL (h0:0<n):InR n (IxOk n) (a0y n):=
 InR.bind (fun r hr=>by
  show InR n _ (if r.1<n then a0z (n - max r.1 1) r.2 (max r.1 1) else WW r.2)
  split
  ·exact Cg h0 _ _ _ hr
  ·exact hr) (Mv h0 (Array.Perm.refl _) n)
end
noncomputable def cE (lt:Nat->Nat->Bool)(n:Nat):List Nat:=(bA lt (a0y n)).toList
theorem gD (lt:Nat->Nat->Bool){n:Nat}(h0:0<n):(cE lt n).Perm (Vv n):=by
 have h:IxOk n (bA lt (a0y n)):=Cd (wL h0)
 have:=Array.perm_iff_toList_perm.mp h
 simpa [cE] using this
section
variable {X:Cx}{a5f:List (Addr×Wf)}{σ:St}{H:Hp}{s:UE}
theorem Ci {P:Va}{w:Vu}{H:Hp}{h:VL}{a:Addr}{o:HO}(x:ObjOk P w H h a o):∃ ob,h.get? a=some ob:=by
 cases o with
 | lst xs=>obtain ⟨_,_,_,_,e⟩:=x;exact ⟨_,e⟩
 | tup xs=>obtain ⟨_,_,_,ob,e,_⟩:=x;exact ⟨_,e⟩
 | dK kvs=>obtain ⟨_,_,_,_,o,_,_,e,_⟩:=x;exact ⟨_,e⟩
 | dT kvs=>obtain ⟨_,_,_,_,o,_,_,e,_⟩:=x;exact ⟨_,e⟩
 | set S n=>obtain ⟨o,_,_,_,e,_⟩:=x;exact ⟨_,e⟩
 | ins C dx fs=>obtain ⟨_,_,_,e,_⟩:=x;exact ⟨_,e⟩
 | own y=>exact x
 | xd fs=>obtain ⟨_,⟨_,_,_,e,_⟩,_⟩:=x;exact ⟨_,e⟩
 | rng lo hi=>obtain ⟨_,_,_,e⟩:=x;exact ⟨_,e⟩
 | frz ob u=>exact ⟨_,x.1⟩
 | tbl ps=>exact ⟨_,x⟩
 | met f y=>exact ⟨_,x⟩
 | ext φ=>exact x.2.1
theorem Mw {h':VL}{D:Addr}{o:HO}{t':Nat}{m:Str->Option UC}(I:Inv X a5f σ H s)(hm:s.heap.Ns X.env.locals m)(keep:∀ b ob,b≠X.env.locals->s.heap.get? b=some ob->h'.get? b=some ob)(hL:h'.Ns X.env.locals m)
  (hD:s.heap.get? D=none)(new:ObjOk X.prog X.w (aK H D o) h' D o):Inv X a5f σ (aK H D o) { s with heap:=h',toks:=t' }:=by
 have hn:H D=none:=by
  cases q:H D with
  | none=>rfl
  | some u=>
   obtain ⟨ob,e⟩:=Ci (I.hok D u q)
   rw [hD] at e;cases e
 have neL:∀ b u,H b=some u->b≠X.env.locals:=fun b u e z=>by rw [z,I.free] at e;cases e
 refine I.step (g':=s.gens) (d':=s.drawn) (ch:=[]) (fun _ z=>nomatch z) (fun b ob hb _ _ e _=>keep b ob hb e) (fun b ob hb _ _ e _=>⟨ob.slots,keep b ob hb e⟩) (fun b ob _ e n=>?_) (fun b ob _ e=>?_)
  (fun b xs e=>by rw [bE (eH e hn)];exact e) (fun b ob u e=>by rw [bE (eH e hn)];exact e) (fun b ps e=>⟨#[],by rw [bE (eH e hn),e];simp⟩) (fun m' hm'=>?_) (fun b u e=>?_) I.bare
 ·have:b≠D:=fun z=>by rw [z,hD] at e;cases e
  rw [bE this];exact n
 ·by_cases hb:b=X.env.locals
  ·obtain ⟨ob',_,_,e',_⟩:=hL
   exact ⟨ob',by rw [hb];exact e'⟩
  ·exact ⟨ob,keep b ob hb e⟩
 ·rw [hm'.eq_nsMap,<- hm.eq_nsMap]
  exact hL
 ·by_cases hb:b=D
  ·subst hb
   rw [cV] at e
   cases e
   exact new
  ·rw [bE hb] at e
   refine (I.hok b u e).stay (fun c v hc q=>keep c v ?_ q) (fun c q=>by rw [bE (eH q hn)];exact q) fun c xs q=>by rw [bE (eH q hn)];exact q
   rcases hc with rfl|hc
   ·exact neL _ _ e
   ·exact neL _ _ hc
end
theorem wM {prog:Va}{w:Vu}{A:Vh}{s:UE}{Q:Bool->UE->Prop}:∀ {us vs:List UC}{ns ms:List Int}(i:Nat),Xe us ns->Xe vs ms->Q (HT.lexLt ns ms) s->
  PySem.W.KatLex prog w A true (decide (us.length<vs.length)) Q (us.zip vs) i s
 | _,_,_,_,i,.nil,.nil,h=>by exact h
 | _,_,_,_,i,.nil,.cons c u hv,h=>by
  show Q (decide (0<_+1)) s
  rw [decide_eq_true (a1F _)]
  exact h
 | _,_,_,_,i,.cons a t hu,.nil,h=>by
  show Q (decide (_+1<0)) s
  rw [decide_eq_false (YA _)]
  exact h
 | _,_,_,_,i,.cons (vs:=us) (ns:=ns) a t hu,.cons (vs:=vs) (ns:=ms) c u hv,h=>by
  rw [HT.lexLt_cons] at h
  refine PySem.W.kat_cons (a1d a t c u prog w _ _ ?_)
  by_cases e:a=c
  ·subst e
   rw [if_pos rfl] at h
   rw [beq_self_eq_true]
   refine PySem.W.kat_yes ?_
   have:=wM (prog:=prog) (w:=w) (A:=A) (s:=s) (Q:=Q) (i+1) hu hv h
   have e2:decide ((Vr a t::us).length<(Vr a u::vs).length)=decide (us.length<vs.length):=by simp
   rw [e2]
   exact this
  ·rw [if_neg e] at h
   have e':(a == c)=false:=by simpa using e
   rw [e']
   refine PySem.W.kat_no ?_
   cases hi:(true&&i == 0) with
   | true=>exact a4v h
   | false=>exact PySem.W.kat_one _ _ (a0D h)
noncomputable abbrev TupsV (K:Ux)(H:Hp):List V->List (List Int)->Prop:=Yo fun v t=>∃ a,v=V.ref a/\SqT K H a (t.map V.int)
theorem TupsV.get {K:Ux}{H:Hp}:∀ {vs:List V}{ts:List (List Int)}{i:Nat},TupsV K H vs ts->i<vs.length->∃ a,vs[i]? = some (V.ref a)/\SqT K H a ((ts.getD i []).map V.int)
 | _,_,_,.nil,h=>by simp at h
 | _,_,0,.cons ⟨a,e,q⟩ _,_=>⟨a,by rw [e];rfl,q⟩
 | _,_,i+1,.cons _ t,h=>by
  obtain ⟨a,e,q⟩:=TupsV.get (i:=i) t (by simpa using h)
  exact ⟨a,by simpa using e,q⟩
section
open PyProof.Rows
variable {prog:Va}{w:Vu}{A:Vh}{E:UC->UE->Prop}{s:UE}
theorem Cj {c:Addr}{u:UC}{z:Nat}{R:Fin->UE->Prop}(g:s.heap.get? c=some (V5 "list" [u].toArray z)) (q:R (.done (.ret .none)) { s with heap:=a1y s.heap c [u] [u].toArray }) :
  U3 (U8 prog w) A (Builtin.«list.sort» ⟨[.ref c],[]⟩) R E s:=by
 rw [a4o]
 have lt:c<s.heap.objs.size:=UK g
 refine Uy (listItems_at g rfl (Uy (a0d g rfl ?_)))
 obtain ⟨y,g1⟩:∃ y,(s.heap.update c (VW fun _=>#[])).get? c=some (V5 "list" #[] y):=⟨_,a4p g _⟩
 refine Uy (a1b g1 rfl (Uy (a1x (Uy (Y9 (Vy ?_))))))
 have g6:(((s.heap.update c (VW fun _=>#[])).push (V5 "tuple" [u].toArray 0)).push (V5 "list" #[] 0)).get? c=some (V5 "list" #[] y):=
  UD _ (UD _ g1)
 show U3 (U8 prog w) A _ R E ⟨((s.heap.update c (VW fun _=>#[])).push (V5 "tuple" [u].toArray 0)).push (V5 "list" #[] 0),s.gens,s.drawn,s.toks,s.os⟩
 dsimp only
 have few:[u].toArray.size<2:=by simp
 rw [if_pos few,if_pos few]
 refine Uy (UG ?_)
 rw [StateT.run_pure]
 refine Uy (UG ?_)
 dsimp only
 have ez:a4Q (fun x=>x.2) (arrOf (SortSt.mk' general' (#[u].zip #[u]) #[] 7 none)) = #[u]:=by
  show a4Q (fun x=>x.2) (#[u].zip #[u]) = #[u]
  exact Array.ext (by simp) (fun i h1 h2=>by simp)
 refine Uy (a1b g6 rfl (Uy (a0d g6 rfl ?_ (hsz2:=by rw [ez,U4];show 1<=_;decide))))
 rw [ez]
 simp only [bne_self_eq_false,UN,if_false]
 exact UG q
theorem Mx {l:Addr}{u:UC}{Q:UC->UE->Prop}(hl:s.heap.IsList l [u].toArray)(q:Q (.ref (s.heap.objs.size+1)) { s with heap:=sortedAll s.heap [u] [u].toArray }):U3 (U8 prog w) A (call (.builtin "sorted") [.ref l]) Q E s:=by
 refine YI a2W a2m a2o (a2p _) ?_
 unfold ZI
 refine Uy (m:=a3w "sorted" 1 1 _) (UG (Uy (collect_list hl (Uy (Y9 ?_)))))
 have z:((s.heap.push (V5 "list" #[] 0)).update s.heap.objs.size (VW (·++[u].toArray))).objs.size=s.heap.objs.size+1:=by rw [Heap.size_update,size_push']
 have g:(((s.heap.push (V5 "list" #[] 0)).update s.heap.objs.size (VW (·++[u].toArray))).push (V5 "list" [u].toArray 0)).get? (s.heap.objs.size+1)=some (V5 "list" [u].toArray 0):=z ▸ UT _ rfl
 show U3 _ _ _ _ _ ⟨((s.heap.push (V5 "list" #[] 0)).update s.heap.objs.size (VW (·++[u].toArray))).push (V5 "list" [u].toArray 0),s.gens,s.drawn,s.toks,s.os⟩
 rw [z]
 refine Uy (Vy (Wn ZN ⟨_,g,rfl⟩ ZA (Cj g ⟨_,rfl,?_⟩) (ZR _)))
 exact UG ⟨_,rfl,q⟩
end
theorem Ck (lt:Nat->Nat->Bool):cE lt 1=[0]:=rfl
section
variable {X:Cx}
theorem My {a5f:List (Addr×Wf)}{s:UE}{σ:St}{H:Hp}{q:Addr}{v:V}{Q:VK}(I:Inv X a5f σ H s)(hq:SqL X.K H q [v])(k:∀ l,H l=none->Q (.ref l) (aK H l (.lst [v]))) :
  U3 (U8 X.prog X.w) X.A (call (.builtin "sorted") [.ref q]) (EP X a5f σ Q) X.xe s:=by
 obtain ⟨its,rv,pl,hz⟩:=I.list hq
 cases rv with
 | cons ru rt=>
  cases rt
  rename_i u
  refine Mx (u:=u) pl.isList ?_
  obtain ⟨e,he⟩:=ZS s.heap [u] [u].toArray
  refine ⟨.ref (s.heap.objs.size+1),_,I.laid (t':=s.toks) (a:=s.heap.objs.size+1) (o:=.lst [v]) (fun b ob z=>ZL z) (Yr _) ?_,rfl,k _ (I.hok.fresh (Yr _))⟩
  exact ⟨by rw [U4];show 1<=_;decide,[u],e,.cons ru .nil,he⟩
end
noncomputable def wN (K:Ux):List V->Hp->VK->Prop:=fun xs H Q=>∃ q ws ts,xs=[.ref q]/\SqL K H q ws/\TupsV K H ws ts/\1<=ws.length/\ws.length<64/\(∀ t∈ts,t≠[]) /\
 ∀ l,H l=none->Q (.ref l) (aK H l (.lst ((cE (fun i j=>HT.lexLt (ts.getD i []) (ts.getD j [])) ws.length).map fun i=>ws.getD i .non)))
theorem Cm {ns:List Int}{us:List UC}(h:Vals (ns.map V.int) us):Xe us ns:=u5 h
section
variable {X:Cx}
theorem Mz:CallR X (.builtin "sorted") (wN X.K):=by
 intro a5f s σ H xs us Q I r h
 obtain ⟨q,ws,ts,rfl,hq,ht,h1,h64,hne,k⟩:=h
 obtain ⟨u,rfl,ru⟩:=eB r
 cases ru
 by_cases h2:ws.length<2
 ·obtain ⟨v,rfl⟩:=List.length_eq_one_iff.mp (by omega:ws.length=1)
  refine My I hq fun l hl=>?_
  have z:=k l hl
  rw [Zf,Ck] at z
  exact z
 replace h2:2<=ws.length:=a3a h2
 obtain ⟨its,rv,pl,hz⟩:=I.list hq
 obtain ⟨m,F⟩:=I.fr
 have hlen:=rv.length
 refine PySem.W.kat_sorted F (GC (g:=X.base) (h:=s.heap) (L:=X.env.locals)) pl.isList (by omega) (by omega) fun D e1 h' F' N' hD=>?_
 have keep:∀ b ob,b≠X.env.locals->s.heap.get? b=some ob->h'.get? b=some ob:=fun b ob hb e=>by
  cases z:X.base.get? b with
  | some ob'=>
   have:=I.bk b ob' z
   rw [e] at this;cases this
   exact F'.keep b _ z
  | none=>exact (N' (b,ob) (UX _ (uO hb z e))).1
 have hDn:=N' (D,_) (U2 ..)
 have hDs:s.heap.get? D=none:=by
  cases z:s.heap.get? D with
  | none=>rfl
  | some ob=>exact absurd (hD (D,ob) (uO hDn.2.1 hDn.2.2 z)) (WJ _)
 have neL:∀ {a:Addr}{vs:List V},SqT X.K H a vs->a≠X.env.locals:=fun {a vs} hs z=>by
  subst z
  rcases hs with (hs|⟨ob,hs⟩)|⟨ob,_,_,hk,_⟩
  ·rw [I.free] at hs;cases hs
  ·rw [I.free] at hs;cases hs
  ·have h1:X.env.locals<X.base.objs.size:=UK (I.mod.kin _ _ hk)
   exact WJ _ (Vg h1 F.above)
  -- the tuples stand there still
 have tupAt:∀ {a:Addr}{t:List Int},SqT X.K H a (t.map V.int)->∃ (ob:Wf)(xs:List UC)(n:Nat),h'.get? a=some ob/\ob.cls=.type "tuple"/\ob.data=.seq xs.toArray n/\Xe xs t:=fun {a t} hs=>by
  obtain ⟨xs,rx,⟨ob,e,c,n,d⟩,_⟩:=I.tuple hs
  exact ⟨ob,xs,n,keep a ob (neL hs) e,c,d,Cm rx⟩
 have tups:∀ {ws:List V}{its:List UC}{ts:List (List Int)},Vals ws its->TupsV X.K H ws ts->(∀ t∈ts,t≠[])->∃ fs:List UC,fs.length=its.length/\PySem.W.KatTups h' its fs/\∀ v∈fs,∃ i t,v=Vr i t:=by
  intro ws its ts rv ht
  induction ht generalizing its with
  | nil=>intro _;cases rv;exact ⟨[],rfl,.nil,fun v hv=>nomatch hv⟩
  | @cons v t ws ts hv _ ih=>
   intro hne
   cases rv with
   | cons r1 r2=>
    obtain ⟨a,rfl,hs⟩:=hv
    cases r1
    obtain ⟨fs,h1,h3,h4⟩:=ih r2 fun t ht=>hne t (UX _ ht)
    obtain ⟨ob,xs,n,e,c,d,hi⟩:=tupAt hs
    cases hi with
    | nil=>exact absurd rfl (hne [] (U2 ..))
    | @cons i tk xs' ns' hi'=>
     refine ⟨Vr i tk::fs,by simp [h1],.cons e c d (by simp) h3,fun v hv=>?_⟩
     rcases U6.mp hv with rfl|hv
     ·exact ⟨i,tk,rfl⟩
     ·exact h4 v hv
 obtain ⟨fs,hf1,hf2,hf3⟩:=tups rv ht hne
 refine PySem.W.kat_kind (T:=.type "int") hf2 (by omega) (fun v hv=>?_) rfl ?_
 ·obtain ⟨i,t,rfl⟩:=hf3 v hv
  exact .now
 have htl:ts.length=ws.length:=ht.length.symm
 refine wI (n:=its.length) (ans:=fun i j=>HT.lexLt (ts.getD i []) (ts.getD j [])) (fun i j C hi hj hC=>?_) (wL (by omega)) ?_
 ·obtain ⟨a,ea,sa⟩:=ht.get (i:=i) (by omega)
  obtain ⟨b,eb,sb⟩:=ht.get (i:=j) (by omega)
  obtain ⟨ua,ha1,ha2⟩:=rv.get ea
  obtain ⟨ub,hb1,hb2⟩:=rv.get eb
  cases ha2
  cases hb2
  have ga:its.getD i VJ=.ref a:=by simp [VA,ha1]
  have gb:its.getD j VJ=.ref b:=by simp [VA,hb1]
  unfold kas_ask
  rw [ga,gb]
  obtain ⟨oa,xa,na,e1,_,d1,i1⟩:=tupAt sa
  obtain ⟨ob,xb,nb,e2,_,d2,i2⟩:=tupAt sb
  refine PySem.W.kat_lt e1 d1 e2 d2 ?_
  have:=wM (prog:=X.prog) (w:=X.w) (A:=X.A.in1.in1) (s:={ s with heap:=h' }) (Q:=C) 0 i1 i2 hC
  exact this
 ·refine a3O F' N' (.head fun p hp=>UY (hD p hp)) fun h'' c F'' N''=>?_
  have keep2:∀ b ob,b≠X.env.locals->s.heap.get? b=some ob->h''.get? b=some ob:=fun b ob hb e=>by
   cases z:X.base.get? b with
   | some ob'=>
    have:=I.bk b ob' z
    rw [e] at this;cases this
    exact F''.keep b _ z
   | none=>exact (N'' (b,ob) (UX _ (uO hb z e))).1
  have hnew:=(N'' (D,_) (U2 ..)).1
  rw [<- hlen] at hnew
  have hperm:=gD (fun i j=>HT.lexLt (ts.getD i []) (ts.getD j [])) (n:=ws.length) (by omega)
  have hvals:Vals ((cE (fun i j=>HT.lexLt (ts.getD i []) (ts.getD j [])) ws.length).map fun i=>ws.getD i .non) ((cE (fun i j=>HT.lexLt (ts.getD i []) (ts.getD j [])) ws.length).map fun i=>its.getD i VJ):=by
   have each:∀ l:List Nat,(∀ i∈l,i<ws.length)->Vals (l.map fun i=>ws.getD i .non) (l.map fun i=>its.getD i VJ):=fun l=>by
    induction l with
    | nil=>intro _;exact .nil
    | cons i l ih=>
     intro hl
     refine .cons ?_ (ih fun j hj=>hl j (UX _ hj))
     have hi:=hl i (U2 ..)
     obtain ⟨u,g1,g2⟩:=rv.get (UW hi)
     have e1:ws.getD i .non=ws[i]:=by simp [VA,hi]
     have e2:its.getD i VJ=u:=by simp [VA,g1]
     show RelV (ws.getD i .non) (its.getD i VJ)
     rw [e1,e2]
     exact g2
   exact each _ fun i hi=>by simpa using hperm.mem_iff.mp hi
  refine ⟨.ref D,_,Mw (s:=s) (o:=.lst _) (t':=s.toks) I F.ns keep2 F''.ns hDs ⟨?_,_,_,hvals,hnew⟩,rfl,k D ?_⟩
  ·rw [Uz,hperm.length_eq,ZX]
   exact hz
  ·cases z:H D with
   | none=>rfl
   | some u=>
    obtain ⟨ob,e⟩:=Ci (I.hok D u z)
    rw [hDs] at e;cases e
end
end L3
namespace L3
open PySem PySem.Spec
namespace Tb
section
variable {prog:Va}{w:Vu}{A:Vh}{E:UC->UE->Prop}{s:UE}
noncomputable abbrev IsT (prog:Va)(w:Vu)(h:VL)(k:List Int)(b:Addr):Prop:=IsTupleKey (WL prog w) h k b
end
section
variable {prog:Va}{w:Vu}{A:Vh}{R:a0l->UE->Prop}{I:Addr}{fp wr:List Addr}{G:Array a3f->Array a3f->Prop}{n:Nat}{P:Nat->UC->Prop}{St:Nat->UE->Prop}
end
section
variable {prog:Va}{w:Vu}{A:Vh}{E:UC->UE->Prop}{s:UE}
noncomputable abbrev fM (led:Bool):Wf:={ cls:=.type "set",dict:=none,data:=.set #[] 0 (.fresh 0 0 led) }
end
end Tb
end L3
namespace L3
open PySem L2
open PyProof.Rows (IntsAre)
noncomputable def pR:List D->Option (List (List Int))
 | []=>some []
 | x::r=>(cS x).bind fun k=>(pR r).map (k::·)
theorem sM:∀ {ds:List D}{k:List Int},kR ds=some k->ds=k.map D.int
 | [],k,h=>by cases h;rfl
 | d::ds,k,h=>by
  cases d with
  | int i=>
   obtain ⟨k',h1,h2⟩:=UB.mp h
   subst h2
   rw [sM h1];rfl
  | _=>cases h
theorem Cn {x:D}{k:List Int}(h:cS x=some k):x=.tup (k.map D.int):=by
 cases x with
 | tup ds=>rw [sM h]
 | _=>cases h
theorem Co:∀ {xs:List D}{ks:List (List Int)},pR xs=some ks->xs=ks.map fun k=>D.tup (k.map D.int)
 | [],ks,h=>by cases h;rfl
 | x::xs,ks,h=>by
  obtain ⟨k,h1,h⟩:=Uw.mp h
  obtain ⟨ks',h2,h3⟩:=UB.mp h
  subst h3
  rw [Cn h1,Co h2];rfl
noncomputable def dW (μ:Hm):D->Option (List D)
 | .rol xs=>some xs
 | .loc a=>match μ[a]? with
  | some (.lst xs)=>some xs
  | _=>none
 | _=>none
section
variable {K:Ux}{π:Nat->Addr}{n:Nat}{H:Hp}{μ:Hm}
theorem mF {v:V}{x:D}{xs:List D}(R:Rp K π H μ)(h:IsD K π μ.length H v x)(e:dW μ x=some xs):∃ p vs,v=.ref p/\SqL K H p vs/\IsDs K π μ.length H vs xs:=by
 cases h with
 | rol q t=>cases e;exact ⟨_,_,rfl,q.sq,t⟩
 | @loc a ha=>
  simp only [dW] at e
  split at e
  ·rename_i ys hy
   cases e
   obtain ⟨vs,h3,h4⟩:=R.lst a xs hy
   exact ⟨_,vs,rfl,.of h3,h4⟩
  ·cases e
 | _=>cases e
theorem ints_of':∀ {vs:List V}{k:List Int},IsDs K π n H vs (k.map D.int)->vs=k.map V.int
 | _,[],h=>by cases h;rfl
 | _,i::k,h=>by
  cases h with
  | cons h t=>cases h;rw [ints_of' t];rfl
theorem wO:∀ (k:List Int),IsDs K π n H (k.map V.int) (k.map D.int)
 | []=>.nil
 | i::k=>.cons (.int i) (wO k)
end
theorem Cp {X:Cx}:∀ {k:List Int}{xs:List UC},Vals (k.map V.int) xs->ItemsAre (WL X.prog X.w) k xs
 | [],_,h=>by cases h;exact .nil
 | i::k,_,h=>by
  cases h with
  | cons h t=>
   obtain ⟨tk,rfl⟩:=h
   exact .cons (intKind_is _ _ _ _) (Cp t)
section
variable {X:Cx}{a5f:List (Addr×Wf)}{σ:St}{H:Hp}{s:UE}
theorem j8 (I:Inv X a5f σ H s){b:Addr}{k:List Int}(h:SqT X.K H b (k.map V.int)):Tb.IsT X.prog X.w s.heap k b:=by
 obtain ⟨xs,rx,⟨ob,e,c,n,d⟩,_⟩:=I.tuple h
 exact ⟨ob,xs.toArray,n,e,c,d,by simpa using Cp rx⟩
theorem call_lenT:CallR X (.builtin "len") (fun xs H Q=>∃ a L,xs=[V.ref a]/\H a=some (rP a L)/\Q (.int L.length) H):=by
 intro a5f s σ H xs us Q I r h
 obtain ⟨a,L,rfl,ha,q⟩:=h
 obtain ⟨u,rfl,ru⟩:=eB r
 cases ru
 obtain ⟨⟨o,ho,led,es,ep,t,R,hex,hd,he,ok,hp,hnd,hm,hf5,hpl,hle⟩,_,_⟩:=I.hok a _ ha
 have hsz:es.size=L.length:=by
  have:=hp.length_eq
  simpa using this
 have hm5:t.mask<=511:=by rcases hm with h|h|h|h<;>omega
 refine call_len_set ho hex hd (Tb.fits_of ok he) (by rw [hsz];omega) ?_
 rw [hsz]
 exact ⟨.int L.length,H,I.tok _,⟨_,rfl⟩,q⟩
end
end L3
namespace L3
open PySem L2
noncomputable def nT (ks:List (List Int)):Nat->Nat->Bool:=fun i j=>HT.lexLt (ks.getD i []) (ks.getD j [])
noncomputable def pS:MF:=fun ds μ=>match ds with
 | [x]=>(dW μ x).bind fun xs=>(pR xs).bind fun ks=>if 1<=ks.length/\ks.length<64/\∀ t∈ks,t≠[] then some (.loc μ.length,μ++[.lst ((cE (nT ks) ks.length).map fun i=>xs.getD i .non)]) else none
 | _=>none
theorem Cq {K:Ux}{π:Nat->Addr}{n:Nat}{H:Hp}:∀ {vs:List V}{ks:List (List Int)},IsDs K π n H vs (ks.map fun k=>D.tup (k.map D.int))->TupsV K H vs ks
 | _,[],h=>by cases h;exact .nil
 | _,k::ks,h=>by
  cases h with
  | cons h t=>
   cases h with
   | @tup p vs ds hq hd=>
    have:=ints_of' hd
    subst this
    exact .cons ⟨p,rfl,hq⟩ (Cq t)
theorem Cr {K:Ux}{π:Nat->Addr}{n:Nat}{H:Hp}:∀ {vs:List V}{xs:List D}(i:Nat),IsDs K π n H vs xs->IsD K π n H (vs.getD i .non) (xs.getD i .non)
 | _,_,i,.nil=>by simp;exact .non
 | _,_,0,.cons h _=>h
 | _,_,i+1,.cons _ t=>by simpa using Cr i t
theorem Ct {K:Ux}{π:Nat->Addr}{n:Nat}{H:Hp}{vs:List V}{xs:List D}(h:IsDs K π n H vs xs):∀ (l:List Nat),IsDs K π n H (l.map fun i=>vs.getD i .non) (l.map fun i=>xs.getD i .non)
 | []=>.nil
 | i::l=>.cons (Cr i h) (Ct h l)
theorem MB {K:Ux}:dC K pS (wN K):=by
 intro π H μ xs d μ' vs Q R i hm k
 unfold pS at hm
 split at hm
 ·obtain ⟨ys,h1,hm⟩:=Uw.mp hm
  obtain ⟨ks,h2,hm⟩:=Uw.mp hm
  split at hm
  ·rename_i hb
   cases hm
   cases i with
   | cons i t=>
    cases t
    obtain ⟨p,ws,rfl,q,hd⟩:=mF R i h1
    have hd':=hd
    rw [Co h2] at hd'
    have hl:ws.length=ks.length:=by
     have:=hd'.length
     rw [Uz] at this
     exact this
    refine ⟨p,ws,ks,rfl,q,Cq hd',by omega,by omega,hb.2.2,fun l hl'=>?_⟩
    obtain ⟨e2,R2,_⟩:=R.alloc (c:=.lst ((cE (nT ks) ks.length).map fun i=>ys.getD i .non)) (o:=.lst ((cE (fun i j=>HT.lexLt (ks.getD i []) (ks.getD j [])) ws.length).map fun i=>ws.getD i .non)) hl' (by
     show IsDs _ _ _ _ _ _
     rw [hl]
     exact Ct hd _)
    exact k _ _ _ e2 R2 eM
  ·cases hm
 ·cases hm
end L3
namespace L3
open PySem L2
open PyProof.Rows (IntsAre Fr News seqObj)
section
variable {prog:Va}{w:Vu}{A:Vh}{E:UC->UE->Prop}{s:UE}{h₀:VL}{L:Addr}{m:Str->Option UC}{news:List (Addr×Wf)}
end
theorem sN:∀ a:List Int,HT.lexLt a a=false
 | []=>rfl
 | x::a=>by rw [HT.lexLt_cons,if_pos rfl];exact sN a
theorem sO:∀ {a b c:List Int},HT.lexLt a b=true->HT.lexLt b c=true->HT.lexLt a c=true
 | _,[],[],_,h=>absurd h (by intro z;cases z)
 | _,_::_,[],_,h=>absurd h (by intro z;cases z)
 | [],_,_::_,_,_=>rfl
 | _::_,[],_::_,h,_=>absurd h (by intro z;cases z)
 | x::a,y::b,z::c,h1,h2=>by
  rw [HT.lexLt_cons] at h1 h2 ⊢
  by_cases e1:x=y
  ·subst e1
   rw [if_pos rfl] at h1
   by_cases e2:x=z
   ·subst e2
    rw [if_pos rfl] at h2 ⊢
    exact sO h1 h2
   ·rw [if_neg e2] at h2 ⊢
    exact h2
  ·rw [if_neg e1] at h1
   by_cases e2:y=z
   ·subst e2
    rw [if_neg e1];exact h1
   ·rw [if_neg e2] at h2
    rw [decide_eq_true_eq] at h1 h2
    rw [if_neg (by omega),decide_eq_true_eq];omega
section
variable {X:Cx}{a5f:List (Addr×Wf)}{σ:St}{H:Hp}{s:UE}
end
end L3
namespace L3
open PySem
open PySem.W (KasT kas_asc kas_desc kas_tail3 kas_descPart kas_count kas_place kas_bin kas_sort kas_rev)
open PyProof.Rows (mirror bubble getElem?_bubble getElem?_mirror_all mirror_size bubble_size)
theorem nU {α β:Type}{ans:Nat->Nat->Bool}{f:α->a4j β}:∀ t:a4j α,bA ans (t.bind f)=bA ans (f (bA ans t))
 | .ret a=>rfl
 | .ask i j k=>by
  show bA ans ((k (ans i j)).bind f)=_
  rw [nU]
  rfl
section
variable {ans:Nat->Nat->Bool}{κ:Nat->Nat}(hk:∀ i j,ans i j=decide (κ i<κ j))
noncomputable def gK (κ:Nat->Nat)(p:Array Nat)(k:Nat):Nat:=κ (p.getD k 0)
theorem pT {p q:Array Nat}{k m:Nat}(h:p[k]? = q[m]?):p.getD k 0=q.getD m 0:=by
 have e:∀ (a:Array Nat)(i:Nat),a.getD i 0=(a[i]?).getD 0:=fun a i=>by
  by_cases hi:i<a.size
  ·simp [WY,hi]
  ·simp [WY,hi]
 rw [e,e,h]
theorem mG {p:Array Nat}{i j:Nat}(hj:j<=p.size)(k:Nat):gK κ (WT p i j) k=if i<=k/\k<j then gK κ p (i+j - 1 - k) else gK κ p k:=by
 have h:=getElem?_mirror_all (i:=i) hj k
 by_cases c:i<=k/\k<j
 ·rw [if_pos c] at h ⊢
  exact congrArg κ (pT h)
 ·rw [if_neg c] at h ⊢
  exact congrArg κ (pT h)
theorem Cu {p:Array Nat}{s d:Nat}(hs:s<p.size)(hd:d<=s)(k:Nat):gK κ (bubble p s d) k=if k=s - d then gK κ p s else if s - d<k/\k<=s then gK κ p (k - 1) else gK κ p k:=by
 have h:=getElem?_bubble hs d hd k
 by_cases c:k=s - d
 ·rw [if_pos c] at h ⊢
  exact congrArg κ (pT h)
 ·rw [if_neg c] at h ⊢
  by_cases c2:s - d<k/\k<=s
  ·rw [if_pos c2] at h ⊢
   exact congrArg κ (pT h)
  ·rw [if_neg c2] at h ⊢
   exact congrArg κ (pT h)
theorem pU (p:Array Nat)(i j:Nat):(WT p i j).size=p.size:=mirror_size _ _ _ _
noncomputable def jF (κ:Nat->Nat)(p:Array Nat)(m:Nat):Prop:=∀ i j,i<=j->j<m->gK κ p i<=gK κ p j
include hk in
theorem wQ (p:Array Nat):∀ (f m:Nat),m<=bA ans (WU p f m)/\bA ans (WU p f m)<=m+f/\(∀ j,m<=j->j<bA ans (WU p f m)->gK κ p (j - 1)<=gK κ p j) /\
  (bA ans (WU p f m)<m+f->gK κ p (bA ans (WU p f m))<gK κ p (bA ans (WU p f m) - 1))
 | 0,m=>⟨UJ _,UJ _,fun j h1 h2=>absurd (show j<m from h2) (by omega),fun h=>absurd (show m<m+0 from h) (by omega)⟩
 | f+1,m=>by
  have e:bA ans (WU p (f+1) m)=if ans (p.getD m 0) (p.getD (m - 1) 0)=true then m else bA ans (WU p f (m+1)):=by
   show bA ans (if ans (p.getD m 0) (p.getD (m - 1) 0)=true then WW m else WU p f (m+1))=_
   split<;>rfl
  rw [e,hk]
  by_cases h:κ (p.getD m 0)<κ (p.getD (m - 1) 0)
  ·rw [if_pos (by simpa using h)]
   exact ⟨UJ _,by omega,fun j h1 h2=>absurd h2 (by omega),fun _=>h⟩
  ·rw [if_neg (by simpa using h)]
   obtain ⟨i1,i2,i3,i4⟩:=wQ p f (m+1)
   refine ⟨by omega,by omega,fun j h1 h2=>?_,fun h2=>i4 (by omega)⟩
   by_cases hj:j=m
   ·subst hj;exact XC.mp h
   ·exact i3 j (by omega) h2
theorem Cv {p:Array Nat}{m:Nat}(h:∀ j,1<=j->j<m->gK κ p (j - 1)<=gK κ p j):jF κ p m:=by
 intro i j hij hj
 induction j with
 | zero=>
  have:i=0:=by omega
  subst this;exact UJ _
 | succ j ih=>
  by_cases e:i=j+1
  ·subst e;exact UJ _
  ·exact VG (ih (by omega) (by omega)) (h (j+1) (by omega) hj)
structure Falls (κ:Nat->Nat)(p:Array Nat)(n q:Nat):Prop where
 fall:∀ i j,i<=j->j<n->gK κ p j<=gK κ p i
 alike:∀ k,n - 1 - q<=k->k<n->gK κ p k=gK κ p (n - 1)
 qn:q<n
theorem Falls.rev {p:Array Nat}{n q:Nat}(F:Falls κ p n q)(hn:n<=p.size):∀ k,gK κ (WT p (n - (q+1)) n) k=gK κ p k:=fun k=>by
 rw [mG hn]
 split
 ·rename_i c
  have:=F.qn
  rw [F.alike (n - (q+1)+n - 1 - k) (by omega) (by omega),F.alike k (by omega) c.2]
 ·rfl
theorem Falls.same {p p':Array Nat}{n q:Nat}(F:Falls κ p n q)(h:∀ k,gK κ p' k=gK κ p k):Falls κ p' n q:=
 ⟨fun i j h1 h2=>by rw [h,h];exact F.fall i j h1 h2,fun k h1 h2=>by rw [h,h];exact F.alike k h1 h2,F.qn⟩
include hk in
theorem sP:∀ (f:Nat)(p:Array Nat)(n q:Nat),1<=n->n+f<=p.size->Falls κ p n q->
  ∃ p' n' q',bA ans (WA f p n q)=(p',n',q')/\p'.size=p.size/\n<=n'/\n'<=n+f/\Falls κ p' n' q'
 | 0,p,n,q,_,_,F=>⟨p,n,q,rfl,rfl,UJ _,UJ _,F⟩
 | f+1,p,n,q,h1,hs,F=>by
  have hqn:=F.qn
  by_cases h:κ (p.getD n 0)<κ (p.getD (n - 1) 0)
  ·have h':gK κ p n<gK κ p (n - 1):=h
   have grow:∀ p':Array Nat,(∀ k,gK κ p' k=gK κ p k)->Falls κ p' (n+1) 0:=fun p' hp=>⟨fun i j hi hj=>by
     rw [hp,hp]
     by_cases e:j=n
     ·subst j
      by_cases e2:i=n
      ·subst i;exact UJ _
      ·have:=F.fall i (n - 1) (by omega) (by omega)
       omega
     ·exact F.fall i j hi (by omega),fun k hk1 hk2=>by
     have:k=n:=by omega
     subst this
     simp,by omega⟩
   by_cases hq:q>0
   ·have e:bA ans (WA (f+1) p n q)=bA ans (WA f (WT p (n - (q+1)) n) (n+1) 0):=by
     show bA ans (if ans (p.getD n 0) (p.getD (n - 1) 0)=true then (if q>0 then WA f (WT p (n - (q+1)) n) (n+1) 0 else WA f p (n+1) 0) else _)=_
     rw [hk,if_pos (by simpa using h),if_pos hq]
    obtain ⟨p',n',q',r1,r2,r3,r4,r5⟩:=sP f (WT p (n - (q+1)) n) (n+1) 0 (by omega) (by rw [pU];omega) (grow _ (F.rev (by omega)))
    exact ⟨p',n',q',e.trans r1,r2.trans (pU _ _ _),by omega,by omega,r5⟩
   ·have e:bA ans (WA (f+1) p n q)=bA ans (WA f p (n+1) 0):=by
     show bA ans (if ans (p.getD n 0) (p.getD (n - 1) 0)=true then (if q>0 then WA f (WT p (n - (q+1)) n) (n+1) 0 else WA f p (n+1) 0) else _)=_
     rw [hk,if_pos (by simpa using h),if_neg hq]
    obtain ⟨p',n',q',r1,r2,r3,r4,r5⟩:=sP f p (n+1) 0 (by omega) (by omega) (grow p fun _=>rfl)
    exact ⟨p',n',q',e.trans r1,r2,by omega,by omega,r5⟩
  ·by_cases h2:κ (p.getD (n - 1) 0)<κ (p.getD n 0)
   ·have e:bA ans (WA (f+1) p n q)=(p,n,q):=by
     show bA ans (if ans (p.getD n 0) (p.getD (n - 1) 0)=true then _ else Zn (p.getD (n - 1) 0) (p.getD n 0) fun d=>if d=true then WW (p,n,q) else WA f p (n+1) (q+1))=_
     rw [hk,if_neg (by simpa using h)]
     show bA ans (if ans (p.getD (n - 1) 0) (p.getD n 0)=true then WW (p,n,q) else WA f p (n+1) (q+1))=_
     rw [hk,if_pos (by simpa using h2)]
     rfl
    exact ⟨p,n,q,e,rfl,UJ _,by omega,F⟩
   ·have e:bA ans (WA (f+1) p n q)=bA ans (WA f p (n+1) (q+1)):=by
     show bA ans (if ans (p.getD n 0) (p.getD (n - 1) 0)=true then _ else Zn (p.getD (n - 1) 0) (p.getD n 0) fun d=>if d=true then WW (p,n,q) else WA f p (n+1) (q+1))=_
     rw [hk,if_neg (by simpa using h)]
     show bA ans (if ans (p.getD (n - 1) 0) (p.getD n 0)=true then WW (p,n,q) else WA f p (n+1) (q+1))=_
     rw [hk,if_neg (by simpa using h2)]
    have heq:gK κ p n=gK κ p (n - 1):=by
     have a1:¬ gK κ p n<gK κ p (n - 1):=h
     have a2:¬ gK κ p (n - 1)<gK κ p n:=h2
     omega
    have G:Falls κ p (n+1) (q+1):=⟨fun i j hi hj=>by
      by_cases e:j=n
      ·subst j
       by_cases e2:i=n
       ·subst i;exact UJ _
       ·rw [heq];exact F.fall i (n - 1) (by omega) (by omega)
      ·exact F.fall i j hi (by omega),fun k hk1 hk2=>by
      have e3:n+1 - 1=n:=by omega
      rw [e3]
      by_cases e:k=n
      ·rw [e]
      ·rw [heq];exact F.alike k (by omega) (by omega),by omega⟩
    obtain ⟨p',n',q',r1,r2,r3,r4,r5⟩:=sP f p (n+1) (q+1) (by omega) (by omega) G
    exact ⟨p',n',q',e.trans r1,r2,by omega,by omega,r5⟩
include hk in
theorem Cw {p:Array Nat}{n N q:Nat}(h1:1<=n)(hn:n<=N)(hs:p.size=N)(F:Falls κ p n q) :
  ∃ m p',bA ans (YV n N p)=(m,p')/\p'.size=N/\1<=m/\m<=N/\jF κ p' m:=by
 have up:∀ j,1<=j->j<n->gK κ (WT p 0 n) (j - 1)<=gK κ (WT p 0 n) j:=fun j a b=>by
  rw [mG (by omega),mG (by omega),if_pos ⟨by omega,by omega⟩,if_pos ⟨by omega,by omega⟩]
  exact F.fall _ _ (by omega) (by omega)
 obtain ⟨a1,a2,a3,_⟩:=wQ hk (WT p 0 n) (N - n) n
 refine ⟨bA ans (WU (WT p 0 n) (N - n) n),WT p 0 n,?_,by rw [pU,hs],?_,?_,Cv fun j h1 h2=>?_⟩
 ·unfold YV
  rw [nU]
  rfl
 ·omega
 ·omega
 ·by_cases h:j<n
  ·exact up j h1 h
  ·exact a3 j (by omega) h2
include hk in
theorem Cy {p:Array Nat}{n N:Nat}(h1:1<=n)(hn:n<N)(hs:p.size=N)(hall:∀ i j,i<=j->j<n->gK κ p j<=gK κ p i)(hlt:gK κ p n<gK κ p (n - 1)) :
  ∃ m p',bA ans (Xm n N p)=(m,p')/\p'.size=N/\1<=m/\m<=N/\jF κ p' m:=by
 have F:Falls κ p (n+1) 0:=⟨fun i j hi hj=>by
   by_cases e:j=n
   ·subst j
    by_cases e2:i=n
    ·subst i;exact UJ _
    ·have:=hall i (n - 1) (by omega) (by omega)
     omega
   ·exact hall i j hi (by omega),fun k a b=>by
   have:k=n:=by omega
   subst this
   simp,by omega⟩
 obtain ⟨p',n',q',r1,r2,r3,r4,r5⟩:=sP hk (N - (n+1)) p (n+1) 0 (by omega) (by omega) F
 have e:bA ans (Xm n N p)=bA ans (if q'>0 then YV n' N (WT p' (n' - (q'+1)) n') else YV n' N p'):=by
  unfold Xm
  rw [nU,r1]
 rw [e]
 split
 ·exact Cw hk (by omega) (by omega) (by rw [pU,r2,hs]) (r5.same (r5.rev (by omega)))
 ·exact Cw hk (by omega) (by omega) (r2.trans hs) r5
include hk in
theorem MC {p:Array Nat}{N:Nat}(h1:1<=N)(hs:p.size=N):∃ m p',bA ans (a2b N p)=(m,p')/\p'.size=N/\1<=m/\m<=N/\jF κ p' m:=by
 obtain ⟨a1,a2,a3,a4⟩:=wQ hk p (N - 1) 1
 have e:bA ans (a2b N p)=bA ans (if (bA ans (WU p (N - 1) 1) == N)=true then WW (bA ans (WU p (N - 1) 1),p) else if bA ans (WU p (N - 1) 1)>1 then Zn (p.getD 0 0) (p.getD (bA ans (WU p (N - 1) 1) - 1) 0) (fun c=>if c=true then WW (bA ans (WU p (N - 1) 1),p) else Xm (bA ans (WU p (N - 1) 1)) N (WT p 0 (bA ans (WU p (N - 1) 1)))) else Xm (bA ans (WU p (N - 1) 1)) N p):=by
  unfold a2b
  rw [nU]
 rw [e]
 generalize bA ans (WU p (N - 1) 1)=n at *
 have up:=Cv (κ:=κ) (p:=p) (m:=n) a3
 split
 ·exact ⟨n,p,rfl,hs,a1,by omega,up⟩
 ·rename_i hne
  have hne:n≠N:=by simpa using hne
  have hlt:=a4 (by omega)
  split
  ·rename_i hg
   show ∃ m p',bA ans (if ans (p.getD 0 0) (p.getD (n - 1) 0)=true then WW (n,p) else Xm n N (WT p 0 n))=(m,p')/\_
   rw [hk]
   by_cases h:κ (p.getD 0 0)<κ (p.getD (n - 1) 0)
   ·rw [if_pos (by simpa using h)]
    exact ⟨n,p,rfl,hs,a1,by omega,up⟩
   ·rw [if_neg (by simpa using h)]
    have h':¬ gK κ p 0<gK κ p (n - 1):=h
    have all:∀ k,k<n->gK κ p k=gK κ p 0:=fun k hkn=>by
     have u1:=up 0 k (Vk _) hkn
     have u2:=up k (n - 1) (by omega) (by omega)
     omega
    refine Cy hk a1 (by omega) (by rw [pU,hs]) (fun i j hi hj=>?_) ?_
    ·rw [mG (by omega),mG (by omega),if_pos ⟨by omega,by omega⟩,if_pos ⟨by omega,by omega⟩,all (0+n - 1 - j) (by omega),all (0+n - 1 - i) (by omega)]
     exact UJ _
    ·rw [mG (by omega),mG (by omega),if_neg (by omega),if_pos ⟨by omega,by omega⟩,all (0+n - 1 - (n - 1)) (by omega),<- all (n - 1) (by omega)]
     exact hlt
  ·rename_i hg
   refine Cy hk a1 (by omega) hs (fun i j hi hj=>?_) hlt
   have:i=j:=by omega
   subst this
   exact UJ _
include hk in
theorem wR {p:Array Nat}{k:Nat}(S:jF κ p k):∀ (f l r:Nat),r - l<=f->l<=r->r<=k->(∀ j,j<l->gK κ p j<=gK κ p k)->(∀ j,r<=j->j<k->gK κ p k<gK κ p j)->
  bA ans (V9 p k f l r)<=k/\(∀ j,j<bA ans (V9 p k f l r)->gK κ p j<=gK κ p k)/\∀ j,bA ans (V9 p k f l r)<=j->j<k->gK κ p k<gK κ p j
 | 0,l,r,h1,h2,h3,lo,hi=>by
  have:l=r:=by omega
  subst this
  exact ⟨h3,lo,hi⟩
 | f+1,l,r,h1,h2,h3,lo,hi=>by
  by_cases h:l >= r
  ·have e:bA ans (V9 p k (f+1) l r)=l:=by
    show bA ans (if l >= r then WW l else _)=_
    rw [if_pos h];rfl
   have:l=r:=by omega
   subst this
   rw [e]
   exact ⟨h3,lo,hi⟩
  ·by_cases c:κ (p.getD k 0)<κ (p.getD ((l+r) / 2) 0)
   ·have e:bA ans (V9 p k (f+1) l r)=bA ans (V9 p k f l ((l+r) / 2)):=by
     show bA ans (if l >= r then WW l else Zn (p.getD k 0) (p.getD ((l+r) / 2) 0) fun c=>if c=true then V9 p k f l ((l+r) / 2) else V9 p k f ((l+r) / 2+1) r)=_
     rw [if_neg h]
     show bA ans (if ans (p.getD k 0) (p.getD ((l+r) / 2) 0)=true then V9 p k f l ((l+r) / 2) else V9 p k f ((l+r) / 2+1) r)=_
     rw [hk,if_pos (by simpa using c)]
    rw [e]
    refine wR S f l ((l+r) / 2) (by omega) (by omega) (by omega) lo fun j hj hjk=>?_
    have:=S ((l+r) / 2) j hj hjk
    have c':gK κ p k<gK κ p ((l+r) / 2):=c
    omega
   ·have e:bA ans (V9 p k (f+1) l r)=bA ans (V9 p k f ((l+r) / 2+1) r):=by
     show bA ans (if l >= r then WW l else Zn (p.getD k 0) (p.getD ((l+r) / 2) 0) fun c=>if c=true then V9 p k f l ((l+r) / 2) else V9 p k f ((l+r) / 2+1) r)=_
     rw [if_neg h]
     show bA ans (if ans (p.getD k 0) (p.getD ((l+r) / 2) 0)=true then V9 p k f l ((l+r) / 2) else V9 p k f ((l+r) / 2+1) r)=_
     rw [hk,if_neg (by simpa using c)]
    rw [e]
    refine wR S f ((l+r) / 2+1) r (by omega) (by omega) h3 (fun j hj=>?_) hi
    have c':¬ gK κ p k<gK κ p ((l+r) / 2):=c
    have:=S j ((l+r) / 2) (by omega) (by omega)
    omega
theorem MH {p:Array Nat}{k l:Nat}(hs:k<p.size)(hl:l<=k)(S:jF κ p k)(lo:∀ j,j<l->gK κ p j<=gK κ p k)(hi:∀ j,l<=j->j<k->gK κ p k<gK κ p j):jF κ (bubble p k (k - l)) (k+1):=by
 intro i j hij hj
 rw [Cu hs (by omega),Cu hs (by omega)]
 have e:k - (k - l)=l:=by omega
 rw [e]
 repeat' split
 all_goals first
  | exact UJ _
  | (exfalso;omega)
  | (exact YD (hi _ (by omega) (by omega)))
  | (exact lo _ (by omega))
  | (exact S _ _ (by omega) (by omega))
include hk in
theorem Cz {N:Nat}:∀ (f:Nat)(p:Array Nat)(k:Nat),p.size=N->k+f=N->jF κ p k->jF κ (bA ans (a0z f p k)) N
 | 0,p,k,hs,h,S=>by
  have:k=N:=by omega
  subst this
  exact S
 | f+1,p,k,hs,h,S=>by
  have e:bA ans (a0z (f+1) p k)=bA ans (a0z f (bubble p k (k - bA ans (V9 p k k 0 k))) (k+1)):=by
   show bA ans ((V9 p k k 0 k).bind fun l=>a0z f (bubble p k (k - l)) (k+1))=_
   rw [nU]
  rw [e]
  obtain ⟨a,b,c⟩:=wR hk S k 0 k (by omega) (by omega) (UJ _) (fun j hj=>absurd hj (by omega)) (fun j h1 h2=>absurd h2 (by omega))
  exact Cz f _ (k+1) (by rw [bubble_size,hs]) (by omega) (MH (by omega) a S b c)
include hk in
theorem MJ {N:Nat}(h1:1<=N):jF κ (bA ans (a0y N)) N:=by
 obtain ⟨m,p',e,hs,hm1,hm,S⟩:=MC hk (p:=(Vv N).toArray) h1 (by simp)
 have e2:bA ans (a0y N)=bA ans (if m<N then a0z (N - max m 1) p' (max m 1) else WW p'):=by
  unfold a0y
  rw [nU,e]
 rw [e2]
 split
 ·have:max m 1=m:=by omega
  rw [this]
  exact Cz hk (N - m) p' m hs (by omega) S
 ·have:m=N:=by omega
  subst this
  exact S
end
section
variable {α:Type}{lt:α->α->Bool}(irr:∀ a,lt a a=false)(tr:∀ a b c,lt a b=true->lt b c=true->lt a c=true)(nt:∀ a b c,lt a b=true->lt a c=true\/lt c b=true)
theorem wU {p q:α->Bool}:∀ {l:List α},(∀ a∈l,p a=true->q a=true)->l.countP p<=l.countP q
 | [],_=>UJ _
 | a::l,h=>by
  have ih:=wU (l:=l) fun b hb=>h b (UX _ hb)
  rw [Y5,Y5]
  have:=h a (U2 ..)
  cases hp:p a<;>cases hq:q a<;>simp_all<;>omega
theorem CA {p q:α->Bool}:∀ {l:List α}{b:α},(∀ a∈l,p a=true->q a=true)->b∈l->p b=false->q b=true->l.countP p<l.countP q
 | a::l,b,h,hb,h1,h2=>by
  rw [Y5,Y5]
  have hle:=wU (l:=l) fun c hc=>h c (UX _ hc)
  rcases U6.mp hb with rfl|hb
  ·simp only [h1,h2,UN,if_false,if_true];omega
  ·have ih:=CA (l:=l) (fun c hc=>h c (UX _ hc)) hb h1 h2
   have:=h a (U2 ..)
   cases hp:p a<;>cases hq:q a<;>simp_all<;>omega
include irr tr nt in
theorem MK {l:List α}{a b:α}(ha:a∈l):lt a b=decide (l.countP (fun c=>lt c a)<l.countP (fun c=>lt c b)):=by
 cases h:lt a b with
 | true=>
  have:=CA (p:=fun c=>lt c a) (q:=fun c=>lt c b) (l:=l) (fun c _ hc=>tr _ _ _ hc h) ha (irr a) h
  simpa using this
 | false=>
  have:=wU (p:=fun c=>lt c b) (q:=fun c=>lt c a) (l:=l) fun c _ hc=>by
   rcases nt c b a hc with z|z
   ·exact z
   ·rw [h] at z;cases z
  simpa using this
include irr tr nt in
theorem ML (d:α)(xs:List α){n:Nat}(h0:1<=n):(cE (fun i j=>lt (xs.getD i d) (xs.getD j d)) n).Pairwise fun i j=>lt (xs.getD j d) (xs.getD i d)=false:=by
 have hk:∀ i j,lt (xs.getD i d) (xs.getD j d)=decide ((d::xs).countP (fun c=>lt c (xs.getD i d))<(d::xs).countP (fun c=>lt c (xs.getD j d))):=fun i j=>by
  refine MK irr tr nt ?_
  by_cases hi:i<xs.length
  ·have:xs.getD i d=xs[i]:=by simp [VA,hi]
   rw [this]
   exact UX _ (Yh hi)
  ·have:xs.getD i d=d:=by simp [VA,WN (XC.mp hi)]
   rw [this]
   exact U2 ..
 have S:=MJ (κ:=fun i=>(d::xs).countP fun c=>lt c (xs.getD i d)) hk h0 (N:=n)
 have hp:=gD (fun i j=>lt (xs.getD i d) (xs.getD j d)) (n:=n) h0
 have hl:(cE (fun i j=>lt (xs.getD i d) (xs.getD j d)) n).length=n:=by
  have:=hp.length_eq
  simpa using this
 rw [VX]
 intro i j hi hj hij
 rw [hk]
 have s:=S i j (by omega) (by omega)
 have e:∀ (a:Array Nat)(k:Nat)(hk:k<a.toList.length),a.getD k 0=a.toList[k]:=fun a k hk=>by
  have hk':k<a.size:=by simpa using hk
  simp [WY,hk']
 unfold gK at s
 rw [e _ i hi,e _ j hj] at s
 simp only [decide_eq_false_iff_not,XC]
 exact s
end
end L3
namespace L3
open PySem L2
section
variable {X:Cx}{a b c:UO}{ma mb mc:ME}{pos:Wl}
noncomputable def j9 (f g:D->D->Hm->Option (D×Hm))(a b c:ME):ME:=fun ρ μ=>(a ρ μ).bind fun p=>(b ρ p.2).bind fun q=>(f p.1 q.1 q.2).bind fun r=>match r.1 with
 | .bl true=>(c ρ r.2).bind fun t=>g q.1 t.1 t.2
 | .bl false=>some (.bl false,r.2)
 | _=>none
theorem CB {f g:D->D->Hm->Option (D×Hm)}{r r':R2}{K:Ux}(hf:cP K f r)(hg:cP K g r'):∀ σ H Q,tM K (j9 f g ma mb mc) σ H Q->uZ r r' (tM K ma) (tM K mb) (tM K mc) σ H Q:=by
 rintro σ H Q ⟨π,ρ,μ,d,μ',R,E,hm,k⟩
 obtain ⟨⟨x,μ1⟩,h1,hm⟩:=Uw.mp hm
 obtain ⟨⟨y,μ2⟩,h2,hm⟩:=Uw.mp hm
 obtain ⟨⟨z,μ3⟩,h3,hm⟩:=Uw.mp hm
 refine ⟨π,ρ,μ,x,μ1,R,E,h1,fun π1 v1 H1 e1 R1 i1=>⟨π1,ρ,μ1,y,μ2,R1,E.mono e1,h2,fun π2 v2 H2 e2 R2 i2=>?_⟩⟩
 refine hf π2 H2 μ2 x y z μ3 v1 v2 _ R2 (i1.mono e2) i2 h3 fun π3 v3 H3 e3 R3 i3=>?_
 cases z with
 | bl bb=>
  cases i3
  refine ⟨bb,rfl,?_⟩
  cases bb with
  | true=>
   refine kN ?_
   obtain ⟨⟨t,μ4⟩,h4,hm⟩:=Uw.mp hm
   exact ⟨π3,ρ,μ3,t,μ4,R3,((E.mono e1).mono e2).mono e3,h4,fun π4 v4 H4 e4 R4 i4=>hg π4 H4 μ4 y t d μ' v2 v4 Q R4 ((i2.mono e3).mono e4) i4 hm (k.after (((e1.trans e2).trans e3).trans e4))⟩
  | false=>
   refine kM ?_
   cases hm
   exact k π3 _ H3 ((e1.trans e2).trans e3) R3 (.bl false)
 | _=>cases hm
noncomputable def kB:X3->Option (Int->Int->Bool)
 | .Lt=>some fun i j=>decide (i<j)
 | .LtE=>some fun i j=>decide (i<=j)
 | .Gt=>some fun i j=>decide (j<i)
 | .GtE=>some fun i j=>decide (j<=i)
 | _=>none
theorem nV {op:X3}{p:Int->Int->Bool}(h:kB op=some p):OpR X (VD op) (fU fun i j=>.bl (p i j))/\(op=.Lt\/op=.LtE\/op=.Gt\/op=.GtE):=by
 cases op<;>first|(cases h;first|exact ⟨uV,by simp⟩|exact ⟨uW,by simp⟩|exact ⟨uX,by simp⟩|exact ⟨uY,by simp⟩)|cases h
theorem CC {op op':X3}(h':op'=.Lt\/op'=.LtE\/op'=.Gt\/op'=.GtE):a3X [op,op'] [b,c]=false:=by
 show Xw op' c=false
 rcases h' with rfl|rfl|rfl|rfl<;>exact cW _
theorem MM {op op':X3}{p q:Int->Int->Bool}(h:kB op=some p)(h':kB op'=some q)(ha:QE X a ma)(hb:QE X b mb)(hc:QE X c mc):QE X (.Compare a [op,op'] [b,c] pos) (j9 (fJ p) (fJ q) ma mb mc):=
 ⟨cO (HV (nV h).1 (nV h').1 ha.h hb.h hc.h (CC (nV (X:=X) h').2)) (CB hU hU)⟩
theorem MN {op op':X3}{p q:Int->Int->Bool}(h:kB op=some p)(h':kB op'=some q)(ha:QE X a ma)(hb:QE X b mb)(hc:QE X c mc):QT X (.Compare a [op,op'] [b,c] pos) (aR (j9 (fJ p) (fJ q) ma mb mc)):=
 ⟨rQ (HW (nV h).1 (nV h').1 ha.h hb.h hc.h (CC (nV (X:=X) h').2)) fun σ H Q h=>CB hU hU σ H _ (Bg σ H Q h)⟩
noncomputable def sQ (neg:Bool):D->D->Hm->Option (D×Hm)
 | .bl b,.bl c,μ=>some (.bl (if neg then !(b == c) else b == c),μ)
 | .int _,.bl _,μ=>some (.bl neg,μ)
 | _,_,_=>none
noncomputable def hX (neg:Bool):D->D->Hm->Option (D×Hm):=fun x y μ=>match y with
 | .bl _=>sQ neg x y μ
 | _=>jE neg x y μ
noncomputable def wV (neg:Bool):R2:=fun x y H Q=>∃ c,y=.bl c/\((∃ b,x=.bl b/\Q (.bl (if neg then !(b == c) else b == c)) H)\/((∃ i,x=.int i)/\Q (.bl neg) H))
theorem sR {K:Ux}{neg:Bool}:cP K (sQ neg) (wV neg):=by
 intro π H μ x y d μ' vx vy Q R ix iy hm k
 unfold sQ at hm
 split at hm
 ·cases hm;cases ix;cases iy
  exact ⟨_,rfl,.inl ⟨_,rfl,k π _ H .refl R (.bl _)⟩⟩
 ·cases hm;cases ix;cases iy
  exact ⟨_,rfl,.inr ⟨⟨_,rfl⟩,k π _ H .refl R (.bl _)⟩⟩
 ·cases hm
theorem CD:OpR X (VD .Is) (wV false):=by
 intro a5f s σ H x y v u Q I rx ry h
 obtain ⟨c,rfl,h⟩:=h
 cases ry
 rcases h with ⟨b,rfl,q⟩|⟨⟨i,rfl⟩,q⟩
 ·cases rx
  exact UG (lS I q (by cases b<;>cases c<;>rfl))
 ·obtain ⟨t,rfl⟩:=rx
  exact UG (lS I q rfl)
theorem CF:OpR X (VD .IsNot) (wV true):=by
 intro a5f s σ H x y v u Q I rx ry h
 obtain ⟨c,rfl,h⟩:=h
 cases ry
 rcases h with ⟨b,rfl,q⟩|⟨⟨i,rfl⟩,q⟩
 ·cases rx
  exact UG (lS I q (by cases b<;>cases c<;>rfl))
 ·obtain ⟨t,rfl⟩:=rx
  exact UG (lS I q rfl)
theorem sS {neg:Bool}(x y:D)(μ:Hm)(r:D×Hm)(h:hX neg x y μ=some r):sQ neg x y μ=some r\/jE neg x y μ=some r:=by
 unfold hX at h
 split at h
 ·exact .inl h
 ·exact .inr h
theorem MP (ha:QE X a ma)(hb:QE X b mb):QE X (.Compare a [.Is] [b] pos) (aB (hX false) ma mb):=l8 ⟨eC CD sR ha.h hb.h (cW _)⟩ (Mb ha hb) (gC sS)
theorem MQ (ha:QE X a ma)(hb:QE X b mb):QE X (.Compare a [.IsNot] [b] pos) (aB (hX true) ma mb):=l8 ⟨eC CF sR ha.h hb.h (cW _)⟩ (Mc ha hb) (gC sS)
theorem MR (ha:QE X a ma)(hb:QE X b mb):QT X (.Compare a [.Is] [b] pos) (aR (aB (hX false) ma mb)):=nP ⟨eD CD sR ha.h hb.h (cW _)⟩ (Md ha hb) (nQ (gC sS))
theorem MU (ha:QE X a ma)(hb:QE X b mb):QT X (.Compare a [.IsNot] [b] pos) (aR (aB (hX true) ma mb)):=nP ⟨eD CF sR ha.h hb.h (cW _)⟩ (Me ha hb) (nQ (gC sS))
end
noncomputable def mH:MF:=fun ds μ=>match ds with
 | [x]=>(bI μ x).bind fun xs=>(kR xs).map fun is=>(.int is.sum,μ)
 | _=>none
noncomputable def CG (K:Ux):List V->Hp->VK->Prop:=fun xs H Q=>∃ (p:Addr)(is:List Int),xs=[.ref p]/\(SqL K H p (is.map V.int)\/SqT K H p (is.map V.int))/\Q (.int is.sum) H
theorem MV {K:Ux}:dC K mH (CG K):=by
 intro π H μ xs d μ' vs Q R i hm k
 unfold mH at hm
 split at hm
 ·obtain ⟨ys,h1,hm⟩:=Uw.mp hm
  obtain ⟨is,h2,hm⟩:=UB.mp hm
  cases hm
  cases i with
  | cons i t=>
   cases t
   obtain ⟨p,ws,rfl,q,hd⟩:=lX R i h1
   rw [sM h2] at hd
   have:=ints_of' hd
   subst this
   exact ⟨p,is,rfl,q,k π _ H .refl R (.int _)⟩
 ·cases hm
theorem CH (is:List Int):∀ n,n<=is.length->preSum (fun i=>is.getD i 0) n=(is.take n).sum
 | 0,_=>rfl
 | n+1,h=>by
  have ih:=CH is n (by omega)
  have e:is.take (n+1)=is.take n++[is[n]]:=by rw [YF,UW (by omega)];rfl
  show preSum (fun i=>is.getD i 0) n+is.getD n 0=_
  rw [ih,e,List.sum_append]
  simp [VA,UW (show n<is.length by omega)]
section
variable {X:Cx}
theorem CI {a5f:List (Addr×Wf)}{σ:St}{H:Hp}{s s2 s':UE}{wr:List Addr}(I:Inv X a5f σ H s)(m:Moved wr (fun a b=>b=a) s2 s')(e2:∀ b o,s.heap.get? b=some o->s2.heap.get? b=some o)(hw:∀ b∈wr,s.heap.objs.size<=b)(hs:s2.gens=s.gens/\s2.drawn=s.drawn/\s2.os=s.os):Inv X a5f σ H s':=by
 have hk:∀ b o,s.heap.get? b=some o->s'.heap.get? b=some o:=fun b o e=>m.heap b o (fun z=>absurd (Vg (UK e) (hw b z)) (WJ _)) (e2 b o e)
 have h1:s'.gens=s.gens:=m.gens.trans hs.1
 have h2:s'.drawn=s.drawn:=m.drawn.trans hs.2.1
 have h3:s'.os=s.os:=m.os.trans hs.2.2
 obtain ⟨h',g',d',t',o'⟩:=s'
 dsimp only at h1 h2 h3 hk
 subst h1 h2 h3
 exact I.kept (t':=t') hk
theorem CJ {is:List Int}{its:List UC}(r:Vals (is.map V.int) its){i:Nat}{v:UC}(h:its.toArray[i]? = some v):∃ t,v=.int (is.getD i 0) t:=by
 have h':its[i]? = some v:=by simpa using h
 have hi:i<is.length:=by
  have:=(UA.mp h').1
  have:=r.length
  rw [Uz] at this
  omega
 obtain ⟨u,h1,h2⟩:=r.get (i:=i) (x:=.int is[i]) (by rw [Vd,UW hi];rfl)
 rw [h'] at h1
 cases h1
 obtain ⟨t,rfl⟩:=h2
 exact ⟨t,by simp [VA,hi]⟩
theorem MW (hc:X.calm=true):CallR X (.builtin "sum") (CG X.K):=by
 intro a5f s σ H xs us Q I r h
 obtain ⟨p,is,rfl,hq,q⟩:=h
 obtain ⟨u,rfl,ru⟩:=eB r
 cases ru
 have hh:X.A.in1.handled=none:=I.ok.hd hc
 have fin:∀ its:List UC,Vals (is.map V.int) its->preSum (fun i=>is.getD i 0) its.toArray.size=is.sum:=fun its rv=>by
  have hlen:its.toArray.size=is.length:=by rw [US,<- rv.length,Uz]
  rw [hlen,CH is _ (UJ _),V6]
 rcases hq with hq|hq
 ·obtain ⟨its,rv,pl,hz⟩:=I.list hq
  refine a3J (Yi pl.isList ?_)
  have hne:p≠s.heap.objs.size:=by
   obtain ⟨o,ho,_⟩:=pl.isList
   exact UY (UK ho)
  refine ⟨s.heap.objs.size,_,_,_,_,_,_,fun i=>is.getD i 0,rfl,(a3Z hh _ p hne its.toArray).toS,⟨⟨_,UT _ rfl,rfl,rfl⟩,pl.isList.push _⟩,?_,fun i v hv=>CJ rv hv,fun s' t' m=>?_⟩
  ·intro b hb
   show b<(s.heap.push _).objs.size
   rw [X8]
   obtain ⟨o,ho,_⟩:=pl.isList
   have hp:=UK ho
   simp only [U6,W4,or_false] at hb
   rcases hb with rfl|rfl
   ·exact XI _
   ·exact YW hp
  ·refine ⟨.int is.sum,H,CI I m (fun b o e=>UD _ e) (fun b hb=>?_) ⟨rfl,rfl,rfl⟩,⟨t',?_⟩,q⟩
   ·have e:b=s.heap.objs.size:=by simpa using hb
    exact Zb e.symm
   ·rw [fin its rv]
 ·obtain ⟨its,rv,pl,hz⟩:=I.tuple hq
  refine a3J (Y0 (show s.heap.IsTuple p its.toArray from pl) ?_)
  have hne:p≠s.heap.objs.size:=by
   obtain ⟨o,ho,_⟩:=pl
   exact UY (UK ho)
  refine ⟨s.heap.objs.size,_,_,_,_,_,_,fun i=>is.getD i 0,rfl,(a3L hh _ p hne its.toArray).toS,⟨⟨_,UT _ rfl,rfl,rfl⟩,Zu pl _⟩,?_,fun i v hv=>CJ rv hv,fun s' t' m=>?_⟩
  ·intro b hb
   show b<(s.heap.push _).objs.size
   rw [X8]
   obtain ⟨o,ho,_⟩:=pl
   have hp:=UK ho
   simp only [U6,W4,or_false] at hb
   rcases hb with rfl|rfl
   ·exact XI _
   ·exact YW hp
  ·refine ⟨.int is.sum,H,CI I m (fun b o e=>UD _ e) (fun b hb=>?_) ⟨rfl,rfl,rfl⟩,⟨t',?_⟩,q⟩
   ·have e:b=s.heap.objs.size:=by simpa using hb
    exact Zb e.symm
   ·rw [fin its rv]
end
noncomputable def d7 {α:Type}(xs:List α)(lo hi st:Option Int):List α:=(a3t (Xk lo hi st xs.length).1 (Xk lo hi st xs.length).2.1 (Xk lo hi st xs.length).2.2).filterMap (xs[·]?)
noncomputable def nW (a:ME)(lo hi st:MO):ME:=fun ρ μ=>(a ρ μ).bind fun p=>(lo ρ p.2).bind fun q=>(hi ρ q.2).bind fun r=>(st ρ r.2).bind fun t=>
 if t.1≠some 0 then (dW t.2 p.1).bind fun xs=>if (d7 xs q.1 r.1 t.1).length<=UM then some (.loc t.2.length,t.2++[.lst (d7 xs q.1 r.1 t.1)]) else none else none
theorem MX {K:Ux}{π:Nat->Addr}{n:Nat}{H:Hp}{vs:List V}{ds:List D}(h:IsDs K π n H vs ds)(lo hi st:Option Int):IsDs K π n H (d7 vs lo hi st) (d7 ds lo hi st):=by
 unfold d7
 rw [h.length]
 generalize a3t _ _ _=l
 induction l with
 | nil=>exact .nil
 | cons i l ih=>
  rw [WG,WG]
  cases hi:ds[i]? with
  | none=>
   have:vs[i]? = none:=by
    rw [VF] at hi ⊢
    rw [h.length];exact hi
   rw [this]
   exact ih
  | some d=>
   obtain ⟨v,h1,h2⟩:=h.get hi
   rw [h1]
   exact .cons h2 ih
theorem MY {vs:List V}{its:List UC}(r:Vals vs its)(lo hi st:Option Int):Vals (d7 vs lo hi st) (d7 its lo hi st):=by
 unfold d7
 rw [r.length]
 generalize a3t _ _ _=l
 induction l with
 | nil=>exact .nil
 | cons i l ih=>
  rw [WG,WG]
  cases hi:vs[i]? with
  | none=>
   have:its[i]? = none:=by
    rw [VF] at hi ⊢
    rw [<- r.length];exact hi
   rw [this]
   exact ih
  | some v=>
   obtain ⟨u,h1,h2⟩:=r.get hi
   rw [h1]
   exact .cons h2 ih
section
variable {X:Cx}{e:UO}{te:TE}{lo hi:Option UO}{st:UO}{tl th tt:TO}{pos p2:Wl}
noncomputable def MZ (K:Ux)(te:TE)(tl th tt:TO):TE:=fun σ H Q=>te σ H fun x H1=>tl σ H1 fun l H2=>th σ H2 fun u H3=>tt σ H3 fun t H4=>t≠some 0/\∃ a xs,x=.ref a/\SqL K H4 a xs/\(d7 xs l u t).length<=UM/\∀ p,H4 p=none->Q (.ref p) (aK H4 p (.lst (d7 xs l u t)))
open PyProof.Rows in
theorem M0 (he:PE X e te)(hl:PO X lo tl)(hu:PO X hi th)(ht:PO X (some st) tt):PE X (.Subscript e (.Slice lo hi (some st) p2) pos) (MZ X.K te tl th tt):=by
 intro a5f s σ H Q I h
 refine a1D (aU (he a5f s σ H _ I h) fun v s1 ⟨x,H1,I1,r1,q1⟩=>?_)
 refine wpAny_Slice (aU (hl a5f s1 σ H1 _ I1 q1) fun vl s2 ⟨l,H2,I2,pl,q2⟩=>aU (hu a5f s2 σ H2 _ I2 q2) fun vu s3 ⟨u,H3,I3,pu,q3⟩=>aU (ht a5f s3 σ H3 _ I3 q3) fun vt s4 ⟨t,H4,I4,pt,q4⟩=>?_)
 obtain ⟨h0,a,xs,rfl,hx,hz,q⟩:=q4
 cases r1
 have I5:Inv X a5f σ H4 { s4 with heap:=s4.heap.push { cls:=.type "slice",data:=.fields #[vl,vu,vt] } }:=I4.kept (t':=s4.toks) fun b ob q=>UD _ q
 obtain ⟨its,r,hl',hz'⟩:=I5.list hx
 have hlen:=r.length
 show U3 (U8 X.prog X.w) X.A (a0c e (.Slice lo hi (some st) p2) (.ref a) (.ref s4.heap.objs.size)) (EP X a5f σ Q) X.xe { s4 with heap:=s4.heap.push { cls:=.type "slice",data:=.fields #[vl,vu,vt] } }
 refine a4T (ops:=[.ref a,.ref s4.heap.objs.size]) hl'.isList.typeIs a0x.lookup ?_ (by with_unfolding_all rfl)
 refine a1T hl'.isList (a0v ..) pl pu pt h0 ?_ (by rw [US]<;>omega)
 have hpick:a2a its.toArray l u t=(d7 its l u t).toArray:=by
  unfold a2a d7
  simp
 rw [hpick]
 refine ⟨.ref _,_,I5.laid (t':=s4.toks) (o:=.lst (d7 xs l u t)) (fun b ob q=>UD _ q) (UJ _) ?_,rfl,q _ (I5.hok.fresh (UJ _))⟩
 exact ⟨hz,_,0,MY r l u t,UT _ rfl⟩
theorem M3 {me:ME}{ml mh mt:MO}(he:QE X e me)(hl:QO X lo ml)(hu:QO X hi mh)(ht:QO X (some st) mt):QE X (.Subscript e (.Slice lo hi (some st) p2) pos) (nW me ml mh mt):=⟨cO (M0 he.h hl.h hu.h ht.h) (by
 rintro σ H Q ⟨π,ρ,μ,d,μ',R,E,hm,k⟩
 obtain ⟨⟨x,μ1⟩,h1,hm⟩:=Uw.mp hm
 obtain ⟨⟨l,μ2⟩,h2,hm⟩:=Uw.mp hm
 obtain ⟨⟨u,μ3⟩,h3,hm⟩:=Uw.mp hm
 obtain ⟨⟨t,μ4⟩,h4,hm⟩:=Uw.mp hm
 refine ⟨π,ρ,μ,x,μ1,R,E,h1,fun π1 v1 H1 e1 R1 i1=>⟨π1,ρ,μ1,l,μ2,R1,E.mono e1,h2,fun π2 H2 e2 R2=>⟨π2,ρ,μ2,u,μ3,R2,(E.mono e1).mono e2,h3,fun π3 H3 e3 R3=>⟨π3,ρ,μ3,t,μ4,R3,((E.mono e1).mono e2).mono e3,h4,fun π4 H4 e4 R4=>?_⟩⟩⟩⟩
 split at hm
 ·rename_i h0
  obtain ⟨xs,h5,hm⟩:=Uw.mp hm
  split at hm
  ·rename_i hz
   cases hm
   obtain ⟨p,vs,rfl,q,hd⟩:=mF R4 (((i1.mono e2).mono e3).mono e4) h5
   have hpk:=MX hd l u t
   refine ⟨h0,p,vs,rfl,q,by rw [hpk.length];exact hz,fun p' hp=>?_⟩
   obtain ⟨e5,R5,_⟩:=R4.alloc (c:=.lst (d7 xs l u t)) (o:=.lst (d7 vs l u t)) hp hpk
   exact k _ _ _ ((((e1.trans e2).trans e3).trans e4).trans e5) R5 eM
  ·cases hm
 ·cases hm)⟩
end
section
variable {X:Cx}{a5f:List (Addr×Wf)}{σ:St}{H:Hp}{s:UE}{h':VL}
theorem CK {t':Nat}{ch:List Addr}{a:Addr}{o:HO}(I:Inv X a5f σ H s)(k:∀ b u,b∉ch->s.heap.get? b=some u->h'.get? b=some u)(hf:∀ b∈ch,fF X a5f H b)(hp:s.heap.objs.size<=a)
  (new:ObjOk X.prog X.w (aK H a o) h' a o):Inv X a5f σ (aK H a o) { s with heap:=h',toks:=t' }:=by
 have hn:=I.hok.fresh hp
 have nit:∀ b u,H b=some u->b∉ch:=fun b u e z=>by
  have:=(hf b z).1
  rw [e] at this;cases this
 refine I.step (g':=s.gens) (d':=s.drawn) (ch:=ch) (fun b hb=>let ⟨f0,f1,f2,f3,f4,f5⟩:=hf b hb;⟨f3,f1,f4,f5⟩) (fun b o _ _ hc e _=>k b o hc e) (fun b o _ _ hc e _=>⟨o.slots,k b o hc e⟩) (fun b ob hc e n=>?_)
  (fun b o hc e=>⟨o,k b o hc e⟩) (fun b xs q=>?_) (fun b ob xs q=>?_) (fun b ps q=>?_) (fun m hm=>?_) (fun b u e=>?_) I.bare
 ·rw [bE (UY (Vg (UK e) hp))];exact n
 ·rw [bE (eH q hn)];exact q
 ·rw [bE (eH q hn)];exact q
 ·exact ⟨#[],by rw [bE (eH q hn),q];simp⟩
 ·obtain ⟨o,es,ep,ho,r⟩:=hm
  exact ⟨o,es,ep,k _ o (fun z=>(hf _ z).2.1 rfl) ho,r⟩
 ·by_cases hb:b=a
  ·subst hb;rw [cV] at e;cases e;exact new
  ·rw [bE hb] at e
   refine (I.hok b u e).stay (fun c v hc q=>k c v ?_ q) (fun c q=>by rw [bE (eH q hn)];exact q) fun c xs q=>by rw [bE (eH q hn)];exact q
   rcases hc with z|z
   ·rw [z];exact nit b u e
   ·exact nit c _ z
theorem CL {t':Nat}{ch:List Addr}(I:Inv X a5f σ H s)(k:∀ b u,b∉ch->s.heap.get? b=some u->h'.get? b=some u)(hf:∀ b∈ch,fF X a5f H b):Inv X a5f σ H { s with heap:=h',toks:=t' }:=by
 have nit:∀ b u,H b=some u->b∉ch:=fun b u e z=>by
  have:=(hf b z).1
  rw [e] at this;cases this
 refine I.step (g':=s.gens) (d':=s.drawn) (ch:=ch) (fun b hb=>let ⟨f0,f1,f2,f3,f4,f5⟩:=hf b hb;⟨f3,f1,f4,f5⟩) (fun b o _ _ hc e _=>k b o hc e) (fun b o _ _ hc e _=>⟨o.slots,k b o hc e⟩) (fun b ob hc e n=>n)
  (fun b o hc e=>⟨o,k b o hc e⟩) (fun b xs q=>q) (fun b ob xs q=>q) (fun b ps q=>⟨#[],by rw [q];simp⟩) (fun m hm=>?_) (fun b u e=>?_) I.bare
 ·obtain ⟨o,es,ep,ho,r⟩:=hm
  exact ⟨o,es,ep,k _ o (fun z=>(hf _ z).2.1 rfl) ho,r⟩
 ·refine (I.hok b u e).stay (fun c v hc q=>k c v ?_ q) (fun c q=>q) fun c xs q=>q
  rcases hc with z|z
  ·rw [z];exact nit b u e
  ·exact nit c _ z
end
noncomputable def wW (K:Ux)(a:Addr):It:=
 ⟨fun i H=>∃ xs x,SqL K H a xs/\xs[i]? = some x,fun i H x H'=>∃ p v,x=.ref p/\H p=none/\H'=aK H p (.tup [.int i,v])/\∀ xs,SqL K H a xs->xs[i]? = some v,fun i H=>∃ xs,SqL K H a xs/\xs.length<=i⟩
theorem M4 {P:Va}{w:Vu}{K:Ux}{es:List UO}{kx:Nat}{pt:Wl}(a e it:Addr)(hei:e≠it) :
  Turn P w K (.Tuple es kx pt) (wW K a) [e,it] e (fun i h=>∃ old,IsEnum h e it i old/\h.IsListIter it a i) where
 mem:=by simp
 obj:=fun i h ⟨old,st,st2⟩ b hb=>by
  have hb':b=e\/b=it:=by simpa using hb
  rcases hb' with rfl|rfl
  ·exact ⟨_,st,fun v z=>by
    have z':a0p _=a0f v:=z
    cases z'⟩
  ·obtain ⟨o,e1,c,d⟩:=st2
   exact ⟨o,e1,fun v z=>by rw [d] at z;cases z⟩
 keep:=fun i h h' ⟨old,st,st2⟩ k=>⟨old,k e (by simp) _ st,st2.at fun o e1=>k it (by simp) o e1⟩
 item:=by
  intro X hP hw hK hc i a5f s σ H E I hf ⟨old,st,st2⟩ hg
  subst hP hw hK
  obtain ⟨xs,x,hq,hx⟩:=hg
  obtain ⟨its,rv,p,hz⟩:=I.list hq
  obtain ⟨u,hu,ru⟩:=rv.get hx
  refine wpAny_pyNext_enum_item st st2 p.isList (x:=u) (by simpa using hu) hei fun h1 ho hit ht hsz hk=>⟨_,rfl,wpAny_letOwnedTupleGo_enum ho fun h2 he2 hs2=>?_⟩
  have hlt:e<s.heap.objs.size:=UK st
  have hne:s.heap.objs.size≠e:=Wh hlt
  have ht2:h2.get? s.heap.objs.size=some { cls:=.type "tuple",data:=.seq #[.int i s.toks,u] }:=(hs2.2 _ hne).trans ht
  have hfr:H s.heap.objs.size=none:=I.hok.fresh (UJ _)
  refine ⟨.ref s.heap.objs.size,aK H s.heap.objs.size (.tup [.int i,x]),?_,rfl,⟨s.heap.objs.size,x,rfl,hfr,rfl,fun ys hy=>by rw [I.list_inj hy hq];exact hx⟩,⟨u,he2,hit.extBut hs2.extBut (VH hei)⟩,fun b hb=>?_⟩
  ·refine CK (s:=s) (h':=h2) (t':=s.toks+1) (ch:=[e,it]) I (fun b ob hb eb=>?_) hf (UJ _) ?_
   ·have hb':b≠e/\b≠it:=by simpa using hb
    exact (hs2.2 b hb'.1).trans (hk b ob hb'.1 hb'.2 eb)
   ·exact ⟨by show (2:Nat)<=UM;decide,[.int i s.toks,u],.cons ⟨_,rfl⟩ (.cons ru .nil),_,ht2,rfl,0,rfl,rfl⟩
  ·have hb':b=e\/b=it:=by simpa using hb
   have hn:=(hf b hb).1
   obtain ⟨o,ho2,_⟩:=st2
   rw [bE]
   ·exact hn
   ·rcases hb' with rfl|rfl
    ·exact UY hlt
    ·exact UY (UK ho2)
 done:=by
  intro X hP hw hK hc i a5f s σ H E I hf ⟨old,st,st2⟩ hg
  subst hP hw hK
  obtain ⟨xs,hq,hx⟩:=hg
  obtain ⟨its,rv,p,hz⟩:=I.list hq
  have hl:=rv.length
  refine wpAny_pyNext_enum_end (I.ok.hd hc) st st2 p.isList (by simp;omega) fun h' eb=>⟨rfl,CL (t':=s.toks) (ch:=[e,it]) I (fun b o hb z=>eb b o ?_ z) hf⟩
  have hb':b≠e/\b≠it:=by simpa using hb
  exact hb'.2
 self:=fun _ _ _ _ _ ⟨old,st,_⟩ h=>a3F st h
structure QJT (X:Cx)(e:UO)(m:MI):Prop where
 h:∀ es k p,PI X (.Tuple es k p) e (j0 X.K m)
theorem QJ.t {X:Cx}{e:UO}{m:MI}(h:QJ X e m):QJT X e m:=⟨fun es k p=>h.h _⟩
noncomputable def nX (x:D):f9:=fun μ i=>(bI μ x).map fun xs=>(xs[i]?).map fun d=>.tup [.int i,d]
noncomputable def mI (ms:MA):MI:=fun ρ μ=>(ms ρ μ).bind fun p=>match p.1 with
 | [x]=>(dW p.2 x).map fun xs=>(nX x,xs.length+1,p.2)
 | _=>none
theorem M5 {K:Ux}{π:Nat->Addr}{μ:Hm}{H:Hp}{v:V}{x:D}{xs:List D}(R:Rp K π H μ)(h:IsD K π μ.length H v x)(hs:dW μ x=some xs):∃ a,v=.ref a/\(∃ vs,SqL K H a vs)/\Wk K (wW K a) (nX x) π μ.length H:=by
 have hw:bI μ x=some xs:=by
  cases x with
  | rol ys=>exact hs
  | loc b=>exact hs
  | _=>cases hs
 obtain ⟨p,vs,rfl,hq,_⟩:=mF R h hs
 refine ⟨p,rfl,⟨vs,hq⟩,?_⟩
  -- the list as it stands later
 have later:∀ π' μ' H',Ext π μ.length H π' μ'.length H'->Rp K π' H' μ'->∀ ys,bI μ' x=some ys->∃ ws,SqL K H' p ws/\IsDs K π' μ'.length H' ws ys:=fun π' μ' H' e R' ys hy=>by
  have i':=h.mono e
  have hl:dW μ' x=some ys:=by
   cases x with
   | rol zs=>exact hy
   | loc b=>exact hy
   | _=>cases hs
  obtain ⟨p',ws,e1,q1,d1⟩:=mF R' i' hl
  cases e1
  exact ⟨ws,q1,d1⟩
 refine ⟨fun π' μ' H' i e R' z=>?_,fun π' μ' H' i d e R' z=>?_⟩
 ·obtain ⟨ys,h1,h2⟩:=UB.mp z
  obtain ⟨ws,q1,d1⟩:=later π' μ' H' e R' ys h1
  have h3:ys[i]? = none:=by
   cases q:ys[i]? with
   | none=>rfl
   | some d=>rw [q] at h2;cases h2
  exact ⟨ws,q1,by rw [d1.length];exact VF.mp h3⟩
 ·obtain ⟨ys,h1,h2⟩:=UB.mp z
  obtain ⟨d',h3,h4⟩:=UB.mp h2
  subst h4
  obtain ⟨ws,q1,d1⟩:=later π' μ' H' e R' ys h1
  obtain ⟨v,h5,h6⟩:=d1.get h3
  refine ⟨⟨ws,v,q1,h5⟩,?_⟩
  rintro y H2 ⟨t,v',rfl,hn,rfl,hv⟩
  have:=hv ws q1
  rw [h5] at this
  cases this
  obtain ⟨e2,R2⟩:=R'.fresh (o:=.tup [.int i,v]) hn
  exact ⟨e2,R2,.tup (.of cV) (.cons (.int _) (.cons (h6.mono e2) .nil))⟩
noncomputable def M6 (K:Ux)(ta:TA):TI:=fun σ H R=>ta σ H fun vs H1=>∃ a,vs=[.ref a]/\(∃ xs,SqL K H1 a xs)/\R (wW K a) H1
open PyProof.Rows in
theorem M7 {X:Cx}{a:UO}{ta:TA}{p pos pt:Wl}{es:List UO}{kx:Nat}(hg:Gl X "enumerate") (hm:X.mg "enumerate" = none) (ha:PA X [a] ta)(hs:Vj [a] X.env=[(false,eval a X.env)]):PI X (.Tuple es kx pt) (.Call (.Name "enumerate" p) [a] [] pos) (M6 X.K ta):=by
 intro a5f s σ H R I h
 refine Call_ (iM I hg hm Boot.«enumerate» (callWith_type1 (aU (ha pos a5f s σ H _ I h) fun us s1 ⟨vs,H1,I1,r1,q1⟩=>?_) hs rfl))
 obtain ⟨a0,rfl,⟨ws,hq⟩,q⟩:=q1
 obtain ⟨u,rfl,ru⟩:=eB r1
 cases ru
 obtain ⟨its,rv,pl,hz⟩:=I1.list hq
 refine call_enumerate_list pl.isList fun h' he hit hsz hk=>?_
 refine a3F he ?_
 have I2:Inv X a5f σ H1 { s1 with heap:=h' }:=I1.kept (t':=s1.toks) hk
 refine ⟨s1.heap.objs.size+1,[s1.heap.objs.size+1,s1.heap.objs.size],_,_,H1,rfl,I2,M4 a0 _ _ (Nat.succ_ne_self _),⟨_,he,hit⟩,fun b hb=>?_,q⟩
 have hb':b=s1.heap.objs.size+1\/b=s1.heap.objs.size:=by simpa using hb
 rcases hb' with rfl|rfl
 ·exact I1.fpOk (Yr _) (I1.hok.fresh (Yr _))
 ·exact I1.fpOk (UJ _) (I1.hok.fresh (UJ _))
theorem M8 {X:Cx}{a:UO}{ms:MA}{n:Nat}{p pos:Wl}(hgl:Gl X "enumerate") (hmg:X.mg "enumerate" = none) (ha:QA X [a] ms n):QJT X (.Call (.Name "enumerate" p) [a] [] pos) (mI ms):=⟨fun es kx pt a5f s σ H R I hw=>by
 have hs:=ha.s
 rw [Vo,UL] at hs
 obtain ⟨π,ρ,μ,src,n',μ',Rr,E,hm,k⟩:=hw
 obtain ⟨⟨x,μ1⟩,h1,hm⟩:=Uw.mp hm
 refine M7 hgl hmg ha.h (eY hs.1) a5f s σ H R I ⟨π,ρ,μ,x,μ1,Rr,E,h1,fun π1 vs H1 e1 R1 i1=>?_⟩
 dsimp only at hm
 split at hm
 ·rename_i x
  obtain ⟨xs,h2,hm⟩:=UB.mp hm
  cases hm
  cases i1 with
  | cons i1 t1=>
   cases t1
   obtain ⟨a0,rfl,hq,W⟩:=M5 R1 i1 h2
   exact ⟨a0,rfl,hq,k π1 H1 _ e1 R1 W⟩
 ·cases hm⟩
section
variable {X:Cx}{pos:Wl}
theorem wX {tg iter:UO}{mi:MI}{g:MG}{mb:MS}{body:List Stmt}(hi:PI X tg iter (j0 X.K mi))(hg:QG X tg g)(hb:QB X body mb)(hp:a0X (U8 X.prog X.w) X.A X.env X.xe)(hc:X.calm=true)(hs:fM iter=true) :
  QS X (.For tg iter body [] pos) (cB mi g mb):=⟨iN (HH hp hc hi hg.h hb.h (by intro z;cases iter<;>first|rfl|cases hs)) (by
 rintro E σ H ⟨π,ρ,μ,fl,ρ',μ',R,EN,hm,k⟩
 obtain ⟨⟨src,n,μ1⟩,h1,hm⟩:=Uw.mp hm
 refine ⟨π,ρ,μ,src,n,μ1,R,EN,h1,fun π1 H1 J e1 R1 W=>?_⟩
 have kk:lU X.K E π1 μ1.length H1 fl ρ' μ':=by
  cases fl with
  | nx=>exact fun π3 σ3 H3 e3 R3 E3=>k π3 σ3 H3 (e1.trans e3) R3 E3
  | bk=>exact fun π3 σ3 H3 e3 R3 E3=>k π3 σ3 H3 (e1.trans e3) R3 E3
  | ct=>exact fun π3 σ3 H3 e3 R3 E3=>k π3 σ3 H3 (e1.trans e3) R3 E3
  | rt d=>exact KC.after k e1
 exact Ks W kk .refl R1 (EN.mono e1) hm)⟩
theorem M9 {st:Stmt}{m m1 m2:MS}(h1:QS X st m1)(h2:QS X st m2)(h:∀ ρ μ r,m ρ μ=some r->m1 ρ μ=some r\/m2 ρ μ=some r):QS X st m:=⟨fun a5f s σ H D I q=>by
 obtain ⟨π,ρ,μ,fl,ρ',μ',R,E,hm,k⟩:=q
 rcases h ρ μ _ hm with z|z
 ·exact h1.h a5f s σ H D I ⟨π,ρ,μ,fl,ρ',μ',R,E,z,k⟩
 ·exact h2.h a5f s σ H D I ⟨π,ρ,μ,fl,ρ',μ',R,E,z,k⟩⟩
noncomputable def mJ (put:D->D->D->Hm->Option Hm)(o i v:ME):MS:=fun ρ μ=>(v ρ μ).bind fun p=>(o ρ p.2).bind fun q=>(i ρ q.2).bind fun r=>(put q.1 r.1 p.1 r.2).map fun μ'=>(.nx,ρ,μ')
noncomputable def pV:D->D->D->Hm->Option Hm
 | .loc a,.int i,d,μ=>match μ[a]? with
  | some (.lst xs)=>(jT xs.length i).map fun j=>μ.set a (.lst (xs.set j d))
  | _=>none
 | _,_,_,_=>none
noncomputable def pW:D->D->D->Hm->Option Hm
 | .loc a,y,d,μ=>match μ[a]? with
  | some (.dT kvs)=>(cS y).bind fun k=>if kvs.length<UM then some (μ.set a (.dT (cC kvs k d))) else none
  | _=>none
 | _,_,_,_=>none
noncomputable def mK:D->D->D->Hm->Option Hm:=fun o i d μ=>match o with
 | .loc a=>match μ[a]? with
  | some (.dT _)=>pW o i d μ
  | _=>pV o i d μ
 | _=>none
noncomputable def iA:=mJ mK
theorem CM {K:Ux}{π:Nat->Addr}{n:Nat}{H:Hp}:∀ {vs:List V}{ds:List D}(j:Nat){v:V}{d:D},IsDs K π n H vs ds->IsD K π n H v d->IsDs K π n H (vs.set j v) (ds.set j d)
 | _,_,j,_,_,.nil,h=>by simp;exact .nil
 | _,_,0,_,_,.cons _ t,h=>.cons h t
 | _,_,j+1,_,_,.cons h0 t,h=>.cons h0 (CM j t h)
noncomputable def Na (td ty tv:TE):TS:=fun D σ H=>tv σ H fun v H1=>td σ H1 fun x H2=>ty σ H2 fun y H3=>AQ x y v H3 fun H4=>D.nx σ H4
open PyProof.Rows in
theorem Nb {o i value:UO}{pos':Wl}{td ty tv:TE}(ho:PE X o td)(hi:PE X i ty)(hv:PE X value tv)(hs:Yx value (some (.Subscript o i pos')) pos.line X.env=pure false):PS X (.Assign [.Subscript o i pos'] value pos) (Na td ty tv):=by
 intro a5f s σ H D I h
 refine a2j (aU (hv a5f s σ H _ I h) fun r s1 ⟨v,H1,I1,rv,q1⟩=>aU (ho a5f s1 σ H1 _ I1 q1) fun u s2 ⟨x,H2,I2,rx,q2⟩=>aU (hi a5f s2 σ H2 _ I2 q2) fun iv s3 ⟨y,H3,I3,ry,q3⟩=>?_) hs
 exact aU (IQ a5f s3 σ H3 x y v u iv r _ I3 rx ry rv q3) fun _ s4 ⟨H4,I4,q4⟩=>⟨σ,H4,I4,q4⟩
theorem Nc {o i e:UO}{mo mi me:ME}{tpos:Wl}(ho:QE X o mo)(hi:QE X i mi)(he:QE X e me)(h:jZ e=true):QS X (.Assign [.Subscript o i tpos] e pos) (mJ pV mo mi me):=
 ⟨iN (Nb ho.h hi.h he.h (sE h)) (by
 rintro E σ H ⟨π,ρ,μ,fl,ρ',μ',R,EN,hm,k⟩
 obtain ⟨⟨x,μ1⟩,h1,hm⟩:=Uw.mp hm
 obtain ⟨⟨y,μ2⟩,h2,hm⟩:=Uw.mp hm
 obtain ⟨⟨z,μ3⟩,h3,hm⟩:=Uw.mp hm
 obtain ⟨μ4,h4,hm⟩:=UB.mp hm
 cases hm
 refine ⟨π,ρ,μ,x,μ1,R,EN,h1,fun π1 v1 H1 e1 R1 i1=>⟨π1,ρ,μ1,y,μ2,R1,EN.mono e1,h2,fun π2 v2 H2 e2 R2 i2=>⟨π2,ρ,μ2,z,μ3,R2,(EN.mono e1).mono e2,h3,fun π3 v3 H3 e3 R3 i3=>?_⟩⟩⟩
 dsimp only at h4
 cases y with
 | loc a=>
  cases z with
  | int i=>
   simp only [pV] at h4
   split at h4
   ·rename_i xs hx
    obtain ⟨j,h5,h6⟩:=UB.mp h4
    subst h6
    obtain ⟨vs,h7,h8⟩:=R3.lst _ xs hx
    have i2':=i2.mono e3
    cases i2'
    cases i3
    have hlt:=(UA.mp hx).1
    have iv:=(i1.mono e2).mono e3
    refine ⟨_,vs,i,j,rfl,rfl,h7,by rw [h8.length];exact h5,?_⟩
    obtain ⟨e4,R4⟩:=R3.put (c:=.lst (xs.set j x)) (o:=.lst (vs.set j v1)) hlt h7 (.inl ⟨vs,rfl⟩) (CM j h8 iv)
    exact k π3 σ _ (((e1.trans e2).trans e3).trans e4) R4 ((((EN.mono e1).mono e2).mono e3).mono e4)
   ·cases h4
  | _=>simp [pV] at h4
 | _=>simp [pV] at h4)⟩
theorem Nd {f f1 f2:D->D->D->Hm->Option Hm}{mo mi me:ME}(h:∀ x y z μ r,f x y z μ=some r->f1 x y z μ=some r\/f2 x y z μ=some r):∀ ρ μ r,mJ f mo mi me ρ μ=some r->mJ f1 mo mi me ρ μ=some r\/mJ f2 mo mi me ρ μ=some r:=by
 intro ρ μ r hm
 obtain ⟨p,h1,hm⟩:=Uw.mp hm
 obtain ⟨q,h2,hm⟩:=Uw.mp hm
 obtain ⟨t,h3,hm⟩:=Uw.mp hm
 obtain ⟨μ',h4,hm⟩:=UB.mp hm
 rcases h _ _ _ _ _ h4 with z|z
 ·exact .inl (Uw.mpr ⟨p,h1,Uw.mpr ⟨q,h2,Uw.mpr ⟨t,h3,UB.mpr ⟨μ',z,hm⟩⟩⟩⟩)
 ·exact .inr (Uw.mpr ⟨p,h1,Uw.mpr ⟨q,h2,Uw.mpr ⟨t,h3,UB.mpr ⟨μ',z,hm⟩⟩⟩⟩)
theorem CN {st:Stmt}{i:Nat}:QS X st (aV i bX):=⟨fun a5f s σ H D I q=>by
 obtain ⟨π,ρ,μ,fl,ρ',μ',R,E,hm,k⟩:=q
 cases hm⟩
end
end L3
namespace L3
open PySem L2
noncomputable def CO {α:Type}(xs:List α)(k:Nat)(d:α):List α:=xs.take k++d::xs.drop k
theorem Vals.ins {xs:List V}{us:List UC}(h:Vals xs us)(k:Nat){v:V}{u:UC}(r:RelV v u):Vals (CO xs k v) (CO us k u):=(h.take k).append (.cons r (h.drop k))
section
variable {X:Cx}
end
noncomputable def kW (μ:Hm)(x:D):List D->Option (List Bool)
 | []=>some []
 | y::r=>(b9 8 μ y x).bind fun b=>(kW μ x r).map fun c=>b::c
noncomputable def nY:D->List D->Hm->Option (D×Hm)
 | .loc a,[x],μ=>match μ[a]? with
  | some (.lst xs)=>(kW μ x xs).bind fun bs=>if bs.findIdx id<bs.length/\bs.length<=UM then some (.int (bs.findIdx id:Nat),μ) else none
  | _=>none
 | _,_,_=>none
noncomputable def CP (K:Ux):V->List V->Hp->VK->Prop:=fun x vs H Q=>∃ π μ a xs y dy bs,Rp K π H μ/\x=.ref (π a)/\vs=[y]/\μ[a]? = some (.lst xs)/\IsD K π μ.length H y dy/\kW μ dy xs=some bs/\bs.findIdx id<bs.length/\Q (.int (bs.findIdx id:Nat)) H
theorem Nf {K:Ux}:eJ K nY (CP K):=by
 intro π H μ x ds d μ' v vs Q R ix is hm k
 unfold nY at hm
 split at hm
 ·split at hm
  ·rename_i xs hx
   obtain ⟨bs,h1,hm⟩:=Uw.mp hm
   split at hm
   ·rename_i hb
    cases hm
    cases is with
    | cons i1 t1=>
     cases t1
     cases ix
     exact ⟨π,μ,_,xs,_,_,bs,R,rfl,rfl,hx,i1,h1,hb.1,k π _ H .refl R (.int _)⟩
   ·cases hm
  ·cases hm
 ·cases hm
section
variable {X:Cx}
theorem Ng {a5f:List (Addr×Wf)}{σ:St}{H:Hp}{s:UE}{π:Nat->Addr}{μ:Hm}(I:Inv X a5f σ H s)(R:Rp X.K π H μ){A:Vh}(hu:A.units+8<V3){x:V}{v:UC}{dx:D}(rx:RelV x v)(ix:IsD X.K π μ.length H x dx) :
  ∀ {ys:List D}{vs:List V}{us:List UC}{bs:List Bool},IsDs X.K π μ.length H vs ys->Vals vs us->kW μ dx ys=some bs->
   ∃ g:UC->Bool,(∀ u∈us,Y6 A s u v (g u))/\us.map g=bs:=by
 classical
 intro ys vs us bs hi hv hm
 have each:∀ {ys:List D}{vs:List V}{us:List UC}{bs:List Bool},IsDs X.K π μ.length H vs ys->Vals vs us->kW μ dx ys=some bs->(∀ u∈us,∃ c,Y6 A s u v c/\∃ w dy,RelV w u/\IsD X.K π μ.length H w dy/\b9 8 μ dy dx=some c):=by
  intro ys
  induction ys with
  | nil=>
   intro vs us b hi hv hm u hu'
   cases hi
   cases hv
   cases hu'
  | cons y ys ih=>
   intro vs us b hi hv hm u hu'
   cases hi with
   | cons h t=>
    cases hv with
    | cons r rt=>
     obtain ⟨c,h1,hm⟩:=Uw.mp hm
     obtain ⟨c2,h2,hm⟩:=UB.mp hm
     rcases U6.mp hu' with rfl|hu'
     ·exact ⟨c,rV I R 8 hu r rx h ix h1,_,_,r,h,h1⟩
     ·exact ih t rt h2 u hu'
 have ec:=each hi hv hm
 refine ⟨fun u=>if h:u∈us then Xp (ec u h) else false,fun u hu'=>?_,?_⟩
 ·simp only [dif_pos hu']
  exact (X1 (ec u hu')).1
 ·have key:∀ u (h:u∈us) w dy c,RelV w u->IsD X.K π μ.length H w dy->b9 8 μ dy dx=some c->Xp (ec u h)=c:=by
   intro u h w dy c rw' iw ew
   obtain ⟨_,w2,dy2,r2,i2,e2⟩:=X1 (ec u h)
   have:w2=w:=r2.inj rw'
   subst this
   have:=v9 I R i2 iw
   subst this
   rw [e2] at ew
   exact U9 ew
  have main:∀ {ys:List D}{vs:List V}{us':List UC}{bs:List Bool},(∀ u∈us',u∈us)->IsDs X.K π μ.length H vs ys->Vals vs us'->kW μ dx ys=some bs->us'.map (fun u=>if h:u∈us then Xp (ec u h) else false)=bs:=by
   intro ys
   induction ys with
   | nil=>
    intro vs us' b hs hi hv hm
    cases hi
    cases hv
    cases hm
    rfl
   | cons y ys ih=>
    intro vs us' b hs hi hv hm
    cases hi with
    | cons h t=>
     cases hv with
     | @cons _ u _ us2 r rt=>
      obtain ⟨c,h1,hm⟩:=Uw.mp hm
      obtain ⟨c2,h2,hm⟩:=UB.mp hm
      have eP:u∈us:=hs u (U2 ..)
      rw [UQ,ih (fun z hz=>hs z (UX _ hz)) t rt h2,dif_pos eP,key u eP _ _ c r h h1]
      exact hm
  exact main (fun _ h=>h) hi hv hm
theorem Nh (hu:X.A.units+20<V3):eU X "list.index" (CP X.K):=by
 intro a5f s σ H x vs v us Q I rx rv h
 obtain ⟨π,μ,a,xs,y,dy,bs,R,rfl,rfl,hx,iy,he,hf,q⟩:=h
 cases rx
 obtain ⟨u,rfl,ru⟩:=rv.one
 obtain ⟨ws,hH,hd⟩:=R.lst a xs hx
 obtain ⟨z,its,n,r,hl,e⟩:=I.lstM hH
 obtain ⟨g,g1,g2⟩:=Ng I R (A:=X.A.in1) (by rw [kP];omega) ru iy hd r he
 have hlen:bs.length=its.length:=by rw [<- g2,Uz]
 have hj:bs.findIdx id<its.toArray.size:=by rw [US,<- hlen];exact hf
 have hget:∀ m (hm:m<its.length),bs[m]? = some (g its[m]):=fun m hm=>by
  rw [<- g2,Vd,UW hm];rfl
 have small:((bs.findIdx id:Nat):Int)<2 ^ 63 - 1:=by
  have h1:bs.findIdx id<its.length:=by simpa using hj
  have h2:=kK
  have h3:(bs.findIdx id:Nat)<UM:=by omega
  have h4:((UM:Nat):Int)<=2 ^ 63 - 1:=by decide
  omega
 refine XN F.slot_list_index ⟨_,e,rfl⟩ F.entry_list_index (F.args_list_index_2 _ _) (SeqAt.list_indexAt (π a) its.toArray n none #[] u g (bs.findIdx id) hj small ?_ ?_) ⟨e,fun y hy=>g1 y (by simpa using hy),⟨.int (bs.findIdx id:Nat),H,I.tok _,⟨_,rfl⟩,q⟩⟩
 ·have h1:bs.findIdx id<its.length:=by simpa using hj
  have h2:=List.findIdx_getElem (p:=id) (xs:=bs) (w:=hf)
  have h3:=hget _ h1
  rw [UW hf] at h3
  have h4:=U9 h3
  rw [h4] at h2
  simpa using h2
 ·intro m hm hlt
  have h1:m<its.length:=by simpa using hm
  have h2:=List.not_of_lt_findIdx (p:=id) (xs:=bs) hlt
  have h3:=hget _ h1
  have hb:m<bs.length:=by omega
  rw [UW hb] at h3
  have h4:=U9 h3
  rw [h4] at h2
  simpa using h2
end
section
variable {X:Cx}{e o:UO}{mo:ME}{apos cpos:Wl}{es:List UO}{ms:MA}{n:Nat}
end
noncomputable def fN (is:List Int):List Int:=is.mergeSort fun a b=>decide (a<=b)
theorem Ni {is ns:List Int}(hp:ns.Perm is)(hs:ns.Pairwise (·<=·)):ns=fN is:=by
 have h1:(fN is).Perm is:=List.mergeSort_perm _ _
 have h2:(fN is).Pairwise (·<=·):=by
  have:=List.pairwise_mergeSort (le:=fun a b:Int=>decide (a<=b)) (fun a b c h1 h2=>by simp only [decide_eq_true_eq] at *;omega) (fun a b=>by simp only [Xi,decide_eq_true_eq];omega) is
  exact this.imp fun h=>by simpa using h
 exact a0n (le:=fun a b:Int=>a<=b) (fun a b _ _ h1 h2=>by omega) hs h2 (hp.trans h1.symm)
noncomputable def mL:MF:=fun ds μ=>match ds with
 | [x]=>(dW μ x).bind fun xs=>(kR xs).bind fun is=>if is.length<64 then some (.loc μ.length,μ++[.lst ((fN is).map D.int)]) else none
 | _=>none
noncomputable def wY (K:Ux):List V->Hp->VK->Prop:=fun xs H Q=>∃ (p:Addr)(is:List Int),xs=[.ref p]/\SqL K H p (is.map V.int)/\is.length<64/\∀ l,H l=none->Q (.ref l) (aK H l (.lst ((fN is).map V.int)))
theorem Nj {K:Ux}:dC K mL (wY K):=by
 intro π H μ xs d μ' vs Q R i hm k
 unfold mL at hm
 split at hm
 ·obtain ⟨ys,h1,hm⟩:=Uw.mp hm
  obtain ⟨is,h2,hm⟩:=Uw.mp hm
  split at hm
  ·rename_i hb
   cases hm
   cases i with
   | cons i t=>
    cases t
    obtain ⟨p,ws,rfl,q,hd⟩:=mF R i h1
    rw [sM h2] at hd
    have:=ints_of' hd
    subst this
    refine ⟨p,is,rfl,q,hb,fun l hl=>?_⟩
    obtain ⟨e2,R2,_⟩:=R.alloc (c:=.lst ((fN is).map D.int)) (o:=.lst ((fN is).map V.int)) hl (wO _)
    exact k _ _ _ e2 R2 eM
  ·cases hm
 ·cases hm
theorem call_sortI {X:Cx}:CallR X (.builtin "sorted") (wY X.K):=by
 intro a5f s σ H xs us Q I r h
 obtain ⟨p,is,rfl,hq,h64,k⟩:=h
 obtain ⟨u,rfl,ru⟩:=eB r
 cases ru
 obtain ⟨its,rv,pl,hz⟩:=I.list hq
 have hlen:=rv.length
 rw [Uz] at hlen
 refine a4s pl.isList (u5 rv) (by omega) fun out ns' a1 a2 a3=>?_
 obtain ⟨e,he⟩:=ZS s.heap its out
 have hn:H (s.heap.objs.size+1)=none:=I.hok.fresh (Yr _)
 have e1:ns'=fN is:=Ni a2 a3
 subst e1
 refine ⟨.ref (s.heap.objs.size+1),_,I.laid (t':=s.toks) (a:=s.heap.objs.size+1) (o:=.lst ((fN is).map V.int)) (fun b ob z=>ZL z) (Yr _) ?_,rfl,k _ hn⟩
 have hl2:(fN is).length<=UM:=by
  have:=a2.length_eq
  have h5:=U4
  omega
 refine ⟨by rw [Uz];exact hl2,out.toList,e,vA a1,?_⟩
 rw [he]
noncomputable def jG:MF:=fun ds μ=>match mL ds μ with
 | some r=>some r
 | none=>pS ds μ
theorem Nk {K:Ux}:dC K jG (fun xs H Q=>wY K xs H Q\/wN K xs H Q):=by
 intro π H μ xs d μ' vs Q R i hm k
 unfold jG at hm
 split at hm
 ·rename_i r hr
  cases hm
  exact .inl (Nj π H μ xs d μ' vs Q R i hr k)
 ·exact .inr (MB π H μ xs d μ' vs Q R i hm k)
end L3
namespace L3
open PySem L2
section
variable {prog:Va}{w:Vu}{A:Vh}{E:UC->UE->Prop}{s:UE}{r:Addr}{Q:Bool->UE->Prop}
theorem Nl:Zq (.type "list_reverseiterator") "__len__" = pure none:=by rw [Zy,Ys];kernel_rfl
theorem Nm:Zq (.type "list_reverseiterator") "__length_hint__" = pure (some (.builtin "list_reverseiterator.__length_hint__")):=by rw [Zy,Ys];kernel_rfl
theorem Nn (hT:s.TypeIs (.ref r) "list_reverseiterator") (h:Q false s):U3 (U8 prog w) A (ZJ (.ref r)) Q E s:=by
 unfold ZJ
 refine Uy (X5 hT Nl ?_)
 dsimp only
 refine Xv (fun hab=>absurd hab (by decide +kernel)) (fun _=>?_)
 refine Xv (fun hab=>absurd hab (by decide)) (fun _=>?_)
 refine Uy (X5 hT Nm ?_)
 generalize bL:("list_reverseiterator.__length_hint__":String)=id0
 wp_delta
 rw [show splitId id0=some ("list_reverseiterator","__length_hint__") from by subst bL;decide +kernel]
 subst bL
 refine Uy (XS (T:="list_reverseiterator") (b:=true) hT (by rw [isSubtype_type];kernel_rfl) ?_)
 refine Xv (fun hab=>absurd hab (by decide)) (fun _=>?_)
 refine Xv (fun _=>?_) (fun hab=>absurd (by decide +kernel) hab)
 refine Xv (fun hab=>absurd hab (by decide +kernel)) (fun _=>?_)
 exact UG h
end
section
variable {prog:Va}{w:Vu}{A:Vh}{E:UC->UE->Prop}{s:UE}{p a:Addr}{its:Array UC}
theorem Np {R:a0l->UE->Prop}(hh:A.handled=none)(hit:s.heap.IsRevIter p a ((its.size:Int) - 1))(hl:s.heap.IsList a its)(hap:a≠p)(S:Addr)(hSr:S≠p)(hSd:S≠a)(res:UC)(c₀:Nat)(hS:s.heap.get? S=some { cls:=.type "list",data:=.seq #[] c₀ })
  (hR:∀ h' tk acc' c',(∀ b o,b≠S->b≠p->s.heap.get? b=some o->h'.get? b=some o)->h'.get? S=some { cls:=.type "list",dict:=none,data:=.seq acc' c',slots:=#[] }->ItemsOf (fun i v=>its[its.size - 1 - i]? = some v) acc' its.size->R (.ok (.ret res)) { s with heap:=h',toks:=tk }) (hn:its.size<=UM) :
  U3 (U8 prog w) A.in1 (Wc (.ref S) (.ref p) res)
   (fun fin s'=>match fin with|.done f=>R (.ok f) s'|.again c'=>c'.quiet=true/\X7 (U8 prog w) A c' R s') (fun e s'=>R (.error e) s') s:=by
 have hSf:S∉[p,a]:=by simp only [U6,W4,or_false,not_or];exact ⟨hSr,hSd⟩
 have W:=Walks.listRev (prog:=prog) (w:=w) (A:=A.in1) hh p a hap its
 have key:∀ (h:VL)(c₁ tk:Nat),h.IsRevIter p a ((its.size:Int) - 1)->h.IsList a its->(∀ b o,b≠S->s.heap.get? b=some o->h.get? b=some o)->
   h.get? S=some { cls:=.type "list",data:=.seq #[] c₁ }->X7 (U8 prog w) A (.builtin "list.extend.loop" ⟨[.ref S,.ref p,res],[]⟩) R { s with heap:=h,toks:=tk }:=by
  intro h c₁ tk hst hst2 hk hS₁
  refine codeAny_extend_loopS W.toS hn S hSf res its.size 0 _ #[] c₁ rfl (Vk _) ⟨Vk _,by simpa using hst,hst2⟩ hS₁ (ItemsOf.nil _) fun s' acc' c' hm hS' hacc=>?_
  rw [Moved.eq_with hm]
  refine hR s'.heap s'.toks acc' c' (fun b o hb hbp e=>hm.heap b o (fun hmem=>?_) (hk b o hb e)) hS' hacc
  rcases U6.mp hmem with e'|hmem
  ·exact hb e'
  ·exact hbp (Vp.mp hmem)
 unfold Wc
 refine Uy (YO (T:="list_reverseiterator") hit.typeIs ?_)
 have h1:Xs (.ref S) (.ref p)=false:=by simp [Xs,hSr]
 have h2:(Wv "list_reverseiterator" == Wv "list")=false:=by decide +kernel
 have h3:(Wv "list_reverseiterator" == Wv "tuple")=false:=by decide +kernel
 simp only [h1,h2,h3,ZK,UN,if_false]
 refine Uy (wpAny_pyIter_revIter hit ?_)
 refine Uy (Vy (Nn hit.typeIs ?_))
 refine Xv (fun hab=>absurd hab (by decide +kernel)) (fun _=>UG ⟨W9 PySem.F.plain_extend_loop _,?_⟩)
 exact key _ c₀ s.toks hit hl (fun b o _ e=>e) hS
theorem Nq {R:a0l->UE->Prop}(hh:A.handled=none)(hit:s.heap.IsRevIter p a ((its.size:Int) - 1))(hl:s.heap.IsList a its)(hap:a≠p)(S:Addr)(hSr:S≠p)(hSd:S≠a)(hS:s.heap.get? S=some { cls:=.type "list",data:=.seq #[] })
  (hR:∀ h' tk acc' c',(∀ b o,b≠S->b≠p->s.heap.get? b=some o->h'.get? b=some o)->h'.get? S=some { cls:=.type "list",dict:=none,data:=.seq acc' c',slots:=#[] }->ItemsOf (fun i v=>its[its.size - 1 - i]? = some v) acc' its.size->R (.ok (.ret .none)) { s with heap:=h',toks:=tk }) (hn:its.size<=UM) :
  U3 (U8 prog w) A.in1 (Builtin.«list.__init__» ⟨[.ref S,.ref p],[]⟩)
   (fun fin s'=>match fin with|.done f=>R (.ok f) s'|.again c'=>c'.quiet=true/\X7 (U8 prog w) A c' R s') (fun e s'=>R (.error e) s') s:=by
 show U3 _ _ (do let old <- a0g (.ref S);a4J (.ref S) (fun _=>#[]);letGo old.toList.reverse;Wc (.ref S) (.ref p) .none) _ _ s
 refine Uy ?_
 unfold a0g
 refine Uy (wpAny_seqItems hS rfl (UG ?_))
 show U3 _ _ (a3W S (fun _=>#[]) >>= fun _=>letGo (#[]:Array UC).toList.reverse >>= fun _=>Wc (.ref S) (.ref p) .none) _ _ s
 refine Uy (Zv hS rfl ?_)
 have hS₂:=V2 (VW (fun _=>(#[]:Array UC))) hS rfl
 have c5:∀ b o,b≠S->s.heap.get? b=some o->(s.heap.update S (VW (fun _=>(#[]:Array UC)))).get? b=some o:=
  fun b o hb e=>(V7 _ _ (VH hb)).trans e
 refine Uy (a2S ?_)
 refine Np hh (hit.at fun o e=>c5 p o (VH hSr) e) (let ⟨o,ho,x⟩:=hl;⟨o,c5 a o (VH hSd) ho,x⟩) hap S hSr hSd .none _ hS₂ (fun h' tk acc' c' hk hS' hacc=>?_) hn
 exact hR h' tk acc' c' (fun b o hb hb2 e=>hk b o hb hb2 (c5 b o hb e)) hS' hacc
theorem Nr {Q:UC->UE->Prop}(hh:A.handled=none)(hit:s.heap.IsRevIter p a ((its.size:Int) - 1))(hl:s.heap.IsList a its)(hap:a≠p)(hn:its.size<=UM)
  (hQ:∀ h' tk acc' c',(∀ b o,b≠p->s.heap.get? b=some o->h'.get? b=some o)->h'.get? s.heap.objs.size=some { cls:=.type "list",dict:=none,data:=.seq acc' c',slots:=#[] }->ItemsOf (fun i v=>its[its.size - 1 - i]? = some v) acc' its.size->Q (.ref s.heap.objs.size) { s with heap:=h',toks:=tk }) :
  U3 (U8 prog w) A (call (.type "list") [.ref p]) Q E s:=by
 refine ZQ (Q₁:=fun obj s₁=>obj=.ref s.heap.objs.size/\s₁ = { s with heap:=s.heap.push { cls:=.type "list",data:=.seq #[] } }) PySem.F.called_list (PySem.F.typeCall_list_1 _) PySem.F.entry_list_init
  (code_list_new _ ⟨rfl,rfl⟩) fun obj s₁ h₁=>?_
 obtain ⟨rfl,rfl⟩:=h₁
 have hS:(s.heap.push { cls:=.type "list",data:=.seq #[] }).get? s.heap.objs.size=some { cls:=.type "list",data:=.seq #[] }:=UT _ rfl
 have hp:p<s.heap.objs.size:=let ⟨o,ho,_⟩:=hit;UK ho
 have ha:a<s.heap.objs.size:=let ⟨o,ho,_⟩:=hl;UK ho
 refine ⟨⟨_,hS,rfl⟩,PySem.F.args_list_init_2 _ _,Nq (A:=A.in1) hh (hit.at fun o e=>UD _ e) (let ⟨o,ho,x⟩:=hl;⟨o,UD _ ho,x⟩) hap _ (Wh hp) (Wh ha) hS (fun h' tk acc' c' hk hS' hacc=>?_) hn⟩
 exact ⟨rfl,hQ h' tk acc' c' (fun b o hb e=>hk b o (UY (UK e)) hb (UD _ e)) hS' hacc⟩
end
noncomputable def CQ (K:Ux):List V->Hp->VK->Prop:=fun xs H Q=>∃ (p:Addr)(ys:List V),xs=[.ref p]/\SqL K H p ys/\∀ l,H l=none->Q (.ref l) (aK H l (.lst ys.reverse))
theorem CS:∀ {ys:List V}{its:List UC},Vals ys its->Vals ys.reverse its.reverse
 | _,_,.nil=>.nil
 | _,_,.cons h t=>by
  rw [Xn,Xn]
  exact (CS t).append (.cons h .nil)
theorem Nt {X:Cx}{e:UO}{t:TA}{p p2 pos pos2:Wl}(hc:X.calm=true)(hg:Gl X "list") (hm:X.mg "list" = none) (hg2:Gl X "reversed") (hm2:X.mg "reversed" = none) (ha:PA X [e] t)(hs:Vj [e] X.env=(false,eval e X.env)::Vj [] X.env) :
  PE X (.Call (.Name "list" p) [.Call (.Name "reversed" p2) [e] [] pos2] [] pos) (rL (CQ X.K) t):=by
 intro a5f s σ H Q I h
 refine Wx (iM I hg hm Yb ?_ (by decide) (by decide))
 refine V0 ?_ rfl rfl
 show U3 _ _ (spliced ((false,eval (.Call (.Name "reversed" p2) [e] [] pos2) X.env)::W0 pos (Vj [] X.env))) _ _ s
 refine YE (Wx (iM I hg2 hm2 a2u ?_ (by decide) (by decide)))
 refine V0 (aU (ha pos2 a5f s σ H _ I h) fun us s1 ⟨vs,H1,I1,r1,q1⟩=>?_) hs rfl
 obtain ⟨q,ys,rfl,hq,k⟩:=q1
 obtain ⟨u,rfl,ru⟩:=eB r1
 cases ru
 obtain ⟨its,r',pl,hz⟩:=I1.list hq
 have hlen:=r'.length
 have hl:=pl.isList
 have hq1:q<s1.heap.objs.size:=let ⟨o,ho,_⟩:=hl;UK ho
 refine call_reversed_list hl ?_
 refine YN ?_
 refine Nr (I1.ok.hd hc) (p:=s1.heap.objs.size) (a:=q) (its:=its.toArray) ⟨_,UT _ rfl,rfl,rfl⟩ (let ⟨o,ho,x⟩:=hl;⟨o,UD _ ho,x⟩) (UY hq1) (by simp only [US]<;>omega) fun h' tk acc' c' kp hS hacc=>?_
 have hac:acc'.toList=its.reverse:=by
  refine YU fun i=>?_
  have hn:acc'.size=its.length:=by simpa using hacc.1
  by_cases hi:i<its.length
  ·have h1:=hacc.2 i acc'[i] (XG (by omega))
   rw [Wb,XG (by omega),<- h1,List.getElem?_reverse hi,US,List.getElem?_toArray]
  ·rw [WN (by rw [WD];omega),WN (by rw [ZC];omega)]
 have hsz:(s1.heap.push (revObj q ((its.toArray.size:Int) - 1))).objs.size=s1.heap.objs.size+1:=by simp [Heap.push]
 rw [hsz] at hS ⊢
 refine ⟨.ref (s1.heap.objs.size+1),_,I1.laid (t':=tk) (a:=s1.heap.objs.size+1) (o:=.lst ys.reverse) (fun b o e=>kp b o (UY (UK e)) (UD _ e)) (by omega) ⟨by rw [ZC];exact hz,its.reverse,c',CS r',by rw [<- hac];simpa using hS⟩,rfl,k _ (I1.hok.fresh (by omega))⟩
noncomputable def kX:MF:=fun ds μ=>match ds with
 | [.loc a]=>match μ[a]? with
  | some (.lst xs)=>some (.loc μ.length,μ++[.lst xs.reverse])
  | _=>none
 | _=>none
theorem Nu {K:Ux}:dC K kX (CQ K):=by
 intro π H μ xs d μ' vs Q R i hm k
 unfold kX at hm
 split at hm
 ·rename_i a
  split at hm
  ·rename_i ys hy
   cases hm
   cases i with
   | cons i t=>
    cases t
    cases i
    obtain ⟨ws,h1,h2⟩:=R.lst a ys hy
    refine ⟨_,ws,rfl,.of h1,fun l hl=>?_⟩
    obtain ⟨e2,R2,_⟩:=R.alloc (c:=.lst ys.reverse) (o:=.lst ws.reverse) hl (B7 h2)
    exact k _ _ _ e2 R2 eM
  ·cases hm
 ·cases hm
theorem Nv {X:Cx}{e:UO}{ms:MA}{n:Nat}{p p2 pos pos2:Wl}(hc:X.calm=true)(hm1:X.mg "list" = none) (hm2:X.mg "reversed" = none) (ha:QA X [e] ms n)(hg1:Gl X "list") (hg2:Gl X "reversed") :
  QE X (.Call (.Name "list" p) [.Call (.Name "reversed" p2) [e] [] pos2] [] pos) (aG kX ms):=by
 have hs:=ha.s
 rw [Vo,UL] at hs
 exact ⟨cO (Nt hc hg1 hm1 hg2 hm2 ha.h (eY hs.1)) (vH Nu)⟩
end L3
namespace L3
open PySem L2
end L3
namespace L3
open PySem L2
noncomputable abbrev bQ:=List (List Int×Addr×V)
noncomputable def bM (ps:bQ)(ws:List UC):List (List Int×Addr×UC):=ZV (fun p w=>(p.1,p.2.1,w)) ps ws
theorem sT {P:Va}{w:Vu}:∀ (ps:bQ)(ws:List UC),ZV vE ps ws=(bM ps ws).map (a3u (Wu (WL P w)))
 | [],_=>by simp [bM]
 | p::ps,[]=>by simp [bM]
 | p::ps,u::ws=>by
  have ih:=sT (P:=P) (w:=w) ps ws
  unfold bM at ih ⊢
  rw [Vs,Vs,UQ,ih]
  rfl
theorem kC:∀ {ps:bQ}{ws:List UC},Vals (ps.map (·.2.2)) ws->(bM ps ws).map (·.1)=ps.map (·.1)
 | [],_,_=>by simp [bM]
 | p::ps,_,.cons r t=>by
  have ih:=kC (ps:=ps) t
  unfold bM at ih ⊢
  rw [Vs,UQ,UQ,ih]
theorem CT:∀ {ps:bQ}{ws:List UC}{x:List Int×Addr×UC},x∈bM ps ws->∃ p∈ps,p.1=x.1/\p.2.1=x.2.1
 | [],_,x,h=>by simp [bM] at h
 | p::ps,[],x,h=>by simp [bM] at h
 | p::ps,u::ws,x,h=>by
  unfold bM at h
  rw [Vs] at h
  rcases U6.mp h with e|h
  ·subst e;exact ⟨p,U2 ..,rfl,rfl⟩
  ·obtain ⟨q,hq,e⟩:=CT (ps:=ps) (ws:=ws) h
   exact ⟨q,UX _ hq,e⟩
noncomputable def dO (ps:bQ)(k:List Int):Option V:=(ps.find? fun p=>decide (p.1=k)).map (·.2.2)
noncomputable def cY (ps:bQ)(k:List Int)(b:Addr)(v:V):bQ:=if (dO ps k).isSome then ps.map (fun p=>if p.1=k then (p.1,p.2.1,v) else p) else ps++[(k,b,v)]
theorem kY:∀ {ps:bQ}{ws:List UC},Vals (ps.map (·.2.2)) ws->∀ k,RelO (dO ps k) ((Yl (bM ps ws) k).map (·.2))
 | [],_,.nil,k=>by simp [dO,bM,Yl];exact WZ
 | p::ps,_,.cons r t,k=>by
  have ih:=kY (ps:=ps) t k
  unfold dO Yl bM at ih ⊢
  rw [Vs,VE,VE]
  by_cases e:p.1=k
  ·simp only [e,decide_true]
   exact r
  ·simp only [e,decide_false]
   exact ih
theorem pX (ps:bQ)(k:List Int)(b:Addr)(v:V):(cY ps k b v).length<=ps.length+1:=by
 unfold cY;split<;>simp
theorem CU {k:List Int}{v:V}{u:UC}(ru:RelV v u):∀ {ps:bQ}{ws:List UC},Vals (ps.map (·.2.2)) ws->
  ∃ ws',Vals ((ps.map fun p=>if p.1=k then (p.1,p.2.1,v) else p).map (·.2.2)) ws'/\(bM ps ws).map (putAt k u)=bM (ps.map fun p=>if p.1=k then (p.1,p.2.1,v) else p) ws'
 | [],_,.nil=>⟨[],.nil,by simp [bM]⟩
 | p::ps,_,.cons (b:=w) r t=>by
  obtain ⟨ws',h1,h2⟩:=CU ru (ps:=ps) t
  by_cases e:p.1=k
  ·refine ⟨u::ws',?_,?_⟩
   ·rw [UQ,UQ,if_pos e]
    exact .cons ru h1
   ·unfold bM at h2 ⊢
    rw [Vs,UQ,h2,UQ,if_pos e,Vs]
    unfold putAt
    rw [if_pos e]
  ·refine ⟨w::ws',?_,?_⟩
   ·rw [UQ,UQ,if_neg e]
    exact .cons r h1
   ·unfold bM at h2 ⊢
    rw [Vs,UQ,h2,UQ,if_neg e,Vs]
    unfold putAt
    rw [if_neg e]
theorem CV {k:List Int}{b:Addr}{v:V}{u:UC}:∀ {ps:bQ}{ws:List UC},Vals (ps.map (·.2.2)) ws->bM ps ws++[(k,b,u)]=bM (ps++[(k,b,v)]) (ws++[u])
 | [],_,.nil=>by simp [bM]
 | p::ps,_,.cons r t=>by
  have ih:=CV (k:=k) (b:=b) (v:=v) (u:=u) (ps:=ps) t
  unfold bM at ih ⊢
  rw [Vs,Vc,ih,Vc,Vc,Vs]
theorem wZ {ps:bQ}{ws:List UC}(r:Vals (ps.map (·.2.2)) ws)(k:List Int)(b:Addr){v:V}{u:UC}(ru:RelV v u) :
  ∃ ws',Vals ((cY ps k b v).map (·.2.2)) ws'/\a3H (bM ps ws) k b u=bM (cY ps k b v) ws':=by
 have e:=(kY r k).isSome_eq
 rw [YH] at e
 unfold cY a3H
 rw [e]
 by_cases h:(Yl (bM ps ws) k).isSome=true
 ·rw [if_pos h,if_pos h]
  exact CU ru r
 ·rw [if_neg h,if_neg h]
  refine ⟨ws++[u],?_,CV r⟩
  rw [Vb]
  exact a3y r ru
section
variable {X:Cx}{a5f:List (Addr×Wf)}{σ:St}{H:Hp}{s:UE}{a:Addr}{ps:bQ}
noncomputable def cU (K:Ux)(H:Hp)(ps:bQ):Prop:=∀ p∈ps,SqT K H p.2.1 (p.1.map V.int)
theorem iB (I:Inv X a5f σ H s)(e:Rd H a (aO a ps))(hk:cU X.K H ps):(a == VO)=false/\ps.length<=UM /\
  ∃ ws,Vals (ps.map (·.2.2)) ws/\s.heap.DictOfH (Wu (WL X.prog X.w)) a (bM ps ws):=by
 obtain ⟨⟨ws,r,hs,hl,o,es,ep,h1,h2,h3,h4,h5⟩,_⟩:=(show ObjOk X.prog X.w H s.heap a (aO a ps) from e.ok I.hok)
 refine ⟨hs,hl,ws,r,o,es,ep,h1,h2,h3,by rw [h4];exact sT ps ws,fun x hx=>?_,by rw [kC r];exact h5⟩
 obtain ⟨p,hp,e1,e2⟩:=CT hx
 rw [<- e1,<- e2]
 exact j8 I (hk p hp)
theorem pY {P:Va}{w:Vu}{H':Hp}{h':VL}{ws:List UC}(hs:(a == VO)=false)(hl:ps.length<=UM)(r:Vals (ps.map (·.2.2)) ws)(d:h'.DictOfH (Wu (WL P w)) a (bM ps ws)):ObjOk P w H' h' a (aO a ps):=by
 obtain ⟨o,es,ep,h1,h2,h3,h4,_,h5⟩:=d
 refine ⟨⟨ws,r,hs,hl,o,es,ep,h1,h2,h3,by rw [h4,sT (P:=P) (w:=w)],by rw [<- kC r];exact h5⟩,⟨o,h1⟩,?_⟩
 rintro g1 g2 ⟨ws,r,hs,hl,o,es,ep,h1,h2,h3,h4,h5⟩ hh
 exact ⟨ws,r,hs,hl,o,es,ep,hh o h1,h2,h3,h4,h5⟩
theorem Nw (I:Inv X a5f σ H s)(e:Rd H a (aO a ps))(hk:cU X.K H ps):s.TypeIs (.ref a) "dict":=by
 obtain ⟨_,_,ws,_,d⟩:=iB I e hk
 exact d.typeIs
theorem kZ {A:Vh}(hu:A.units+1<V3):(Wu (WL X.prog X.w)).room A.in1:=by
 show A.in1.units<V3
 rw [kP];omega
variable {A:Vh}{E:UC->UE->Prop}{b:Addr}{k:List Int}{v:V}
theorem Nx {Q:UC->UE->Prop}(hu:A.units+1<V3)(I:Inv X a5f σ H s)(e:Rd H a (aO a ps))(hk:cU X.K H ps)(hb:SqT X.K H b (k.map V.int))(hv:dO ps k=some v)
  (h:∀ w' s',Inv X a5f σ H s'->RelV v w'->Q w' s'):U3 (U8 X.prog X.w) A (a1p (.ref a) (.ref b)) Q E s:=by
 obtain ⟨hs,hl,ws,r,d⟩:=iB I e hk
 obtain ⟨w',hw,rw'⟩:=RelO.some_of (v:=v) (o:=(Yl (bM ps ws) k).map (·.2)) (by rw [<- hv];exact kY r k)
 obtain ⟨p,hp,hp2⟩:=UB.mp hw
 refine wpAny_getItem_heap (kZ hu) (j8 I hb) d hp ?_
 rw [hp2]
 exact h w' _ (I.tok _) rw'
theorem Ny {Q:UC->UE->Prop}(hu:A.units+1<V3)(I:Inv X a5f σ H s)(e:Rd H a (aO a ps))(hk:cU X.K H ps)(hb:SqT X.K H b (k.map V.int))
  (h:∀ s',Inv X a5f σ H s'->Q (.bool (dO ps k).isSome) s'):U3 (U8 X.prog X.w) A (VD .In (.ref b) (.ref a)) Q E s:=by
 obtain ⟨hs,hl,ws,r,d⟩:=iB I e hk
 refine wpAny_in_heap (kZ hu) (j8 I hb) hs d ?_
 have q:=(kY r k).isSome_eq
 rw [YH] at q
 rw [<- q]
 exact h _ (I.tok _)
theorem Nz {Q:UC->UE->Prop}(hu:A.units+1<V3)(I:Inv X a5f σ H s)(e:Rd H a (aO a ps))(hk:cU X.K H ps)(hb:SqT X.K H b (k.map V.int))
  (h:∀ s',Inv X a5f σ H s'->Q (.bool (!(dO ps k).isSome)) s'):U3 (U8 X.prog X.w) A (VD .NotIn (.ref b) (.ref a)) Q E s:=by
 obtain ⟨hs,hl,ws,r,d⟩:=iB I e hk
 refine a4r (kZ hu) (j8 I hb) hs d ?_
 have q:=(kY r k).isSome_eq
 rw [YH] at q
 rw [<- q]
 exact h _ (I.tok _)
theorem NA {Q:Unit->UE->Prop}{u:UC}(hu:A.units+1<V3)(I:Inv X a5f σ H s)(e:H a=some (aO a ps))(hk:cU X.K H ps)(hb:SqT X.K H b (k.map V.int))(hz:ps.length<UM)(ru:RelV v u)
  (h:∀ s',Inv X a5f σ (aK H a (aO a (cY ps k b v))) s'->Q () s'):U3 (U8 X.prog X.w) A (setItem (.ref a) (.ref b) u) Q E s:=by
 obtain ⟨hs,hl,ws,r,d⟩:=iB I (.of e) hk
 have hx:(bM ps ws).length<=UM:=by
  have:=congrArg Vq (kC r)
  rw [Uz,Uz] at this
  omega
 refine wpAny_setItem_heap (hsz:=hx) (kZ hu) (j8 I hb) d fun h' d' hs'=>h _ ?_
 obtain ⟨ws',r',ex⟩:=wZ r k b ru
 rw [ex] at d'
 have he:∃ q,h'.get? a=some q:=let ⟨q,_,_,hq,_⟩:=d';⟨q,hq⟩
 exact rN I (by rw [e];exact WZ) hs' he (pY hs (by have:=pX ps k b v;omega) r' d')
end
noncomputable def IsTs (K:Ux)(π:Nat->Addr)(n:Nat)(H:Hp):bQ->List (List Int×D)->Prop:=Yo fun p q=>p.1=q.1/\SqT K H p.2.1 (p.1.map V.int)/\IsD K π n H p.2.2 q.2
section
variable {K:Ux}{π:Nat->Addr}{n:Nat}{H:Hp}{μ:Hm}
theorem NC {b:Addr}{k:List Int}(h:IsD K π n H (.ref b) (.tup (k.map D.int))):SqT K H b (k.map V.int):=by
 cases h with
 | tup q t=>rw [ints_of' t] at q;exact q
theorem IsTs.of:∀ {ps:bQ}{kvs:List (List Int×D)},ps.map (·.1)=kvs.map (·.1)->IsDs K π n H (ps.map fun p=>V.ref p.2.1) (kvs.map fun k=>D.tup (k.1.map D.int))->IsDs K π n H (ps.map (·.2.2)) (kvs.map (·.2))->IsTs K π n H ps kvs
 | [],[],_,_,_=>.nil
 | [],_::_,h,_,_=>by cases h
 | _::_,[],h,_,_=>by cases h
 | p::ps,q::kvs,h,h2,h3=>by
  cases h2 with
  | cons k1 k2=>
   cases h3 with
   | cons v1 v2=>
    rw [UQ,UQ,ZT] at h
    refine .cons ⟨h.1,?_,v1⟩ (IsTs.of h.2 k2 v2)
    rw [h.1]
    exact NC k1
theorem IsTs.keys:∀ {ps:bQ}{kvs:List (List Int×D)},IsTs K π n H ps kvs->cU K H ps
 | _,_,.nil=>fun p hp=>nomatch hp
 | _,_,.cons h t=>fun p hp=>by
  rcases U6.mp hp with e|hp
  ·subst e;exact h.2.1
  ·exact IsTs.keys t p hp
theorem IsTs.to:∀ {ps:bQ}{kvs:List (List Int×D)},IsTs K π n H ps kvs->ps.map (·.1)=kvs.map (·.1)/\IsDs K π n H (ps.map fun p=>V.ref p.2.1) (kvs.map fun k=>D.tup (k.1.map D.int))/\IsDs K π n H (ps.map (·.2.2)) (kvs.map (·.2))
 | _,_,.nil=>⟨rfl,.nil,.nil⟩
 | _,_,.cons (a:=p) (b:=q) h t=>by
  obtain ⟨h1,h2,h3⟩:=IsTs.to t
  refine ⟨by rw [UQ,UQ,h.1,h1],.cons ?_ h2,.cons h.2.2 h3⟩
  show IsD K π n H (.ref p.2.1) (.tup (q.1.map D.int))
  rw [<- h.1]
  exact .tup h.2.1 (wO p.1)
theorem IsTs.val (k:List Int):∀ {ps:bQ}{kvs:List (List Int×D)},IsTs K π n H ps kvs->(dO ps k=none/\bC kvs k=none)\/∃ v d,dO ps k=some v/\bC kvs k=some d/\IsD K π n H v d
 | _,_,.nil=>.inl ⟨rfl,rfl⟩
 | _,_,.cons (a:=p) (b:=q) h t=>by
  have ih:=IsTs.val k t
  unfold dO bC at ih ⊢
  rw [VE,VE,<- h.1]
  by_cases e:p.1=k
  ·simp only [e,decide_true]
   exact .inr ⟨_,_,rfl,rfl,h.2.2⟩
  ·simp only [e,decide_false]
   exact ih
theorem IsTs.put {ps:bQ}{kvs:List (List Int×D)}(h:IsTs K π n H ps kvs)(k:List Int){b:Addr}{v:V}{d:D}(hb:SqT K H b (k.map V.int))(hv:IsD K π n H v d):IsTs K π n H (cY ps k b v) (cC kvs k d):=by
 have e:(dO ps k).isSome=(bC kvs k).isSome:=by
  rcases h.val k with ⟨h1,h2⟩|⟨v,d,h1,h2,_⟩<;>rw [h1,h2]<;>rfl
 have repl:∀ {ps:bQ}{kvs:List (List Int×D)},IsTs K π n H ps kvs->IsTs K π n H (ps.map fun p=>if p.1=k then (p.1,p.2.1,v) else p) (kvs.map fun p=>if p.1=k then (p.1,d) else p):=by
  intro ps kvs h
  unfold IsTs at h
  induction h with
  | nil=>exact .nil
  | @cons p q ps qs h t ih=>
   rw [UQ,UQ]
   refine .cons ?_ ih
   by_cases z:p.1=k
   ·rw [if_pos z,if_pos (h.1.symm.trans z)]
    exact ⟨h.1,h.2.1,hv⟩
   ·rw [if_neg z,if_neg fun y=>z (h.1.trans y)]
    exact h
 unfold cY cC
 rw [e]
 split
 ·exact repl h
 ·exact a3y h ⟨rfl,hb,hv⟩
theorem eQ {a:Nat}{kvs:List (List Int×D)}(R:Rp K π H μ)(h:μ[a]? = some (.dT kvs)):∃ ps,H (π a)=some (aO (π a) ps)/\IsTs K π μ.length H ps kvs:=by
 obtain ⟨ps,h1,h2,h3,h4⟩:=R.dT a kvs h
 exact ⟨ps,h1,.of h2 h3 h4⟩
theorem sU {a:Nat}{kvs:List (List Int×D)}(R:Rp K π H μ)(h:μ[a]? = some (.dF kvs)):∃ ob ps,H (π a)=some (.frz ob (aO (π a) ps))/\IsTs K π μ.length H ps kvs:=by
 obtain ⟨ob,ps,h1,h2,h3,h4⟩:=R.dF a kvs h
 exact ⟨ob,ps,h1,.of h2 h3 h4⟩
theorem kD {v:V}{x:D}{k:List Int}(h:IsD K π n H v x)(e:cS x=some k):∃ b,v=.ref b/\SqT K H b (k.map V.int):=by
 have:=Cn e
 subst this
 cases h with
 | tup q t=>rw [ints_of' t] at q;exact ⟨_,rfl,q⟩
end
noncomputable def eZ:ME:=fun _ μ=>some (.loc μ.length,μ++[.dT []])
section
variable {X:Cx}{pos:Wl}
theorem sV {P:Va}{w:Vu}{H:Hp}(h:VL)(hb:VO<h.objs.size):ObjOk P w H (h.push { cls:=.type "dict",data:=.dict #[] }) h.objs.size (aO h.objs.size []):=
 pY (ws:=[]) (beq_eq_false_iff_ne.mpr (VH (UY hb))) (Vk _) .nil (a4I h)
noncomputable def ND:TE:=fun _ H Q=>∀ p,H p=none->Q (.ref p) (aK H p (aO p []))
theorem NF:PE X (.Dict [] [] pos) ND:=fun a5f s σ H Q I h=>
 wpAny_Dict_empty ⟨.ref s.heap.objs.size,_,I.laid (a:=s.heap.objs.size) (o:=aO s.heap.objs.size []) (t':=s.toks) (fun _ _ q=>UD _ q) (UJ _) (sV s.heap I.big),rfl,h _ (I.hok.fresh (UJ _))⟩
theorem NG:QE X (.Dict [] [] pos) eZ:=⟨cO NF (by
 rintro σ H Q ⟨π,ρ,μ,d,μ',R,E,hm,k⟩ p hp
 cases hm
 obtain ⟨e1,R1,q1⟩:=R.alloc (c:=.dT []) (o:=aO p []) hp ⟨[],rfl,rfl,.nil,.nil⟩
 exact k _ _ _ e1 R1 eM)⟩
end
noncomputable def qA:D->D->Hm->Option (D×Hm)
 | .loc a,y,μ=>match μ[a]? with
  | some (.dT kvs)=>(cS y).bind fun k=>(bC kvs k).map fun d=>(d,μ)
  | some (.dF kvs)=>(cS y).bind fun k=>(bC kvs k).map fun d=>(d,μ)
  | _=>none
 | _,_,_=>none
section
variable {X:Cx}{a b e:UO}{ma mb me:ME}{pos tpos:Wl}{td ty tv:TE}
noncomputable def CW (K:Ux):R2:=fun x y H Q=>∃ a b ps k v,x=.ref a/\y=.ref b/\Rd H a (aO a ps)/\cU K H ps/\SqT K H b (k.map V.int)/\dO ps k=some v/\Q v H
theorem NH (hu:X.A.units+1<V3)(ho:PE X a td)(hi:PE X b ty)(hs:AI b):PE X (.Subscript a b pos) (fun σ H Q=>td σ H fun x H1=>ty σ H1 fun y H2=>CW X.K x y H2 Q):=by
 intro a5f s σ H Q I h
 refine Iu PySem.F.slot_dict_getitem.lookup hs (aU (ho a5f s σ H _ I h) fun u s1 ⟨x,H1,I1,rx,q1⟩=>aU (hi a5f s1 σ H1 _ I1 q1) fun iv s2 ⟨y,H2,I2,ry,a,b,ps,k,v,ex,ey,e,hk,hb,hv,q2⟩=>?_)
 subst ex ey
 obtain rfl:u=UP a:=rx
 obtain rfl:iv=UP b:=ry
 exact ⟨Nw I2 e hk,Nx hu I2 e hk hb hv fun w' s3 I3 rw'=>⟨v,H2,I3,rw',q2⟩⟩
theorem NI {K:Ux}:cP K qA (CW K):=by
 intro π H μ x y d μ' vx vy Q R ix iy hm k
 unfold qA at hm
 split at hm
 ·split at hm
  ·rename_i kvs hc
   obtain ⟨kk,h1,hm⟩:=Uw.mp hm
   obtain ⟨d',h2,hm⟩:=UB.mp hm
   cases hm
   cases ix
   obtain ⟨ps,e1,T⟩:=eQ R hc
   obtain ⟨b,rfl,hb⟩:=kD iy h1
   rcases T.val kk with ⟨_,z⟩|⟨v,d2,z1,z2,z3⟩
   ·rw [z] at h2;cases h2
   ·rw [z2] at h2
    cases h2
    exact ⟨_,b,ps,kk,v,rfl,rfl,.of e1,T.keys,hb,z1,k π _ H .refl R z3⟩
  ·rename_i kvs hc
   obtain ⟨kk,h1,hm⟩:=Uw.mp hm
   obtain ⟨d',h2,hm⟩:=UB.mp hm
   cases hm
   cases ix
   obtain ⟨ob,ps,e1,T⟩:=sU R hc
   obtain ⟨b,rfl,hb⟩:=kD iy h1
   rcases T.val kk with ⟨_,z⟩|⟨v,d2,z1,z2,z3⟩
   ·rw [z] at h2;cases h2
   ·rw [z2] at h2
    cases h2
    exact ⟨_,b,ps,kk,v,rfl,rfl,.inr ⟨ob,e1⟩,T.keys,hb,z1,k π _ H .refl R z3⟩
  ·cases hm
 ·cases hm
theorem NJ {k:Nat}(hr:Room k X.A)(ha:QE X a ma)(hb:QE X b mb)(h:nO b=true):QE X (.Subscript a b pos) (aB qA ma mb):=⟨cO (NH (eP hr) ha.h hb.h (BM h)) (pJ NI)⟩
end
theorem NK (kvs:List (List Int×D))(k:List Int)(d:D):(cC kvs k d).length<=kvs.length+1:=by
 unfold cC;split<;>simp
section
variable {X:Cx}{o i e:UO}{mo mi me:ME}{pos tpos:Wl}{td ty tv:TE}
noncomputable def NL (K:Ux)(td ty tv:TE):TS:=fun D σ H=>tv σ H fun v H1=>td σ H1 fun x H2=>ty σ H2 fun y H3=>∃ a b ps k,x=.ref a/\y=.ref b/\H3 a=some (aO a ps)/\cU K H3 ps/\SqT K H3 b (k.map V.int)/\ps.length<UM/\D.nx σ (aK H3 a (aO a (cY ps k b v)))
theorem NM (hu:X.A.units+1<V3)(ho:PE X o td)(hi:PE X i ty)(hv:PE X e tv)(hs:Yx e (some (.Subscript o i tpos)) pos.line X.env=pure false) :
  PS X (.Assign [.Subscript o i tpos] e pos) (NL X.K td ty tv):=by
 intro a5f s σ H D I h
 refine a2j (aU (hv a5f s σ H _ I h) fun r s1 ⟨v,H1,I1,rv,q1⟩=>aU (ho a5f s1 σ H1 _ I1 q1) fun u s2 ⟨x,H2,I2,rx,q2⟩=>aU (hi a5f s2 σ H2 _ I2 q2) fun iv s3 ⟨y,H3,I3,ry,a,b,ps,k,ex,ey,e,hk,hb,hz,q3⟩=>?_) hs
 subst ex ey
 obtain rfl:u=UP a:=rx
 obtain rfl:iv=UP b:=ry
 exact NA hu I3 e hk hb hz rv fun s4 I4=>⟨σ,_,I4,q3⟩
theorem NN {kk:Nat}(hr:Room kk X.A)(ho:QE X o mo)(hi:QE X i mi)(he:QE X e me)(h:jZ e=true):QS X (.Assign [.Subscript o i tpos] e pos) (mJ pW mo mi me):=
 ⟨iN (NM (Ji hr) ho.h hi.h he.h (sE h)) (by
 rintro E σ H ⟨π,ρ,μ,fl,ρ',μ',R,EN,hm,k⟩
 obtain ⟨⟨x,μ1⟩,h1,hm⟩:=Uw.mp hm
 obtain ⟨⟨y,μ2⟩,h2,hm⟩:=Uw.mp hm
 obtain ⟨⟨z,μ3⟩,h3,hm⟩:=Uw.mp hm
 obtain ⟨μ4,h4,hm⟩:=UB.mp hm
 cases hm
 refine ⟨π,ρ,μ,x,μ1,R,EN,h1,fun π1 v1 H1 e1 R1 i1=>⟨π1,ρ,μ1,y,μ2,R1,EN.mono e1,h2,fun π2 v2 H2 e2 R2 i2=>⟨π2,ρ,μ2,z,μ3,R2,(EN.mono e1).mono e2,h3,fun π3 v3 H3 e3 R3 i3=>?_⟩⟩⟩
 cases y with
 | loc a=>
  simp only [pW] at h4
  split at h4
  ·rename_i kvs hc
   obtain ⟨kk,h5,h4⟩:=Uw.mp h4
   split at h4
   ·rename_i hz
    cases h4
    have i2':=i2.mono e3
    cases i2' with
    | loc hlt=>
     obtain ⟨ps,f1,T⟩:=eQ R3 hc
     obtain ⟨b,rfl,hb⟩:=kD i3 h5
     have hv:=(i1.mono e2).mono e3
     have T':=T.put kk hb hv
     obtain ⟨g1,g2,g3⟩:=T'.to
     have hpl:ps.length<UM:=by
      have:=congrArg Vq (T.to).1
      rw [Uz,Uz] at this
      omega
     refine ⟨_,b,ps,kk,rfl,rfl,f1,T.keys,hb,hpl,?_⟩
     obtain ⟨e4,R4⟩:=R3.put (c:=.dT (cC kvs kk x)) (o:=aO _ (cY ps kk b v1)) hlt f1 (.inr (.inr ⟨_,rfl⟩)) ⟨_,rfl,g1,g2,g3⟩
     exact k π3 σ _ (((e1.trans e2).trans e3).trans e4) R4 ((((EN.mono e1).mono e2).mono e3).mono e4)
   ·cases h4
  ·cases h4
 | _=>simp [pW] at h4)⟩
end
noncomputable def qB (neg:Bool):D->D->Hm->Option (D×Hm)
 | x,.loc a,μ=>match μ[a]? with
  | some (.dT kvs)=>(cS x).map fun k=>(.bl (if neg then !(bC kvs k).isSome else (bC kvs k).isSome),μ)
  | some (.dF kvs)=>(cS x).map fun k=>(.bl (if neg then !(bC kvs k).isSome else (bC kvs k).isSome),μ)
  | _=>none
 | _,_,_=>none
noncomputable def w4 (K:Ux)(neg:Bool):R2:=fun x y H Q=>∃ a b ps k,x=.ref b/\y=.ref a/\Rd H a (aO a ps)/\cU K H ps/\SqT K H b (k.map V.int)/\Q (.bl (if neg then !(dO ps k).isSome else (dO ps k).isSome)) H
theorem CY {X:Cx}(hu:X.A.units+1<V3):OpR X (VD .In) (w4 X.K false):=by
 intro a5f s σ H x y v u Q I rx ry h
 obtain ⟨a,b,ps,k,rfl,rfl,e,hk,hb,q⟩:=h
 obtain rfl:v=UP b:=rx
 obtain rfl:u=UP a:=ry
 exact Ny hu I e hk hb fun s' I'=>⟨.bl _,H,I',rfl,q⟩
theorem CZ {X:Cx}(hu:X.A.units+1<V3):OpR X (VD .NotIn) (w4 X.K true):=by
 intro a5f s σ H x y v u Q I rx ry h
 obtain ⟨a,b,ps,k,rfl,rfl,e,hk,hb,q⟩:=h
 obtain rfl:v=UP b:=rx
 obtain rfl:u=UP a:=ry
 exact Nz hu I e hk hb fun s' I'=>⟨.bl _,H,I',rfl,q⟩
theorem sW {K:Ux}{neg:Bool}:cP K (qB neg) (w4 K neg):=by
 intro π H μ x y d μ' vx vy Q R ix iy hm k
 unfold qB at hm
 split at hm
 ·split at hm
  ·rename_i kvs hc
   obtain ⟨kk,h1,hm⟩:=UB.mp hm
   cases hm
   cases iy
   obtain ⟨ps,e1,T⟩:=eQ R hc
   obtain ⟨b,rfl,hb⟩:=kD ix h1
   have e:(dO ps kk).isSome=(bC kvs kk).isSome:=by
    rcases T.val kk with ⟨h1,h2⟩|⟨v,d,h1,h2,_⟩<;>rw [h1,h2]<;>rfl
   refine ⟨_,b,ps,kk,rfl,rfl,.of e1,T.keys,hb,?_⟩
   rw [e]
   exact k π _ H .refl R (.bl _)
  ·rename_i kvs hc
   obtain ⟨kk,h1,hm⟩:=UB.mp hm
   cases hm
   cases iy
   obtain ⟨ob,ps,e1,T⟩:=sU R hc
   obtain ⟨b,rfl,hb⟩:=kD ix h1
   have e:(dO ps kk).isSome=(bC kvs kk).isSome:=by
    rcases T.val kk with ⟨h1,h2⟩|⟨v,d,h1,h2,_⟩<;>rw [h1,h2]<;>rfl
   refine ⟨_,b,ps,kk,rfl,rfl,.inr ⟨ob,e1⟩,T.keys,hb,?_⟩
   rw [e]
   exact k π _ H .refl R (.bl _)
  ·cases hm
 ·cases hm
section
variable {X:Cx}{a b:UO}{ma mb:ME}{pos:Wl}
end
end L3
namespace L3
open PySem L2
noncomputable def RawD (h:VL)(d:Addr)(es:Array VM)(ep:Nat):Prop:=∃ z,h.get? d=some z/\z.ExactDict/\z.data=.dict es ep
theorem RawD.ty {s:UE}{d:Addr} {es ep} (g:RawD s.heap d es ep):s.TypeIs (.ref d) "dict":=let ⟨z,g1,g2,_⟩:=g;⟨z,g1,g2.1⟩
theorem RawD.stay {h h':VL}{d:Addr} {es ep} (g:RawD h d es ep)(k:∀ o,h.get? d=some o->h'.get? d=some o):RawD h' d es ep:=let ⟨z,g1,g2⟩:=g;⟨z,k z g1,g2⟩
theorem RawD.lt {h:VL}{d:Addr} {es ep} (g:RawD h d es ep):d<h.objs.size:=let ⟨_,g1,_⟩:=g;UK g1
section
variable {P:Va}{w:Vu}{A:Vh}{E:UC->UE->Prop}{s:UE}{d it:Addr}{i ep:Nat}{es:Array VM}
theorem C0 {Q:UC->UE->Prop}(lo:(d == VO)=false)(g:RawD s.heap d es ep)
  (q:Q (.ref s.heap.objs.size) { s with heap:=s.heap.push { cls:=.type "dict_keyiterator",data:=.fields #[.ref d,.int 0 0,.int es.size 0,.int ep 0] } }):U3 (U8 P w) A (a1z (.ref d)) Q E s:=by
 obtain ⟨z,g1,g2,g3⟩:=id g
 refine a3E g.ty F.slot_dict_iter (Wn F.slot_dict_iter g.ty F.entry_dict_iter ?_ (F.args_dict_iter_1 _))
 unfold Builtin.«dict.__iter__» a4P
 refine Uy (Uy (V4 g.ty ?_))
 show U3 _ _ (pure (UP d)) _ _ _
 refine UG ?_
 show U3 _ _ (WC d >>= _) _ _ _
 unfold WC
 rw [if_neg (fun x=>Vn (lo.symm.trans x))]
 refine Uy (UG (Uy (VN g1 g3 (Uy (X6 g1 g3 (Uy (Wt (UG ?_))))))))
 exact ⟨_,rfl,"dict_keyiterator",_,⟨_,UT _ rfl,rfl⟩,F.slot_dict_keyiterator_next.lookup,by simpa [XY] using q⟩
theorem sX {Q:Option UC->UE->Prop}(hh:A.handled=none)(j:s.heap.IsKeyIter it d i es.size ep)(g:RawD s.heap d es ep)
  (q1:∀ e h',es[i]? = some e->h'.IsKeyIter it d (i+1) es.size ep->WX it s.heap h'->Q (some e.key) { s with heap:=h' })
  (q2:es[i]? = none->∀ h',a0o it s.heap h'->Q none { s with heap:=h' }):U3 (U8 P w) A (YG (.ref it)) Q E s:=by
 obtain ⟨y,j1,j2,j3⟩:=id j
 obtain ⟨z,g1,g2,g3⟩:=id g
 have nm:∀ {Q:String->UE->Prop}{A:Vh}{E:UC->UE->Prop},Q "dict_keyiterator" s->U3 (U8 P w) A (a4n (.ref it)) Q E s:=fun q=>wpAny_typeNameOfWhole_keyiter j.typeIs q
 unfold YG
 refine Uy (wpAny_attempt (a1Z (name:=X9 "__next__") j.typeIs F.slot_dict_keyiterator_next (Wn F.slot_dict_keyiterator_next j.typeIs F.entry_dict_keyiterator_next ?_ (F.args_dict_keyiterator_next_1 _))))
 refine Uy (UG (Uy (Uy (Uy (nm (UG (Uy (a4S j1 j3 ?_))))))))
 simp only [show XR "dict_keyiterator" = false by decide,UN,if_false]
 show U3 _ _ (if (UP d == VJ)=true then _ else _) _ _ _
 rw [if_neg (show ¬ (UP d == VJ)=true from fun x=>Vn x)]
 refine Uy (UG (Uy (VN g1 g3 ?_)))
 rw [if_neg (fun x=>by simp at x)]
 refine Uy (UG (Uy (X6 g1 g3 ?_)))
 rw [if_neg (fun x=>by simp at x)]
 refine UG ?_
 simp only [if_neg (show ¬ ((i:Int)<0) by omega),Xq]
 cases he:es[i]? with
 | some e=>
  refine Uy (Uy (nm (UG (Uy (a2H j.typeIs ?_)))))
  show U3 _ _ (a2U (.ref it) 1 (XY ((i:Int)+1)) >>= _) _ _ _
  refine Uy (a1w j1 j3 (by simp) ?_)
  have j':(s.heap.update it (a3P (·.setIfInBounds 1 (XY ((i:Int)+1))))).IsKeyIter it d (i+1) es.size ep:=
   ⟨_,V2 _ j1 (Obj.isFreed_of_fields (a2A j3 _)),(Obj.cls_mapFields ..).trans j2,by simp [a2A j3,XY]⟩
  generalize hu:s.heap.update it (a3P (·.setIfInBounds 1 (XY ((i:Int)+1))))=u at j'
  refine Uy (Vy (Uy (a2H (s:={ s with heap:=u }) j'.typeIs ?_)))
  show U3 _ _ (pure e.key) _ _ _
  exact UG (UG ⟨_,rfl,UG (q1 e u he j' (hu ▸ Wj ..))⟩)
 | none=>
  refine Uy (Uy (nm (UG ?_)))
  show U3 _ _ (a2U (.ref it) 0 .none >>= _) _ _ _
  refine Uy (a1w j1 j3 (by simp) ?_)
  show U3 _ _ (a4W (.type "StopIteration") [] >>= _) _ _ _
  simp only [a4W,newTuple]
  refine Uy (Uy (Wt ?_ (by size_fits)))
  refine Uy (m:=ZP _ _) (wpAny_of_eq (a:=VJ) (by first|rfl|(simp only [ZP];rfl)) (Wt ?_ (by size_fits)))
  simp only [raiseNew]
  refine Uy (wpAny_handled ?_)
  rw [show A.in1.handled=none from hh]
  refine Uy (UG (wpAny_throw ?thrown))
  case thrown=>exact Uy (XS (T:="StopIteration") (b:=true) ⟨_,UT _ rfl,rfl⟩ a4Y (UG (q2 he _ (((Wj ..).extBut.push _).push _))))
theorem NO (hh:A.handled=none)(hne:d≠it)(es:Array VM)(ep:Nat):Walks P w A it [it,d] [it] es.size (fun i v=>∃ e,es[i]? = some e/\v=e.key) (fun i h=>h.IsKeyIter it d i es.size ep/\RawD h d es ep) where
 sub:=fun b hb=>by rw [Vp.mp hb];exact U2 ..
 frame:=fun _ _ _ st k=>⟨st.1.at fun o e=>k it (by simp) o e,st.2.stay fun o e=>k d (by simp) o e⟩
 item:=fun i s Q E hi st q=>sX hh st.1 st.2 (fun e h' he j' sb=>q _ h' s.toks ⟨e,he,rfl⟩ ⟨j',st.2.stay fun o ho=>sb.extBut d o hne ho⟩ fun b o hb ho=>sb.extBut b o (fun z=>hb (by simp [z])) ho) (fun he=>by simp at he;omega)
 done:=fun s Q E st q=>sX hh st.1 st.2 (fun e h' he=>by simp at he) (fun _ h' x=>q h' s.toks fun b o hb ho=>x b o (fun z=>hb (by simp [z])) ho)
 self:=fun _ _ _ _ st q=>a2R st.1 q
theorem C1 (lo:(d == VO)=false):PySem.W.KdlSrc P w "dict" d d es.size (fun i v=>∃ e,es[i]? = some e/\v=e.key) (fun h=>RawD h d es ep) where
 type:=fun _ g=>g.ty
 there:=fun _ g=>⟨g.lt,g.lt⟩
 keep:=fun _ _ g k=>g.stay fun o e=>k d (.inl rfl) o e
 notList:=by decide
 notTuple:=by decide
 hint:=fun _ _ _ _ g q=>PySem.W.kdl_hint_dict g.ty q
 iter:=fun _ _ hh g=>⟨_,_,(fun _ _ q=>C0 lo g q),NO hh (UY g.lt) es ep,⟨⟨_,UT _ rfl,rfl,rfl⟩,g.stay fun o e=>UD _ e⟩⟩
theorem NP (lo:(d == VO)=false):a3Q P w (Builtin.«dict.__len__» ⟨[.ref d],[]⟩) (fun _ R s=>∃ es ep,RawD s.heap d es ep/\R (.ok (.ret (.int (es.size:Nat) s.toks))) { s with toks:=s.toks+1 }):=
 .of_wp fun A R s ⟨es,ep,⟨z,g1,g2,g3⟩,q⟩=>by
  show U3 _ _ (dictSize d >>= _) _ _ _
  unfold dictSize
  refine Uy (Uy (VN g1 g3 (UG ?_)))
  show U3 _ _ (a4L d >>= _) _ _ _
  refine Uy (wpAny_pendingCount_other lo (wpAny_ret_mkInt ?_))
  rw [a4f];exact q
theorem NQ {Q:UC->UE->Prop}(lo:(d == VO)=false)(g:RawD s.heap d es ep)(hz:es.size<=UM)(q:Q (.int (es.size:Nat) (s.toks+1)) { s with toks:=s.toks+1+1 }):U3 (U8 P w) A (call (.builtin "len") [.ref d]) Q E s:=
 a4B g.ty F.slot_dict_len (fun Q' q'=>Zs F.slot_dict_len g.ty F.entry_dict_len (F.args_dict_len_1 _) (NP lo) ⟨es,ep,g,q'⟩) (by omega) (by rw [U4] at hz;omega) q
end
theorem w5:∀ {ps:bQ}{ws:List UC},Vals (ps.map (·.2.2)) ws->(bM ps ws).map (fun x=>UP x.2.1)=ps.map fun p=>UP p.2.1
 | [],_,_=>by simp [bM]
 | p::ps,_,.cons r t=>by
  have ih:=w5 (ps:=ps) t
  unfold bM at ih ⊢
  rw [Vs,UQ,UQ,ih]
theorem C2:∀ ps:bQ,Vals (ps.map fun p=>V.ref p.2.1) (ps.map fun p=>UP p.2.1)
 | []=>.nil
 | p::ps=>.cons rfl (C2 ps)
section
variable {X:Cx}{a5f:List (Addr×Wf)}{σ:St}{H:Hp}{s:UE}{a:Addr}{ps:bQ}
theorem k5 (I:Inv X a5f σ H s)(e:H a=some (aO a ps))(hk:cU X.K H ps):(a == VO)=false/\ps.length<=UM/\∃ es ep,RawD s.heap a es ep/\es.toList.map (·.key)=ps.map fun p=>UP p.2.1:=by
 obtain ⟨lo,hl,ws,r,z,es,ep,h1,h2,h3,h4,_⟩:=iB I (.of e) hk
 refine ⟨lo,hl,es,ep,⟨z,h1,h2,h3⟩,?_⟩
 rw [h4,UU,<- w5 r]
 rfl
noncomputable def C3 (K:Ux):List V->Hp->VK->Prop:=fun xs H Q=>∃ a ps,xs=[V.ref a]/\H a=some (aO a ps)/\cU K H ps/\Q (.int ps.length) H
theorem NR:CallR X (.builtin "len") (C3 X.K):=by
 intro a5f s σ H xs us Q I r h
 obtain ⟨a,ps,rfl,ha,hk,q⟩:=h
 obtain ⟨u,rfl,ru⟩:=eB r
 cases ru
 obtain ⟨lo,hl,es,ep,g,he⟩:=k5 I ha hk
 have hs:es.size=ps.length:=by
  have:=congrArg Vq he
  simpa using this
 refine NQ lo g (by omega) ?_
 rw [hs]
 exact ⟨.int ps.length,H,(I.tok _).tok _,⟨_,rfl⟩,q⟩
noncomputable def C4 (K:Ux):List V->Hp->VK->Prop:=fun xs H Q=>∃ a ps,xs=[V.ref a]/\H a=some (aO a ps)/\cU K H ps/\∀ l,H l=none->Q (.ref l) (aK H l (.lst (ps.map fun p=>V.ref p.2.1)))
theorem NS (hc:X.calm=true):CallR X (.type "list") (C4 X.K):=by
 intro a5f s σ H xs us Q I r h
 obtain ⟨a,ps,rfl,ha,hk,q⟩:=h
 obtain ⟨u,rfl,ru⟩:=eB r
 cases ru
 obtain ⟨lo,hl,es,ep,g,he⟩:=k5 I ha hk
 have hs:es.size=ps.length:=by
  have:=congrArg Vq he
  simpa using this
 refine PySem.W.kdl_call (C1 lo) (I.ok.hd hc) g (by omega) fun h' tk acc' c' kp hS hacc=>?_
 refine ⟨.ref s.heap.objs.size,_,I.laid (t':=tk) (a:=s.heap.objs.size) (o:=.lst (ps.map fun p=>V.ref p.2.1)) kp (UJ _) ?_,rfl,q _ (I.hok.fresh (UJ _))⟩
 refine ⟨by rw [Uz];exact hl,acc'.toList,c',?_,by simpa using hS⟩
 have e2:acc'.toList=ps.map fun p=>UP p.2.1:=by
  rw [<- he]
  refine YU fun i=>?_
  rw [Vd,Wb,Wb]
  cases hv:acc'[i]? with
  | some v=>
   obtain ⟨e,h1,h2⟩:=hacc.2 i v hv
   rw [h1,h2];rfl
  | none=>
   have:acc'.size<=i:=by simpa using hv
   rw [X4 (by rw [<- hacc.1];exact this)];rfl
 rw [e2]
 exact C2 ps
end
section
variable {X:Cx}{a b o i e:UO}{ma mb mo mi me:ME}{pos tpos:Wl}{k:Nat}
theorem NT (hr:Room k X.A)(ha:QE X a ma)(hb:QE X b mb)(h:nO b=true):QE X (.Subscript a b pos) (aB aI ma mb):=
 l8 (NJ hr ha hb h) (Ll ha hb h) (gC fun x y μ r hm=>by
  unfold aI at hm
  split at hm
  ·split at hm
   ·rename_i kvs hc
    refine .inl ?_
    simp only [qA,hc]
    exact hm
   ·rename_i kvs hc
    refine .inl ?_
    simp only [qA,hc]
    exact hm
   ·exact .inr hm
  ·exact .inr hm)
noncomputable def nZ (neg:Bool):D->D->Hm->Option (D×Hm):=fun x y μ=>match qB neg x y μ with
 | some r=>some r
 | none=>l9 neg x y μ
theorem sY {neg:Bool}(x y:D)(μ:Hm)(r:D×Hm)(h:nZ neg x y μ=some r):qB neg x y μ=some r\/l9 neg x y μ=some r:=by
 unfold nZ at h
 split at h
 ·rename_i z;rw [z];exact .inl h
 ·exact .inr h
theorem C5 {neg:Bool}(x y:D)(μ:Hm)(r:D×Hm)(h:dG neg x y μ=some r):(∃ i j,x=.str i/\y=.str j)\/nZ neg x y μ=some r:=by
 cases y with
 | loc a=>
  refine .inr ?_
  have e:dG neg x (.loc a) μ=(match μ[a]? with
   | some (.dT kvs)=>(cS x).map fun k=>(D.bl (if neg then !(bC kvs k).isSome else (bC kvs k).isSome),μ)
   | some (.dF kvs)=>(cS x).map fun k=>(D.bl (if neg then !(bC kvs k).isSome else (bC kvs k).isSome),μ)
   | _=>l9 neg x (.loc a) μ):=by cases x<;>rfl
  rw [e] at h
  unfold nZ
  simp only [qB]
  cases hc:μ[a]? with
  | none=>rw [hc] at h;exact h
  | some c=>
   rw [hc] at h
   cases c with
   | dT kvs=>dsimp only at h ⊢;rw [h]
   | dF kvs=>dsimp only at h ⊢;rw [h]
   | _=>exact h
 | str j=>
  cases x with
  | str i=>exact .inl ⟨i,j,rfl,rfl⟩
  | _=>exact .inr h
 | _=>cases x<;>exact .inr h
theorem C6 (x y:D)(μ:Hm)(r:D×Hm)(h:dG false x y μ=some r):vU x y μ=some r\/nZ false x y μ=some r:=by
 rcases C5 x y μ r h with ⟨i,j,rfl,rfl⟩|z
 ·exact .inl h
 ·exact .inr z
theorem C7 (x y:D)(μ:Hm)(r:D×Hm)(h:dG true x y μ=some r):wC x y μ=some r\/nZ true x y μ=some r:=by
 rcases C5 x y μ r h with ⟨i,j,rfl,rfl⟩|z
 ·exact .inl h
 ·exact .inr z
theorem NU (hr:Room k X.A)(ha:QE X a ma)(hb:QE X b mb)(h:fM b=true):QE X (.Compare a [.In] [b] pos) (aB (dG false) ma mb):=
 l8 ⟨eC Aq BA ha.h hb.h (hV h)⟩ (l8 ⟨eC (CY (eP hr)) sW ha.h hb.h (hV h)⟩ ⟨eC (B0 (sI hr)) sG ha.h hb.h (hV h)⟩ (gC sY)) (gC C6)
theorem NV (hr:Room k X.A)(ha:QE X a ma)(hb:QE X b mb)(h:fM b=true):QE X (.Compare a [.NotIn] [b] pos) (aB (dG true) ma mb):=
 l8 ⟨eC AR B2 ha.h hb.h (hV h)⟩ (l8 ⟨eC (CZ (eP hr)) sW ha.h hb.h (hV h)⟩ ⟨eC (B1 (sI hr)) sG ha.h hb.h (hV h)⟩ (gC sY)) (gC C7)
theorem NW (hr:Room k X.A)(ha:QE X a ma)(hb:QE X b mb)(h:fM b=true):QT X (.Compare a [.In] [b] pos) (aR (aB (dG false) ma mb)):=
 nP ⟨eD Aq BA ha.h hb.h (hV h)⟩ (nP ⟨eD (CY (eP hr)) sW ha.h hb.h (hV h)⟩ ⟨eD (B0 (sI hr)) sG ha.h hb.h (hV h)⟩ (nQ (gC sY))) (nQ (gC C6))
theorem NX (hr:Room k X.A)(ha:QE X a ma)(hb:QE X b mb)(h:fM b=true):QT X (.Compare a [.NotIn] [b] pos) (aR (aB (dG true) ma mb)):=
 nP ⟨eD AR B2 ha.h hb.h (hV h)⟩ (nP ⟨eD (CZ (eP hr)) sW ha.h hb.h (hV h)⟩ ⟨eD (B1 (sI hr)) sG ha.h hb.h (hV h)⟩ (nQ (gC sY))) (nQ (gC C7))
theorem NY (hr:Room k X.A)(ho:QE X o mo)(hi:QE X i mi)(he:QE X e me)(h:jZ e=true):QS X (.Assign [.Subscript o i tpos] e pos) (iA mo mi me):=
 M9 (NN hr ho hi he h) (Nc ho hi he h) (Nd fun x y z μ r hm=>by
  unfold mK at hm
  split at hm
  ·split at hm
   ·exact .inl hm
   ·exact .inr hm
  ·cases hm)
end
end L3
namespace L3
open PySem L2
noncomputable def w6 (K:Ux)(a b:Addr):It:=
 ⟨fun i H=>∃ xs ys x y,SqL K H a xs/\SqL K H b ys/\xs[i]? = some x/\ys[i]? = some y,
   fun i H z H'=>∃ p v u,z=.ref p/\H p=none/\H'=aK H p (.tup [v,u])/\(∀ xs,SqL K H a xs->xs[i]? = some v)/\∀ ys,SqL K H b ys->ys[i]? = some u,
   fun i H=>∃ xs ys,SqL K H a xs/\SqL K H b ys/\(xs.length<=i\/ys.length<=i)⟩
theorem NZ {P:Va}{w:Vu}{K:Ux}{es:List UO}{kx:Nat}{pt:Wl}{a b z ti to j1 j2:Addr}(A0:ZipApart z ti to j1 j2 a b) :
  Turn P w K (.Tuple es kx pt) (w6 K a b) [z,ti,to,j1,j2] z (fun i h=>IsZip h z ti to .none/\IsPair h ti (.ref j1) (.ref j2)/\(∃ u v,IsPair h to u v)/\h.IsListIter j1 a i/\h.IsListIter j2 b i) where
 mem:=by simp
 obj:=fun i h ⟨g1,g2,⟨u,v,g3⟩,g4,g5⟩ c hc=>by
  have hc':c=z\/c=ti\/c=to\/c=j1\/c=j2:=by simpa using hc
  rcases hc' with rfl|rfl|rfl|rfl|rfl
  ·exact ⟨_,g1,fun q e=>by
    have e':a0p _=a0f q:=e
    cases e'⟩
  ·exact ⟨_,g2,fun q e=>by
    have e':a0Q _ _=a0f q:=e
    cases e'⟩
  ·exact ⟨_,g3,fun q e=>by
    have e':a0Q _ _=a0f q:=e
    cases e'⟩
  ·obtain ⟨o,e1,c,d⟩:=g4
   exact ⟨o,e1,fun v e=>by rw [d] at e;cases e⟩
  ·obtain ⟨o,e1,c,d⟩:=g5
   exact ⟨o,e1,fun v e=>by rw [d] at e;cases e⟩
 keep:=fun i h h' ⟨g1,g2,⟨u,v,g3⟩,g4,g5⟩ k=>⟨k z (by simp) _ g1,k ti (by simp) _ g2,⟨u,v,k to (by simp) _ g3⟩,g4.at fun o e=>k j1 (by simp) o e,g5.at fun o e=>k j2 (by simp) o e⟩
 item:=by
  intro X hP hw hK hc i a5f s σ H E I hf ⟨g1,g2,⟨u,v,g3⟩,g4,g5⟩ hg
  subst hP hw hK
  obtain ⟨xs,ys,x,y,hq,hq2,hx,hy⟩:=hg
  obtain ⟨its,rv,p,hz⟩:=I.list hq
  obtain ⟨its2,rv2,p2,hz2⟩:=I.list hq2
  obtain ⟨u1,eP,ru1⟩:=rv.get hx
  obtain ⟨u2,hu2,ru2⟩:=rv2.get hy
  refine wpAny_pyNext_zip_item A0 g1 g2 g3 g4 g5 p.isList p2.isList (x:=u1) (y:=u2) (by simpa using eP) (by simpa using hu2) fun h1 a1 a2 a3 a4 a5 a6 hk=>⟨_,rfl,wpAny_letOwnedTupleGo_zip a1 fun h2 b1 hs2=>?_⟩
  have ne:∀ {c o},s.heap.get? c=some o->s.heap.objs.size≠c:=fun e=>Wh (UK e)
  have l4:∃ o,s.heap.get? j1=some o:=let ⟨o,e,_⟩:=g4;⟨o,e⟩
  have l5:∃ o,s.heap.get? j2=some o:=let ⟨o,e,_⟩:=g5;⟨o,e⟩
  have ht2:h2.get? s.heap.objs.size=some { cls:=.type "tuple",data:=.seq #[u1,u2] }:=(hs2.2 _ (ne g1)).trans a5
  have hfr:H s.heap.objs.size=none:=I.hok.fresh (UJ _)
  have g2':IsPair h2 ti (.ref j1) (.ref j2):=(hs2.2 _ A0.TIz).trans (hk _ _ A0.TIz A0.TITO A0.TIi1 A0.TIi2 g2)
  refine ⟨.ref s.heap.objs.size,aK H s.heap.objs.size (.tup [x,y]),?_,rfl,⟨s.heap.objs.size,x,y,rfl,hfr,rfl,fun ws hw=>by rw [I.list_inj hw hq];exact hx,fun ws hw=>by rw [I.list_inj hw hq2];exact hy⟩,
   ⟨b1,g2',⟨_,_,(hs2.2 _ A0.TOz).trans a2⟩,a3.extBut hs2.extBut A0.i1z,a4.extBut hs2.extBut A0.i2z⟩,fun c hb=>?_⟩
  ·refine CK (s:=s) (h':=h2) (t':=s.toks) (ch:=[z,ti,to,j1,j2]) I (fun c oc hb ec=>?_) hf (UJ _) ?_
   ·have hb':c≠z/\c≠ti/\c≠to/\c≠j1/\c≠j2:=by simpa using hb
    exact (hs2.2 c hb'.1).trans (hk c oc hb'.1 hb'.2.2.1 hb'.2.2.2.1 hb'.2.2.2.2 ec)
   ·exact ⟨by show (2:Nat)<=UM;decide,[u1,u2],.cons ru1 (.cons ru2 .nil),_,ht2,rfl,0,rfl,rfl⟩
  ·have hb':c=z\/c=ti\/c=to\/c=j1\/c=j2:=by simpa using hb
   have hn:=(hf c hb).1
   rw [bE]
   ·exact hn
   ·rcases hb' with rfl|rfl|rfl|rfl|rfl
    ·exact (ne g1).symm
    ·exact (ne g2).symm
    ·exact (ne g3).symm
    ·exact (ne l4.choose_spec).symm
    ·exact (ne l5.choose_spec).symm
 done:=by
  intro X hP hw hK hc i a5f s σ H E I hf ⟨g1,g2,⟨u,v,g3⟩,g4,g5⟩ hg
  subst hP hw hK
  obtain ⟨xs,ys,hq,hq2,hx⟩:=hg
  obtain ⟨its,rv,p,hz⟩:=I.list hq
  obtain ⟨its2,rv2,p2,hz2⟩:=I.list hq2
  have hl:=rv.length
  have hl2:=rv2.length
  refine wpAny_pyNext_zip_end (I.ok.hd hc) A0 g1 g2 g3 g4 g5 p.isList p2.isList ?_ fun h' eb=>⟨rfl,CL (t':=s.toks) (ch:=[z,ti,to,j1,j2]) I (fun c o hb e=>?_) hf⟩
  ·rcases hx with hx|hx
   ·exact .inl (by simp;omega)
   ·exact .inr (by simp;omega)
  ·have hb':c≠z/\c≠ti/\c≠to/\c≠j1/\c≠j2:=by simpa using hb
   exact eb c o hb'.1 hb'.2.2.1 hb'.2.2.2.1 hb'.2.2.2.2 e
 self:=fun _ _ _ _ _ ⟨g1,_⟩ h=>a3U g1 h
noncomputable def qC (x y:D):f9:=fun μ i=>(bI μ x).bind fun xs=>(bI μ y).map fun ys=>(xs[i]?).bind fun d=>(ys[i]?).map fun e=>.tup [d,e]
noncomputable def qD (ms:MA):MI:=fun ρ μ=>(ms ρ μ).bind fun p=>match p.1 with
 | [x,y]=>(dW p.2 x).bind fun xs=>(dW p.2 y).map fun ys=>(qC x y,min xs.length ys.length+1,p.2)
 | _=>none
theorem C8 {K:Ux}{π:Nat->Addr}{μ:Hm}{H:Hp}{v:V}{x:D}{xs:List D}(R:Rp K π H μ)(h:IsD K π μ.length H v x)(hs:dW μ x=some xs):∃ p,v=.ref p/\(∃ vs,SqL K H p vs) /\
  ∀ π' μ' H',Ext π μ.length H π' μ'.length H'->Rp K π' H' μ'->∀ ys,bI μ' x=some ys->∃ ws,SqL K H' p ws/\IsDs K π' μ'.length H' ws ys:=by
 obtain ⟨p,vs,rfl,hq,_⟩:=mF R h hs
 refine ⟨p,rfl,⟨vs,hq⟩,fun π' μ' H' e R' ys hy=>?_⟩
 have hl:dW μ' x=some ys:=by
  cases x with
  | rol zs=>exact hy
  | loc b=>exact hy
  | _=>cases hs
 obtain ⟨p',ws,e1,q1,d1⟩:=mF R' (h.mono e) hl
 cases e1
 exact ⟨ws,q1,d1⟩
theorem N0 {K:Ux}{π:Nat->Addr}{μ:Hm}{H:Hp}{v v':V}{x y:D}{xs ys:List D}(R:Rp K π H μ)(h:IsD K π μ.length H v x)(h':IsD K π μ.length H v' y)(hs:dW μ x=some xs)(hs':dW μ y=some ys) :
  ∃ a b,v=.ref a/\v'=.ref b/\(∃ vs,SqL K H a vs)/\(∃ vs,SqL K H b vs)/\Wk K (w6 K a b) (qC x y) π μ.length H:=by
 obtain ⟨a,rfl,qa,la⟩:=C8 R h hs
 obtain ⟨b,rfl,qb,lb⟩:=C8 R h' hs'
 refine ⟨a,b,rfl,rfl,qa,qb,fun π' μ' H' i e R' z=>?_,fun π' μ' H' i d e R' z=>?_⟩
 ·obtain ⟨as,h1,z⟩:=Uw.mp z
  obtain ⟨bs,h2,z⟩:=UB.mp z
  obtain ⟨ws,q1,d1⟩:=la π' μ' H' e R' as h1
  obtain ⟨us,q2,d2⟩:=lb π' μ' H' e R' bs h2
  refine ⟨ws,us,q1,q2,?_⟩
  rw [d1.length,d2.length]
  cases e1:as[i]? with
  | none=>exact .inl (VF.mp e1)
  | some d=>
   cases e2:bs[i]? with
   | none=>exact .inr (VF.mp e2)
   | some d'=>rw [e1,e2] at z;cases z
 ·obtain ⟨as,h1,z⟩:=Uw.mp z
  obtain ⟨bs,h2,z⟩:=UB.mp z
  obtain ⟨d1',h3,z⟩:=Uw.mp z
  obtain ⟨d2',h4,h5⟩:=UB.mp z
  subst h5
  obtain ⟨ws,q1,d1⟩:=la π' μ' H' e R' as h1
  obtain ⟨us,q2,d2⟩:=lb π' μ' H' e R' bs h2
  obtain ⟨w1,f1,k1⟩:=d1.get h3
  obtain ⟨w2,f2,k2⟩:=d2.get h4
  refine ⟨⟨ws,us,w1,w2,q1,q2,f1,f2⟩,?_⟩
  rintro y H2 ⟨t,v1,v2,rfl,hn,rfl,hv1,hv2⟩
  have m1:=hv1 ws q1
  have m2:=hv2 us q2
  rw [f1] at m1
  rw [f2] at m2
  cases m1
  cases m2
  obtain ⟨e2,R2⟩:=R'.fresh (o:=.tup [w1,w2]) hn
  exact ⟨e2,R2,.tup (.of cV) (.cons (k1.mono e2) (.cons (k2.mono e2) .nil))⟩
noncomputable def N1 (K:Ux)(ta:TA):TI:=fun σ H R=>ta σ H fun vs H1=>∃ a b,vs=[.ref a,.ref b]/\(∃ xs,SqL K H1 a xs)/\(∃ ys,SqL K H1 b ys)/\R (w6 K a b) H1
open PyProof.Rows in
theorem N2 {X:Cx}{a b:UO}{ta:TA}{p pos pt:Wl}{es:List UO}{kx:Nat}(hg:Gl X "zip") (hm:X.mg "zip" = none) (ha:PA X [a,b] ta)(hs:Vj [a,b] X.env=(false,eval a X.env)::Vj [b] X.env)(hs2:(W0 pos (Vj [b] X.env)).any (·.1)=false) :
  PI X (.Tuple es kx pt) (.Call (.Name "zip" p) [a,b] [] pos) (N1 X.K ta):=by
 intro a5f s σ H R I h
 refine Call_ (iM I hg hm Boot.«zip» (V0 (aU (ha pos a5f s σ H _ I h) fun us s1 ⟨vs,H1,I1,r1,q1⟩=>?_) hs hs2))
 obtain ⟨a0,b0,rfl,⟨ws,hq⟩,⟨ws2,hq2⟩,q⟩:=q1
 cases r1 with
 | cons ru rr=>
  cases rr with
  | cons ru2 rr=>
   cases rr
   cases ru
   cases ru2
   obtain ⟨its,rv,pl,hz⟩:=I1.list hq
   obtain ⟨its2,rv2,pl2,hz2⟩:=I1.list hq2
   have la:a0<s1.heap.objs.size:=let ⟨_,e,_⟩:=pl.isList;UK e
   have lb:b0<s1.heap.objs.size:=let ⟨_,e,_⟩:=pl2.isList;UK e
   refine call_zip_2 pl.isList pl2.isList fun h' g1 g2 g3 g4 g5 hsz hk=>a3U g1 ?_
   have I2:Inv X a5f σ H1 { s1 with heap:=h' }:=I1.kept (t':=s1.toks) hk
   have ap:ZipApart (s1.heap.objs.size+4) (s1.heap.objs.size+2) (s1.heap.objs.size+3) s1.heap.objs.size (s1.heap.objs.size+1) a0 b0:=by
    have la':@LT.lt Nat _ a0 s1.heap.objs.size:=la
    have lb':@LT.lt Nat _ b0 s1.heap.objs.size:=lb
    constructor<;>(show @Ne Nat _ _;omega)
   refine ⟨s1.heap.objs.size+4,[s1.heap.objs.size+4,s1.heap.objs.size+2,s1.heap.objs.size+3,s1.heap.objs.size,s1.heap.objs.size+1],_,_,H1,rfl,I2,NZ ap,⟨g1,g2,⟨_,_,g3⟩,g4,g5⟩,fun c hc=>?_,q⟩
   have hle:s1.heap.objs.size<=c:=by
    simp only [U6,W4,or_false] at hc
    rcases hc with rfl|rfl|rfl|rfl|rfl<;>first|exact Nat.le_add_right _ _|exact UJ _
   exact I1.fpOk hle (I1.hok.fresh hle)
theorem N3 {X:Cx}{a b:UO}{ms:MA}{n:Nat}{p pos:Wl}(hgl:Gl X "zip") (hmg:X.mg "zip" = none) (ha:QA X [a,b] ms n):QJT X (.Call (.Name "zip" p) [a,b] [] pos) (qD ms):=⟨fun es kx pt a5f s σ H R I hw=>by
 have hs:=ha.s
 rw [Vo,UL,Vo,UL] at hs
 obtain ⟨π,ρ,μ,src,n',μ',Rr,E,hm,k⟩:=hw
 obtain ⟨⟨x,μ1⟩,h1,hm⟩:=Uw.mp hm
 refine N2 hgl hmg ha.h (eY hs.1) (by rw [eY hs.2.1];rfl) a5f s σ H R I ⟨π,ρ,μ,x,μ1,Rr,E,h1,fun π1 vs H1 e1 R1 i1=>?_⟩
 dsimp only at hm
 split at hm
 ·rename_i x y
  obtain ⟨xs,h2,hm⟩:=Uw.mp hm
  obtain ⟨ys,h3,hm⟩:=UB.mp hm
  cases hm
  cases i1 with
  | cons i1 t1=>
   cases t1 with
   | cons i2 t2=>
    cases t2
    obtain ⟨a0,b0,rfl,rfl,qa,qb,W⟩:=N0 R1 i1 i2 h2 h3
    exact ⟨a0,b0,rfl,qa,qb,k π1 H1 _ e1 R1 W⟩
 ·cases hm⟩
end L3
namespace L3
open PySem L2
section
variable {P:Va}{w:Vu}{A:Vh}{E:UC->UE->Prop}{s:UE}{a:Addr}
theorem N4:Zq (.type "tuple") "keys" = pure none:=by rw [Zy,Ys];kernel_rfl
theorem N5 {o:Wf}{xs:Array UC}{k:Nat}{Q:Option UC->UE->Prop}(g:s.heap.get? a=some o)(g1:o.cls=.type "tuple") (g2:o.data=.seq xs k)(g3:o.dict=none)(hA:A.handled=none)
  (q:∀ h' tk,(∀ b u,s.heap.get? b=some u->h'.get? b=some u)->Q none { s with heap:=h',toks:=tk }):U3 (U8 P w) A (a2X (.ref a) "keys") Q E s:=by
 obtain ⟨c,dct,dat,sl⟩:=o
 dsimp only at g1 g2 g3
 subst g1 g2 g3
 obtain ⟨hp,gs,dr,tk,os⟩:=s
 have ty:∀ tk',(⟨hp,gs,dr,tk',os⟩:UE).TypeIs (.ref a) "tuple":=fun _=>⟨_,g,rfl⟩
 have e1:=a3s
 have e2:=F.slot_tuple_getattribute.lookup
 have e3:=F.slot_tuple_getattribute.bind (.ref a)
 have e4:=am_tuple_getattr_none
 unfold a2X getAttrBy? getAttrBy
 repeat (any_goals (first|assumption|exact ty _|((with_reducible show U3 _ _ (call (a0V "tuple.__getattribute__") _ _) _ _ _);refine XN F.slot_tuple_getattribute (ty _) am_entry_tuple_getattribute (F.args_tuple_getattribute_2 _ _) (meets_getattribute_miss_tuple a xs k sl "keys" _ N4 (by decide +kernel)) ⟨g,hA,fun h' tk' e ne=>?_⟩)|wp_step))
 obtain ⟨y1,y2,there⟩:=ne.there
 show U3 _ _ (Y1 _ _ _ _ none false false) _ _ _
 unfold Y1
 repeat (any_goals (first|assumption|wp_step))
 exact q _ _ ne.of.keeps
end
theorem tB:entryFor table "dict.update.loop" = some Builtin.«dict.update.loop»:=entryFor_of_tree (by kernel_rfl)
theorem k6:plainId "dict.update.loop" = true:=by decide +kernel
noncomputable def fP (ps:bQ):List (Addr×List Int×Addr×V)->bQ
 | []=>ps
 | r::L=>fP (cY ps r.2.1 r.2.2.1 r.2.2.2) L
section
variable {X:Cx}{a5f:List (Addr×Wf)}{σ:St}{A:Vh}{E:UC->UE->Prop}{d:Addr}
theorem w8 {H:Hp}{s:UE}{b:Addr}{k:List Int}{v:V}{u:UC}{ps:bQ}{Q:Unit->UE->Prop}(hu:A.units<V3)(I:Inv X a5f σ H s)(e:H d=some (aO d ps))(hk:cU X.K H ps)(hb:SqT X.K H b (k.map V.int))(hz:ps.length<UM)(ru:RelV v u)
  (h:∀ s',Inv X a5f σ (aK H d (aO d (cY ps k b v))) s'->(∀ c o,c≠d->s.heap.get? c=some o->s'.heap.get? c=some o)->Q () s'):U3 (U8 X.prog X.w) A (dictSet d (.ref b) u) Q E s:=by
 obtain ⟨hs,hl,ws,r,dd⟩:=iB I (.of e) hk
 have hx:(bM ps ws).length<=UM:=by
  have:=congrArg Vq (kC r)
  rw [Uz,Uz] at this
  omega
 refine wpAny_dictSet_heap (hsz:=hx) (show (Wu (WL X.prog X.w)).room A from hu) (j8 I hb) dd fun h' d' hs'=>h _ ?_ fun c o hc e=>hs'.extBut c o hc e
 obtain ⟨ws',r',ex⟩:=wZ r k b ru
 rw [ex] at d'
 have he:∃ q,h'.get? d=some q:=let ⟨q,_,_,hq,_⟩:=d';⟨q,hq⟩
 exact rN I (by rw [e];exact WZ) hs' he (pY hs (by have:=pX ps k b v;omega) r' d')
end
theorem k7 {K:Ux}{H:Hp}{d b:Addr}{o:HO}{ps:bQ}{vs:List V}(e:H d=some (aO d ps))(h:SqT K H b vs):SqT K (aK H d o) b vs:=by
 have ne:∀ {u},H b=some u->(∀ qs,u≠aO d qs)->b≠d:=fun z f y=>by
  rw [y,e] at z
  cases z
  exact f ps rfl
 rcases h with (h|⟨ob,h⟩)|h
 ·exact .inl (.inl (by rw [bE (ne h fun _ z=>by cases z)];exact h))
 ·exact .inl (.inr ⟨ob,by rw [bE (ne h fun _ z=>by cases z)];exact h⟩)
 ·exact .inr h
theorem C9 {K:Ux}{H:Hp}{ps:bQ}{k:List Int}{b:Addr}{v:V}(h:cU K H ps)(hb:SqT K H b (k.map V.int)):cU K H (cY ps k b v):=by
 intro p hp
 unfold cY at hp
 split at hp
 ·obtain ⟨p',hp',e⟩:=UR.mp hp
  by_cases z:p'.1=k
  ·rw [if_pos z] at e
   subst e
   exact h p' hp'
  ·rw [if_neg z] at e
   subst e
   exact h p' hp'
 ·rcases Vz.mp hp with hp|hp
  ·exact h p hp
  ·rw [Vp.mp hp]
   exact hb
theorem tD {H:Hp}{d:Addr}{o o':HO}:aK (aK H d o) d o'=aK H d o':=by
 funext b
 unfold aK
 split
 ·rfl
 ·rfl
theorem Dc {P:Va}{w:Vu}{A:Vh}{E:UC->UE->Prop}{s:UE}{p:Addr}{xs:Array UC}{Q:List UC->UE->Prop}(h:Xy s.heap p xs)(q:Q xs.toList s):U3 (U8 P w) A (a0i (.ref p)) Q E s:=by
 obtain ⟨o,g,c,n,dd⟩:=h
 have ty:s.TypeIs (.ref p) "tuple":=⟨o,g,c⟩
 unfold a0i
 refine Uy (YO ty ?_)
 rw [if_pos (by decide)]
 unfold seqItems?
 refine Uy (Uy (a0j g ?_))
 rw [dd]
 exact UG (UG q)
section
variable {X:Cx}{a5f:List (Addr×Wf)}{σ:St}{A:Vh}{d t it:Addr}{ys:List V}{R:a0l->UE->Prop}
theorem N6 (hh:A.handled=none)(hu:A.in1.units<V3):∀ (L:List (Addr×List Int×Addr×V))(i:Nat)(ps:bQ)(H:Hp)(s:UE),Inv X a5f σ H s->H d=some (aO d ps)->cU X.K H ps->SqT X.K H t ys->ys.drop i=L.map (fun r=>V.ref r.1)->
  (∀ r∈L,SqT X.K H r.1 [.ref r.2.2.1,r.2.2.2]/\SqT X.K H r.2.2.1 (r.2.1.map V.int))->fF X a5f H it->s.heap.IsTupleIter it t i->ps.length+L.length<=UM->
  (∀ s',Inv X a5f σ (aK H d (aO d (fP ps L))) s'->R (.ok (.ret .none)) s')->X7 (U8 X.prog X.w) A (.builtin "dict.update.loop" ⟨[.ref d,.ref it,XY i,.none],[]⟩) R s:=by
 intro L
 induction L with
 | nil=>
  intro i ps H s I e hk hq hd hr hf st hz q
  obtain ⟨its,rv,p,hzz⟩:=I.tuple hq
  obtain ⟨f0,f1,f2,f3,f4,f5⟩:=hf
  have hl:=rv.length
  have hlen:ys.length<=i:=by
   have:=congrArg Vq hd
   simp at this
   omega
  refine W2 tB ?_
  rw [Wi k6 _]
  show U3 _ A.in1 (YG (.ref it) >>= _) _ _ s
  refine Uy (a2h hh st (show s.heap.IsTuple t its.toArray from p) (by simp;omega) fun h' eb=>?_)
  have I1:Inv X a5f σ H { s with heap:=h' }:=I.turned (t':=s.toks) (fun b o hb e=>eb b o hb e) f0 f1 f3 f4 f5
  show U3 _ _ (Z0 d [] >>= _) _ _ _
  refine Uy (UG (UG (q _ ?_)))
  have:aK H d (aO d (fP ps []))=H:=by
   funext b
   unfold aK
   split
   ·rename_i z;rw [z];exact e.symm
   ·rfl
  rw [this]
  exact I1
 | cons r L ih=>
  intro i ps H s I e hk hq hd hr hf st hz q
  obtain ⟨its,rv,p,hzz⟩:=I.tuple hq
  obtain ⟨f0,f1,f2,f3,f4,f5⟩:=id hf
  have hx:ys[i]? = some (.ref r.1):=by
   have:=congrArg (·[0]?) hd
   simpa using this
  obtain ⟨u,eP,ru⟩:=rv.get hx
  cases ru
  refine W2 tB ?_
  rw [Wi k6 _]
  show U3 _ A.in1 (YG (.ref it) >>= _) _ _ s
  refine Uy (a1Y st (show s.heap.IsTuple t its.toArray from p) (x:=.ref r.1) (by simpa using eP) fun h' st' sb=>?_)
  have I1:Inv X a5f σ H { s with heap:=h' }:=I.turned (t':=s.toks) (fun b o hb e=>(sb.2 b hb).trans e) f0 f1 f3 f4 f5
  have hr0:=hr r (U2 ..)
  obtain ⟨its2,rv2,p2,_⟩:=I1.tuple hr0.1
  cases rv2 with
  | cons rk rr=>
   cases rr with
   | cons rw' rr=>
    cases rr
    cases rk
    rename_i w0
    refine Uy (Vy (Uy (a4R (Dc p2 ?_))))
    have hps:ps.length<UM:=by
     rw [Vm] at hz
     omega
    refine Vy (w8 hu I1 e hk hr0.2 hps rw' fun s' I2 kp=>?_)
    refine UG ⟨W9 k6 _,?_⟩
    have bL:it≠d:=fun z=>by
     rw [<- z,f0] at e
     cases e
    have hrest:∀ x∈L,SqT X.K (aK H d (aO d (cY ps r.2.1 r.2.2.1 r.2.2.2))) x.1 [.ref x.2.2.1,x.2.2.2]/\SqT X.K (aK H d (aO d (cY ps r.2.1 r.2.2.1 r.2.2.2))) x.2.2.1 (x.2.1.map V.int):=fun x hx=>
     ⟨k7 e (hr x (UX _ hx)).1,k7 e (hr x (UX _ hx)).2⟩
    have hdr:ys.drop (i+1)=L.map (fun r=>V.ref r.1):=by
     have:=congrArg a5d hd
     simpa [a3l] using this
    refine ih (i+1) (cY ps r.2.1 r.2.2.1 r.2.2.2) _ s' I2 cV (C9 (fun p hp=>k7 e (hk p hp)) (k7 e hr0.2)) (k7 e hq) hdr hrest ⟨by rw [bE bL];exact f0,f1,f2,f3,f4,f5⟩ (st'.at fun o ho=>kp it o bL ho) ?_ fun s'' I''=>q s'' ?_
    ·have:=pX ps r.2.1 r.2.2.1 r.2.2.2
     rw [Vm] at hz
     omega
    ·rw [tD] at I''
     exact I''
end
section
variable {X:Cx}
noncomputable def Dd (K:Ux):List V->Hp->VK->Prop:=fun xs H Q=>∃ (t:Addr)(L:List (Addr×List Int×Addr×V)),xs=[V.ref t]/\SqT K H t (L.map fun r=>V.ref r.1) /\
 (∀ r∈L,SqT K H r.1 [.ref r.2.2.1,r.2.2.2]/\SqT K H r.2.2.1 (r.2.1.map V.int))/\∀ d,H d=none->Q (.ref d) (aK H d (aO d (fP [] L)))
theorem N7 (hc:X.calm=true)(hun:X.A.units+64<V3):CallR X (.type "dict") (Dd X.K):=by
 intro a5f s σ H xs us Q I r h
 obtain ⟨t,L,rfl,hq,hr,k⟩:=h
 obtain ⟨u,rfl,ru⟩:=eB r
 cases ru
 have hn:H s.heap.objs.size=none:=I.hok.fresh (UJ _)
 refine ZQ (Q₁:=fun obj s₁=>obj=.ref s.heap.objs.size/\s₁ = { s with heap:=s.heap.push { cls:=.type "dict",data:=.dict #[] } }) F.kt_called_dict (F.kt_typeCall_dict_1 _) F.entry_dict_init (a0T _ ⟨rfl,rfl⟩) ?_
 rintro obj s₁ ⟨rfl,rfl⟩
 have I0:Inv X a5f σ (aK H s.heap.objs.size (aO s.heap.objs.size [])) { s with heap:=s.heap.push { cls:=.type "dict",data:=.dict #[] } }:=I.laid (a:=s.heap.objs.size) (o:=aO s.heap.objs.size []) (t':=s.toks) (fun _ _ q=>UD _ q) (UJ _) (sV s.heap I.big)
 have ty:({ s with heap:=s.heap.push { cls:=.type "dict",data:=.dict #[] } }:UE).TypeIs (.ref s.heap.objs.size) "dict":=⟨_,UT _ rfl,rfl⟩
 refine ⟨ty,F.args_dict_init_2 _ _,?_⟩
 unfold Builtin.«dict.__init__»
 refine Uy ?_
 unfold Yv
 refine Uy (V4 ty ?_)
 show U3 _ _ (pure (s.heap.objs.size,[UP t])) _ _ _
 refine UG ?_
 show U3 _ _ (Ww "dict.__init__" s.heap.objs.size (.ref t) [] .none) _ _ _
 unfold Ww
 have mono:∀ {b:Addr}{vs:List V},SqT X.K H b vs->SqT X.K (aK H s.heap.objs.size (aO s.heap.objs.size [])) b vs:=fun {b vs} z=>by
  have ne:H b≠none->b≠s.heap.objs.size:=fun f y=>by rw [y] at f;exact f hn
  rcases z with (z|⟨ob,z⟩)|z
  ·exact .inl (.inl (by rw [bE (ne (by rw [z];exact fun y=>nomatch y))];exact z))
  ·exact .inl (.inr ⟨ob,by rw [bE (ne (by rw [z];exact fun y=>nomatch y))];exact z⟩)
  ·exact .inr z
 obtain ⟨its,rv,ob,g1,g2,n,g3,g4⟩:=I0.tupN (mono hq)
 refine Uy (YO ⟨ob,g1,g2⟩ ?_)
 rw [if_pos (by decide)]
 refine Uy (N5 g1 g2 g3 g4 (I.ok.hd hc) fun h' tk kp=>?_)
 have I1:Inv X a5f σ (aK H s.heap.objs.size (aO s.heap.objs.size [])) { s with heap:=h',toks:=tk }:=I0.kept (t':=tk) kp
 show U3 _ _ (rule _ >>= _) _ _ _
 refine Uy (YZ ?_)
 obtain ⟨its',rv',p',hz'⟩:=I1.tuple (mono hq)
 refine Uy (Y0 (t:=t) (items:=its'.toArray) (show ({ s with heap:=h',toks:=tk }:UE).heap.IsTuple t its'.toArray from p') ?_)
 have I2:=I1.kept (t':=tk) (h':=h'.push { cls:=.type "tuple_iterator",data:=.fields #[.ref t,.int 0 0] }) fun b o e=>UD _ e
 refine UG ⟨W9 k6 _,?_⟩
 refine N6 (A:=X.A.in1) (I.ok.hd hc) ?_ L 0 [] _ _ I2 cV (fun p hp=>nomatch hp) (mono hq) rfl (fun r hr'=>⟨mono (hr r hr').1,mono (hr r hr').2⟩) (I1.fpOk (UJ _) (I1.hok.fresh (UJ _))) ⟨_,UT _ rfl,rfl,rfl⟩ ?_ fun s' I'=>?_
 ·show X.A.units+1+1<V3
  omega
 ·have:=hz'
  simp at this ⊢
  exact this
 ·rw [tD] at I'
  exact ⟨rfl,.ref s.heap.objs.size,_,I',rfl,k _ hn⟩
end
noncomputable def n4:List D->Option (List (List Int×D))
 | []=>some []
 | .tup [x,v]::r=>(cS x).bind fun k=>(n4 r).map fun l=>(k,v)::l
 | _::_=>none
noncomputable def mM:MF:=fun ds μ=>match ds with
 | [.tup xs]=>(n4 xs).map fun l=>(.loc μ.length,μ++[.dT (l.foldl (fun q p=>cC q p.1 p.2) [])])
 | _=>none
section
variable {K:Ux}{π:Nat->Addr}{n:Nat}{H:Hp}
noncomputable abbrev De (K:Ux)(π:Nat->Addr)(n:Nat)(H:Hp):List (Addr×List Int×Addr×V)->List (List Int×D)->Prop:=
 Yo fun r p=>r.2.1=p.1/\SqT K H r.1 [.ref r.2.2.1,r.2.2.2]/\SqT K H r.2.2.1 (r.2.1.map V.int)/\IsD K π n H r.2.2.2 p.2
theorem Df:∀ {xs:List D}{ws:List V}{l:List (List Int×D)},IsDs K π n H ws xs->n4 xs=some l->∃ L,ws=L.map (fun r=>V.ref r.1)/\De K π n H L l
 | [],_,_,.nil,h=>by cases h;exact ⟨[],rfl,.nil⟩
 | x::xs,_,l,.cons i t,h=>by
  unfold n4 at h
  split at h
  ·rename_i heq;cases heq
  ·rename_i y v r heq
   cases heq
   obtain ⟨k,hk,h⟩:=Uw.mp h
   obtain ⟨l',hl,rfl⟩:=UB.mp h
   obtain ⟨L,rfl,P⟩:=Df t hl
   cases i with
   | tup q z=>
    cases z with
    | cons z1 z=>
     cases z with
     | cons z2 z=>
      cases z
      obtain ⟨b,rfl,hb⟩:=kD z1 hk
      exact ⟨(_,k,b,_)::L,rfl,.cons ⟨rfl,q,hb,z2⟩ P⟩
  ·cases h
theorem Dg:∀ {L:List (Addr×List Int×Addr×V)}{l:List (List Int×D)},De K π n H L l->∀ {ps:bQ}{kvs:List (List Int×D)},IsTs K π n H ps kvs->IsTs K π n H (fP ps L) (l.foldl (fun q p=>cC q p.1 p.2) kvs)
 | _,_,.nil,_,_,h=>h
 | r::L,p::l,.cons e t,ps,kvs,h=>by
  obtain ⟨e1,_,e3,e4⟩:=e
  show IsTs K π n H (fP (cY ps r.2.1 r.2.2.1 r.2.2.2) L) (l.foldl _ (cC kvs p.1 p.2))
  rw [<- e1]
  exact Dg t (h.put r.2.1 e3 e4)
end
theorem N8 {K:Ux}:dC K mM (Dd K):=by
 intro π H μ xs d μ' vs Q R i hm k
 unfold mM at hm
 split at hm
 ·rename_i xs
  obtain ⟨l,h1,h2⟩:=UB.mp hm
  cases h2
  cases i with
  | cons i t=>
   cases t
   cases i with
   | tup q z=>
    obtain ⟨L,rfl,P⟩:=Df z h1
    refine ⟨_,L,rfl,q,?_,fun d hd=>?_⟩
    ·clear q z k hm h1
     induction P with
     | nil=>exact fun r hr=>nomatch hr
     | cons e t ih=>
      intro r hr
      rcases U6.mp hr with rfl|hr
      ·exact ⟨e.2.1,e.2.2.1⟩
      ·exact ih r hr
    ·have T:=Dg P (ps:=[]) (kvs:=[]) .nil
     obtain ⟨e1,R1,q1⟩:=R.alloc (c:=.dT (l.foldl (fun q p=>cC q p.1 p.2) [])) (o:=aO d (fP [] L)) hd ⟨_,rfl,T.to.1,T.to.2.1,T.to.2.2⟩
     exact k _ _ _ e1 R1 eM
 ·cases hm
end L3
namespace L3
open PySem L2
noncomputable def ItI (h:VL)(it d S:Addr)(i n ep:Nat):Prop:=∃ (wn ok ov:UC)(fl:Bool),h.get? it=some { cls:=.type "dict_itemiterator",dict:=none,data:=.fields #[wn,.bool fl,.ref d,.int i 0,.int n 0,.int ep 0,ok,ov],slots:=#[] } /\
 (wn=.none\/∃ (a:Addr)(o:Wf),wn=XY a/\h.get? a=some o/\a≠it/\a≠S)
theorem ItI.ty {s:UE}{it d S:Addr} {i n ep} (j:ItI s.heap it d S i n ep):s.TypeIs (.ref it) "dict_itemiterator":=let ⟨_,_,_,_,e,_⟩:=j;⟨_,e,rfl⟩
theorem ItI.stay {h h':VL}{it d S:Addr} {i n ep} (j:ItI h it d S i n ep)(hI:it≠S)(k:∀ b o,b≠S->h.get? b=some o->h'.get? b=some o):ItI h' it d S i n ep:=by
 obtain ⟨wn,ok,ov,fl,e,r⟩:=j
 refine ⟨wn,ok,ov,fl,k _ _ hI e,?_⟩
 rcases r with r|⟨a,o,r1,r2,r3,r4⟩
 ·exact .inl r
 ·exact .inr ⟨a,o,r1,k _ _ r4 r2,r3,r4⟩
section
variable {P:Va}{w:Vu}{A:Vh}{E:UC->UE->Prop}{s:UE}{d it S:Addr}{i ep:Nat}{es:Array VM}
theorem Dh {Q:Option UC->UE->Prop}(hh:A.handled=none)(j:ItI s.heap it d S i es.size ep)(g:RawD s.heap d es ep)(hS:S<s.heap.objs.size)
  (q1:∀ e h',es[i]? = some e->ItI h' it d S (i+1) es.size ep->h'.get? s.heap.objs.size=some { cls:=.type "tuple",data:=.seq #[e.key,e.val] }->h'.objs.size=s.heap.objs.size+1->(∀ b o,b≠it->s.heap.get? b=some o->h'.get? b=some o)->Q (some (.ref s.heap.objs.size)) { s with heap:=h' })
  (q2:es[i]? = none->∀ h',a0o it s.heap h'->Q none { s with heap:=h' }):U3 (U8 P w) A (YG (.ref it)) Q E s:=by
 obtain ⟨z,g1,g2,g3⟩:=id g
 have ty:=j.ty
 obtain ⟨hp,gs,dr,tk,os⟩:=s
 obtain ⟨wn,ok,ov,fl,je,jr⟩:=j
 have nm:∀ {Q:String->UE->Prop}{A:Vh}{E:UC->UE->Prop},Q "dict_itemiterator" ⟨hp,gs,dr,tk,os⟩->U3 (U8 P w) A (a4n (.ref it)) Q E ⟨hp,gs,dr,tk,os⟩:=fun q=>wpAny_typeNameOfWhole_itemiter ty q
 unfold YG
 refine Uy (wpAny_attempt (a1Z (name:=X9 "__next__") ty F.slot_dict_itemiterator_next (Wn F.slot_dict_itemiterator_next ty F.entry_dict_itemiterator_next ?_ (F.args_dict_itemiterator_next_1 _))))
 refine Uy (UG (Uy (Uy (Uy (nm (UG (Uy (a4S je rfl ?_))))))))
 simp only [show XR "dict_itemiterator" = true by decide,if_true]
 show U3 _ _ (if (UP d == VJ)=true then _ else _) _ _ _
 rw [if_neg (show ¬ (UP d == VJ)=true from fun x=>Vn x)]
 refine Uy (UG (Uy (VN g1 g3 ?_)))
 rw [if_neg (fun x=>by simp at x)]
 refine Uy (UG (Uy (X6 g1 g3 ?_)))
 rw [if_neg (fun x=>by simp at x)]
 refine UG ?_
 simp only [if_neg (show ¬ ((i:Int)<0) by omega),Xq]
 have hil:it<hp.objs.size:=UK je
 cases he:es[i]? with
 | some e=>
  refine Uy (Uy (nm (UG (Uy (Zp ty ?_)))))
  show U3 _ _ (a2U (.ref it) 3 (XY ((i:Int)+1)) >>= _) _ _ _
  refine Uy (Xl je (by simp) fun u ue us=>?_)
  replace us:WX it hp u:=us
  replace ue:u.get? it=some { cls:=.type "dict_itemiterator",dict:=none,data:=.fields #[wn,.bool fl,.ref d,.int ((i+1:Nat):Int) 0,.int es.size 0,.int ep 0,ok,ov],slots:=#[] }:=by
   rw [show ((i+1:Nat):Int)=(i:Int)+1 by omega]
   simpa [XY] using ue
  have ty1:Shared.TypeIs ⟨u,gs,dr,tk,os⟩ (.ref it) "dict_itemiterator":=⟨_,ue,rfl⟩
  refine Uy (Vy (Uy (Zp ty1 (Uy (Zp ty1 ?_)))))
  show U3 _ _ (YY (.ref it) 6 e.key e.val) _ _ _
  unfold YY
  refine Uy (a1x ?_)
  have zu:u.objs.size=hp.objs.size:=us.1
  have v1:=UD { cls:=.type "tuple",data:=.seq #[e.key,e.val] } ue
  have vt:(u.push { cls:=.type "tuple",data:=.seq #[e.key,e.val] }).get? hp.objs.size=some { cls:=.type "tuple",data:=.seq #[e.key,e.val] }:=zu ▸ UT u rfl
  have vz:(u.push { cls:=.type "tuple",data:=.seq #[e.key,e.val] }).objs.size=hp.objs.size+1:=by rw [X8,zu]
  have vk:∀ b o,b≠it->hp.get? b=some o->(u.push { cls:=.type "tuple",data:=.seq #[e.key,e.val] }).get? b=some o:=fun b o hb x=>UD _ (us.extBut b o hb x)
  show U3 _ _ (YJ (.ref it) >>= _) _ _ ⟨u.push { cls:=.type "tuple",data:=.seq #[e.key,e.val] },gs,dr,tk,os⟩
  rw [zu]
  generalize u.push { cls:=.type "tuple",data:=.seq #[e.key,e.val] } = v at v1 vt vz vk
  have nit:hp.objs.size≠it:=Wh hil
  have fin:∀ v':VL,ItI v' it d S (i+1) es.size ep->WX it v v'->Q (some (.ref hp.objs.size)) ⟨v',gs,dr,tk,os⟩:=fun v' j' sb=>
   q1 e v' he j' (sb.extBut _ _ nit vt) (by show v'.objs.size=_;rw [sb.1,vz]) fun b o hb x=>sb.extBut b o hb (vk b o hb x)
  refine Uy ?_
  unfold YJ
  rcases jr with rfl|⟨a,o,rfl,r2,r3,r4⟩
  ·refine Uy (Y7 v1 rfl (x:=.none) rfl (UG ?_))
   simp only [if_true]
   refine Uy (Y7 v1 rfl (x:=ok) rfl (Uy (Y7 v1 rfl (x:=ov) rfl ?_)))
   refine Uy (Xl v1 (by simp) fun v3 x3 y3=>Uy (Xl x3 (by simp) fun v4 x4 y4=>Uy (Xl x4 (by simp) fun v5 x5 y5=>Uy (Xl x5 (by simp) fun v6 x6 y6=>?_))))
   refine Uy (a2S (UG (UG ⟨_,rfl,UG (fin v6 ?_ ?_)⟩)))
   ·refine ⟨XY hp.objs.size,e.key,e.val,false,by simpa using x6,.inr ⟨hp.objs.size,_,rfl,y6.extBut _ _ nit (y5.extBut _ _ nit (y4.extBut _ _ nit (y3.extBut _ _ nit vt))),nit,Wh hS⟩⟩
   ·exact ((y3.trans y4).trans y5).trans y6
  ·refine Uy (Y7 v1 rfl (x:=XY a) rfl ?_)
   show U3 _ _ (loadIfAlive ((a:Int).toNat) >>= _) _ _ _
   rw [Xq]
   refine Uy (PySem.W.kdx_alive (vk a o r3 r2) ?_)
   simp only [Option.isNone_some,UN,if_false]
   refine Uy (Y7 v1 rfl (x:=.bool fl) rfl ?_)
   cases fl with
   | true=>
    rw [if_neg (show ¬ ((Yd true != Yd true)=true) from fun x=>Vn x)]
    refine UG ?_
    simp only [UN,if_false]
    exact UG (UG ⟨_,rfl,UG (fin v ⟨_,ok,ov,true,v1,.inr ⟨a,o,rfl,vk a o r3 r2,r3,r4⟩⟩ (a0Z _ _))⟩)
   | false=>
    rw [if_pos (show (Yd false != Yd true)=true from rfl)]
    refine Uy (Xl v1 (by simp) fun v3 x3 y3=>UG ?_)
    simp only [UN,if_false]
    exact UG (UG ⟨_,rfl,UG (fin v3 ⟨_,ok,ov,true,by simpa using x3,.inr ⟨a,o,rfl,y3.extBut a o r3 (vk a o r3 r2),r3,r4⟩⟩ y3)⟩)
 | none=>
  refine Uy (Uy (nm (UG ?_)))
  show U3 _ _ (a2U (.ref it) 2 .none >>= _) _ _ _
  refine Uy (a1w je rfl (by simp) ?_)
  show U3 _ _ (a4W (.type "StopIteration") [] >>= _) _ _ _
  simp only [a4W,newTuple]
  refine Uy (Uy (Wt ?_ (by size_fits)))
  refine Uy (m:=ZP _ _) (wpAny_of_eq (a:=VJ) (by first|rfl|(simp only [ZP];rfl)) (Wt ?_ (by size_fits)))
  simp only [raiseNew]
  refine Uy (wpAny_handled ?_)
  rw [show A.in1.handled=none from hh]
  refine Uy (UG (wpAny_throw ?thrown))
  case thrown=>exact Uy (XS (T:="StopIteration") (b:=true) ⟨_,UT _ rfl,rfl⟩ a4Y (UG (q2 he _ (((Wj ..).extBut.push _).push _))))
theorem N9 {r:Addr}{Q:UC->UE->Prop}(hv:s.heap.IsItemsView r d)(g:RawD s.heap d es ep)
  (q:Q (.ref s.heap.objs.size) { s with heap:=s.heap.push { cls:=.type "dict_itemiterator",data:=.fields #[.none,.bool false,.ref d,.int 0 0,.int es.size 0,.int ep 0,.none,.none] } }):U3 (U8 P w) A (a1z (.ref r)) Q E s:=by
 obtain ⟨y,v1,v2,v3⟩:=id hv
 obtain ⟨z,g1,g2,g3⟩:=id g
 refine a3E hv.typeIs F.slot_dict_items_iter (Wn F.slot_dict_items_iter hv.typeIs F.entry_dict_items_iter ?_ (F.args_dict_items_iter_1 _))
 unfold Builtin.«dict_items.__iter__» a2P a2O
 refine Uy (UG (Uy (Uy (Y7 v1 v3 (x:=.ref d) rfl (UG (Uy (Uy (VN g1 g3 (Uy (X6 g1 g3 ?_))))))))))
 simp only [show XR "dict_itemiterator" = true by decide,if_true]
 refine Wt (UG ⟨_,rfl,"dict_itemiterator",_,⟨_,UT _ rfl,rfl⟩,F.slot_dict_itemiterator_next.lookup,?_⟩) (by simp only [sizeOk,YK,US,U5,Vm,Yu];rw [U4];omega)
 simpa [XY,YK] using q
end
structure PrsAt (es:Array VM)(lo:Addr)(h:VL)(as:List Addr):Prop where
 up:as.Pairwise (·<·)
 over:∀ a∈as,lo<a
 prs:∀ (j:Nat)(a:Addr),as[j]? = some a->∃ e,es[j]? = some e/\h.get? a=some { cls:=.type "tuple",data:=.seq #[e.key,e.val] }
theorem PrsAt.stay {es:Array VM}{lo:Addr}{h h':VL}{as:List Addr}(p:PrsAt es lo h as)(k:∀ b o,lo<b->h.get? b=some o->h'.get? b=some o):PrsAt es lo h' as:=
 ⟨p.up,p.over,fun j a hj=>let ⟨e,e1,e2⟩:=p.prs j a hj;⟨e,e1,k a _ (p.over a (Ve hj)) e2⟩⟩
theorem PrsAt.lt {es:Array VM}{lo:Addr}{h:VL}{as:List Addr}(p:PrsAt es lo h as){a:Addr}(ha:a∈as):a<h.objs.size:=by
 obtain ⟨j,hj⟩:=a1G.mp ha
 obtain ⟨_,_,e⟩:=p.prs j a hj
 exact UK e
theorem PrsAt.snoc {es:Array VM}{lo:Addr}{h:VL}{as:List Addr}{b:Addr}{e:VM}(p:PrsAt es lo h as)(hb:∀ a∈as,a<b)(hl:lo<b)(he:es[as.length]? = some e)(ht:h.get? b=some { cls:=.type "tuple",data:=.seq #[e.key,e.val] }):PrsAt es lo h (as++[b]):=by
 refine ⟨List.pairwise_append.mpr ⟨p.up,List.pairwise_singleton _ _,fun a ha c hc=>by rw [Vp.mp hc];exact hb a ha⟩,fun a ha=>?_,fun j a hj=>?_⟩
 ·rcases Vz.mp ha with ha|ha
  ·exact p.over a ha
  ·rw [Vp.mp ha];exact hl
 ·rcases Yc j as.length with h1|h1|h1
  ·rw [Vt h1] at hj
   exact p.prs j a hj
  ·subst h1
   have:b=a:=by simpa using hj
   subst this
   exact ⟨e,he,ht⟩
  ·rw [WN (by simp;omega)] at hj
   cases hj
section
variable {P:Va}{w:Vu}{A:Vh}{s:UE}{R:a0l->UE->Prop}{es:Array VM}{ep:Nat}{S I d:Addr}
theorem Oa (hh:A.handled=none)(hSI:S<I)(hSd:d≠S)(hId:d≠I)(hn:es.size<=UM)(res:UC){h1:VL}
  (hR:∀ (h':VL)(tk:Nat)(acc:Array UC)(c:Nat)(as:List Addr),(∀ b o,b≠S->b≠I->h1.get? b=some o->h'.get? b=some o)->h'.get? S=some { cls:=.type "list",dict:=none,data:=.seq acc c,slots:=#[] }->as.length=es.size->PrsAt es I h' as->acc.toList=as.map UP->R (.ok (.ret res)) { s with heap:=h',toks:=tk }) :
  ∀ (k i:Nat)(h:VL)(tk c:Nat)(acc:Array UC)(as:List Addr),es.size - i=k->i<=es.size->ItI h I d S i es.size ep->RawD h d es ep->(∀ b o,b≠S->b≠I->h1.get? b=some o->h.get? b=some o)->h.get? S=some { cls:=.type "list",dict:=none,data:=.seq acc c,slots:=#[] }->
   acc.toList=as.map UP->as.length=i->PrsAt es I h as->I<h.objs.size->X7 (U8 P w) A (.builtin "list.extend.loop" ⟨[.ref S,.ref I,res],[]⟩) R { s with heap:=h,toks:=tk }:=by
 have ne:S≠I:=UY hSI
 intro k
 induction k with
 | zero=>
  intro i h tk c acc as hk hi j g kp gS ha al pr lt
  refine W2 F.entry_extend_loop ?_
  rw [Wi F.plain_extend_loop _]
  refine Uy (m:=YG (.ref I)) (Dh (s:={ s with heap:=h,toks:=tk }) (A:=A.in1) hh j g (UK gS) (fun e h' he=>?_) fun _ h' x=>UG (hR h' tk acc c as (fun b o b1 b2 z=>x b o b2 (kp b o b1 b2 z)) (x S _ ne gS) (by omega) (pr.stay fun b o hb z=>x b o (Wh hb) z) ha))
  rw [X4 (by omega)] at he
  cases he
 | succ k ih=>
  intro i h tk c acc as hk hi j g kp gS ha al pr lt
  have sz:acc.size=i:=by rw [<- WD,ha,Uz,al]
  refine W2 F.entry_extend_loop ?_
  rw [Wi F.plain_extend_loop _]
  refine Uy (m:=YG (.ref I)) (Dh (s:={ s with heap:=h,toks:=tk }) (A:=A.in1) hh j g (UK gS) (fun e h' he j' ht hz hk'=>?_) fun he=>?_)
  ·dsimp only at ht hz hk' ⊢
   have gS':=hk' S _ ne gS
   have Sl:S<h.objs.size:=UK gS
   have up:∀ b o,b≠S->h'.get? b=some o->(h'.update S (VW (·.push (UP h.objs.size)))).get? b=some o:=fun b o hb z=>(V7 _ _ (VH hb)).trans z
   refine Uy (m:=a3W S (·.push (UP h.objs.size))) (Zv gS' rfl (UG ⟨W9 F.plain_extend_loop _,?_⟩) (by rw [sz];omega) (by show (acc.push (UP h.objs.size)).size<=UM+1;rw [Array.size_push,sz];omega))
   refine ih (i+1) _ tk _ (acc.push (UP h.objs.size)) (as++[h.objs.size]) (by omega) (by omega) (j'.stay (VH ne) up) (g.stay fun o z=>up d o hSd (hk' d o hId z)) (fun b o b1 b2 z=>up b o b1 (hk' b o b2 (kp b o b1 b2 z))) (V2 _ gS' rfl) (by rw [Array.toList_push,ha,Vb];rfl) (by rw [U5,al];rfl) ?_ ?_
   ·exact ((pr.stay fun b o hb z=>up b o (Wh (XH hSI hb)) (hk' b o (Wh hb) z))).snoc (fun a ha'=>pr.lt ha') lt (by rw [al];exact he) (up _ _ (Wh Sl) ht)
   ·exact XH lt (UK (up _ _ (Wh Sl) ht))
  ·rw [XG (by omega)] at he
   cases he
theorem Ob {r:Addr}{res:UC}{c0:Nat}(hh:A.handled=none)(hv:s.heap.IsItemsView r d)(g:RawD s.heap d es ep)(Sr:S≠r)(Sd:d≠S)(gS:s.heap.get? S=some { cls:=.type "list",data:=.seq #[] c0 }) (hn:es.size<=UM)
  (hR:∀ (h':VL)(tk:Nat)(acc:Array UC)(c:Nat)(as:List Addr),(∀ b o,b≠S->s.heap.get? b=some o->h'.get? b=some o)->h'.get? S=some { cls:=.type "list",dict:=none,data:=.seq acc c,slots:=#[] }->as.length=es.size->PrsAt es s.heap.objs.size h' as->acc.toList=as.map UP->R (.ok (.ret res)) { s with heap:=h',toks:=tk }) :
  U3 (U8 P w) A.in1 (Wc (.ref S) (.ref r) res) (fun fin s'=>match fin with|.done f=>R (.ok f) s'|.again c'=>c'.quiet=true/\X7 (U8 P w) A c' R s') (fun e s'=>R (.error e) s') s:=by
 have SI:S<s.heap.objs.size:=UK gS
 have dI:d<s.heap.objs.size:=g.lt
 have run:∀ (h:VL)(c1 tk:Nat),(∀ b o,b≠S->(s.heap.push { cls:=.type "dict_itemiterator",data:=.fields #[.none,.bool false,.ref d,.int 0 0,.int es.size 0,.int ep 0,.none,.none] }).get? b=some o->h.get? b=some o)->h.get? S=some { cls:=.type "list",data:=.seq #[] c1 }->
   X7 (U8 P w) A (.builtin "list.extend.loop" ⟨[.ref S,.ref s.heap.objs.size,res],[]⟩) R { s with heap:=h,toks:=tk }:=by
  intro h c1 tk kp gS1
  have gI:=kp s.heap.objs.size _ (Wh SI) (UT _ rfl)
  exact Oa (s:=s) (h1:=s.heap) (ep:=ep) hh SI Sd (UY dI) hn res (fun h' tk' acc c as k' z1 z2 z3 z4=>hR h' tk' acc c as (fun b o hb e=>k' b o hb (UY (UK e)) e) z1 z2 z3 z4) es.size 0 h tk c1 #[] [] (a0a _) (Vk _)
   ⟨.none,.none,.none,false,gI,.inl rfl⟩ (g.stay fun o e=>kp d o Sd (UD _ e)) (fun b o hb _ e=>kp b o hb (UD _ e)) gS1 rfl rfl ⟨a0O,fun _ ha=>(by cases ha),fun j a hj=>(by simp at hj)⟩ (UK gI)
 unfold Wc
 refine Uy (YO (T:="dict_items") hv.typeIs ?_)
 simp only [show Xs (.ref S) (.ref r)=false by simp [Xs,Sr],show (Wv "dict_items" == Wv "list")=false by decide,show (Wv "dict_items" == Wv "tuple")=false by decide,ZK,UN,if_false]
 refine Uy (N9 hv g ?_)
 have gS1:=UD { cls:=.type "dict_itemiterator",data:=.fields #[.none,.bool false,.ref d,.int 0 0,.int es.size 0,.int ep 0,.none,.none] } gS
 refine Uy (Vy (PySem.W.kdx_hint (let ⟨o,ho,hc,_⟩:=hv;⟨o,UD _ ho,hc⟩) ?_))
 refine Xv (fun _=>?_) (fun _=>UG ⟨W9 F.plain_extend_loop _,run _ c0 _ (fun b o _ e=>e) gS1⟩)
 refine Uy (YZ (Uy ?_))
 refine Uy (m:=a3W S (·.push .none)) (Zv gS1 rfl ?_)
 have gS2:=V2 (VW (·.push VJ)) gS1 rfl
 refine Zv (hz:=by seq_fits) gS2 rfl (UG ⟨W9 F.plain_extend_loop _,run _ _ _ (fun b o hb e=>?_) (V2 (VW (·.pop)) gS2 rfl)⟩)
 exact (V7 _ _ (VH hb)).trans ((V7 _ _ (VH hb)).trans e)
theorem Oc {r:Addr}{E:UC->UE->Prop}{T:List UC->UE->Prop}(hh:A.handled=none)(hv:s.heap.IsItemsView r d)(g:RawD s.heap d es ep)(hn:es.size<=UM)
  (q:∀ (h':VL)(tk:Nat)(as:List Addr),(∀ b o,s.heap.get? b=some o->h'.get? b=some o)->as.length=es.size->PrsAt es s.heap.objs.size h' as->T (as.map UP) { s with heap:=h',toks:=tk }):U3 (U8 P w) A (collect (.ref r)) T E s:=by
 have rl:r<s.heap.objs.size:=let ⟨_,ho,_⟩:=hv;UK ho
 unfold collect
 refine Uy (wpAny_runValue (W2 a4z ?_))
 rw [Wi F.plain_proto_collect _]
 refine Uy (m:=newList []) (Wt (UG ⟨W9 F.plain_list_iadd _,W2 a4A ?_⟩))
 rw [Wi F.plain_list_iadd _]
 have gS:(s.heap.push { cls:=.type "list",data:=.seq ([]:List UC).toArray }).get? s.heap.objs.size=some { cls:=.type "list",data:=.seq #[] }:=UT _ rfl
 have all:=Ob (A:=A) (s:={ s with heap:=s.heap.push { cls:=.type "list",data:=.seq ([]:List UC).toArray } }) (P:=P) (w:=w) (es:=es) (ep:=ep) (res:=.ref s.heap.objs.size) (c0:=0)
  (R:=fun (q:a0l)(s':UE)=>∃ (h':VL)(tk:Nat)(acc:Array UC)(c:Nat)(as:List Addr),q=.ok (.ret (.ref s.heap.objs.size))/\s' = { s with heap:=h',toks:=tk }/\(∀ b o,s.heap.get? b=some o->h'.get? b=some o)/\h'.get? s.heap.objs.size=some { cls:=.type "list",dict:=none,data:=.seq acc c,slots:=#[] }/\as.length=es.size/\PrsAt es s.heap.objs.size h' as/\acc.toList=as.map UP)
  hh (let ⟨o,ho,x⟩:=hv;⟨o,UD _ ho,x⟩) (g.stay fun o e=>UD _ e) (Wh rl) (UY g.lt) gS hn
  (fun h' tk acc c as z0 z1 z2 z3 z4=>⟨h',tk,acc,c,as,rfl,rfl,fun b o e=>z0 b o (UY (UK e)) (UD _ e),z1,z2,⟨z3.up,fun a ha=>XH (XI _) (by have:=z3.over a ha;rw [X8] at this;exact this),z3.prs⟩,z4⟩)
 refine VP all (fun fin s' x=>?_) fun e s' x=>?_
 ·cases fin with
  | done f=>
   obtain ⟨h',tk,acc,c,as,e,rfl,z0,z1,z2,z3,z4⟩:=x
   cases e
   refine Uy (m:=load s.heap.objs.size) (a0j z1 (UG ?_))
   show T acc.toList _
   rw [z4]
   exact q h' tk as z0 z2 z3
  | again c1=>
   refine ⟨x.1,a0A x.2 fun y s2 x=>?_⟩
   obtain ⟨h',tk,acc,c,as,rfl,rfl,z0,z1,z2,z3,z4⟩:=x
   refine Uy (m:=load s.heap.objs.size) (a0j z1 (UG ?_))
   show T acc.toList _
   rw [z4]
   exact q h' tk as z0 z2 z3
 ·obtain ⟨_,_,_,_,_,e',_⟩:=x
  cases e'
end
end L3
namespace L3
open PySem L2 PySem.W PyProof.Rows
section
variable {P:Va}{w:Vu}{A:Vh}{E:UC->UE->Prop}{s:UE}
theorem Od {v:UC}{Q:Bool->UE->Prop}(q:Q true s):U3 (U8 P w) A (eqBool v v) Q E s:=by
 unfold eqBool
 refine Vy ?_
 rw [if_pos (by simp)]
 exact Uy (YZ (UG q))
theorem Di:∀ k:List Int,HT.lexLt k k=false
 | []=>rfl
 | a::k=>by simp [HT.lexLt,Di k]
noncomputable def tE (P:Va)(w:Vu)(h:VL)(b:Addr)(k:List Int):Prop:=Tb.IsT P w h k b/\∃ xs:List UC,Xy h b xs.toArray/\Xe xs k
theorem Oe {a a' b b':Addr}{v v':UC}{k k':List Int}{C:Bool->UE->Prop}(hu:A.units<V3)(ga:s.heap.get? a=some { cls:=.type "tuple",data:=.seq #[.ref b,v] }) (ga':s.heap.get? a'=some { cls:=.type "tuple",data:=.seq #[.ref b',v'] })
  (hb:tE P w s.heap b k)(hb':tE P w s.heap b' k')(hv:k=k'->v=v')(q:C (HT.lexLt k k') s):U3 (U8 P w) A (keyLt' (tuples' false) (.ref a) (.ref a')) C (fun _ _=>False) s:=by
 refine kat_lt ga rfl ga' rfl ?_
 refine kat_cons ((Wu (WL P w)).eqBool hu hb.1 hb'.1 ?_)
 by_cases e:k=k'
 ·obtain rfl:=hv e
  subst e
  rw [decide_eq_true rfl]
  refine kat_yes (kat_cons (Od (kat_yes (kat_nil ?_))))
  rw [Di] at q
  exact q
 ·rw [decide_eq_false e]
  obtain ⟨xs,t1,i1⟩:=hb.2
  obtain ⟨ys,t2,i2⟩:=hb'.2
  refine kat_no (kat_one _ _ (HT.lt_tupInts t1 t2 (by simpa using i1) (by simpa using i2) hu ?_))
  exact q
noncomputable def n5 (P:Va)(w:Vu)(A:Vh)(us:List UC)(an:Nat->Nat->Bool)(s:UE):Prop:=
 U3 (U8 P w) A (keyKind' us.toArray) (fun κ s'=>s'=s/\∀ (i j:Nat)(C:Bool->UE->Prop),i<us.length->j<us.length->C (an i j) s->U3 (U8 P w) A (keyLt' κ (us.getD i .none) (us.getD j .none)) C (fun _ _=>False) s) (fun _ _=>False) s
theorem Of {es:Array VM}{lo:Addr}{as bs:List Addr}{ks:List (List Int)}(hu:A.units<V3)(p:PrsAt es lo s.heap as)(h0:0<as.length)(hl:as.length=es.size)(hk:ks.length=es.size)(hbl:bs.length=es.size)(key:∀ (j:Nat)(e:VM),es[j]? = some e->e.key=.ref (bs.getD j 0)/\tE P w s.heap (bs.getD j 0) (ks.getD j []))
  (nd:ks.Nodup):n5 P w A (as.map UP) (fun i j=>HT.lexLt (ks.getD i []) (ks.getD j [])) s:=by
 have at_:∀ i,i<as.length->∃ (e:VM),es[i]? = some e/\s.heap.get? (as.getD i 0)=some { cls:=.type "tuple",data:=.seq #[.ref (bs.getD i 0),e.val] }/\tE P w s.heap (bs.getD i 0) (ks.getD i []):=fun i hi=>by
  have ea:as[i]? = some (as.getD i 0):=by simp [VA,hi]
  obtain ⟨e,e1,e2⟩:=p.prs i _ ea
  obtain ⟨k1,k2⟩:=key i e e1
  rw [k1] at e2
  exact ⟨e,e1,e2,k2⟩
 unfold n5
 have tups:KatTups s.heap (as.map UP) (bs.map UP):=by
  have go:∀ (n:Nat)(as' bs':List Addr),as'.length=n->bs'.length=n->(∀ i,i<n->∃ v:UC,s.heap.get? (as'.getD i 0)=some { cls:=.type "tuple",data:=.seq #[.ref (bs'.getD i 0),v] })->KatTups s.heap (as'.map UP) (bs'.map UP):=by
   intro n
   induction n with
   | zero=>
    intro as' bs' h1 h2 _
    rw [X0.mp h1,X0.mp h2]
    exact .nil
   | succ n ih=>
    intro as' bs' h1 h2 h3
    match as',bs',h1,h2 with
    | x::as',y::bs',h1,h2=>
     obtain ⟨v,hv⟩:=h3 0 (by omega)
     refine .cons hv rfl rfl (by simp) (ih as' bs' (by simpa using h1) (by simpa using h2) fun i hi=>?_)
     have:=h3 (i+1) (by omega)
     simpa using this
  refine go as.length as bs rfl (by omega) fun i hi=>?_
  obtain ⟨e,_,e2,_⟩:=at_ i hi
  exact ⟨_,e2⟩
 refine kat_kind (T:=.type "tuple") tups (by rw [Uz];omega) (fun v hv=>?_) (by decide) ⟨rfl,fun i j C hi hj hC=>?_⟩
 ·obtain ⟨b,hb,rfl⟩:=UR.mp hv
  obtain ⟨i,hi⟩:=a1G.mp hb
  have hi':i<as.length:=by
   have:=(UA.mp hi).1
   omega
  obtain ⟨e,_,_,k2⟩:=at_ i hi'
  have:bs.getD i 0=b:=by simp [VA,hi]
  rw [this] at k2
  obtain ⟨xs,⟨o,o1,o2,_⟩,_⟩:=k2.2
  exact kitAt_ty _ _ ⟨o,o1,o2⟩
 ·rw [Uz] at hi hj
  obtain ⟨e,e1,e2,e3⟩:=at_ i hi
  obtain ⟨e',f1,f2,f3⟩:=at_ j hj
  have gi:(as.map UP).getD i .none=.ref (as.getD i 0):=by simp [VA,hi]
  have gj:(as.map UP).getD j .none=.ref (as.getD j 0):=by simp [VA,hj]
  rw [gi,gj]
  refine Oe hu e2 f2 e3 f3 (fun z=>?_) hC
  have hij:i=j:=by
   have h1:ks.getD i []=ks[i]:=by simp [VA,show i<ks.length by omega]
   have h2:ks.getD j []=ks[j]:=by simp [VA,show j<ks.length by omega]
   rw [h1,h2] at z
   rcases Yc i j with h|h|h
   ·exact absurd z ((VX.mp nd) i j (by omega) (by omega) h)
   ·exact h
   ·exact absurd z.symm ((VX.mp nd) j i (by omega) (by omega) h)
  subst hij
  rw [e1] at f1
  cases f1
  rfl
end
end L3
namespace L3
open PySem L2 PySem.W PyProof.Rows
section
variable {P:Va}{w:Vu}{A:Vh}{E:UC->UE->Prop}{s:UE}
theorem Dj {c:Addr}{us:List UC}{z:Nat}{R:PySem.Fin->UE->Prop}{an:Nat->Nat->Bool}(h2:2<=us.length)(h64:us.length<64)(g:s.heap.get? c=some (V5 "list" us.toArray z)) (H:∀ h3:VL,(∀ b o,b≠c->s.heap.get? b=some o->h3.get? b=some o)->n5 P w A us an { s with heap:=h3 })
  (q:R (.done (.ret .none)) { s with heap:=a1y s.heap c us ((cE an us.length).map fun i=>us.getD i VJ).toArray }):U3 (U8 P w) A (Builtin.«list.sort» ⟨[.ref c],[]⟩) R E s:=by
 rw [a4o]
 refine Uy (listItems_at g rfl (Uy (a0d g rfl ?_ (by rw [US,U4];omega) (Vk _))))
 obtain ⟨y,g1⟩:∃ y,(s.heap.update c (VW fun _=>#[])).get? c=some (V5 "list" #[] y):=⟨_,a4p g _⟩
 refine Uy (a1b g1 rfl (Uy (a1x (Uy (Y9 (Vy ?_) (Vk _))) (by show us.length<=_;rw [U4];omega))))
 have g6:(((s.heap.update c (VW fun _=>#[])).push (V5 "tuple" us.toArray 0)).push (V5 "list" #[] 0)).get? c=some (V5 "list" #[] y):=
  UD _ (UD _ g1)
 have ask:=H (((s.heap.update c (VW fun _=>#[])).push (V5 "tuple" us.toArray 0)).push (V5 "list" #[] 0)) fun b o hb e=>UD _ (UD _ ((V7 _ _ (VH hb)).trans e))
 show U3 (U8 P w) A _ R E ⟨((s.heap.update c (VW fun _=>#[])).push (V5 "tuple" us.toArray 0)).push (V5 "list" #[] 0),s.gens,s.drawn,s.toks,s.os⟩
 dsimp only
 have many:¬ us.toArray.size<2:=by rw [US];omega
 rw [if_neg many,if_neg many]
 refine Uy (VP ask (fun κ s' hk=>?_) fun _ _ x=>x.elim)
 obtain ⟨rfl,hk⟩:=hk
 refine Uy (VP (kat_run (ks:=us) (vs:=us) (κ:=κ) (Q:=fun st' s'=>s' = { s with heap:=((s.heap.update c (VW fun _=>#[])).push (V5 "tuple" us.toArray 0)).push (V5 "list" #[] 0) }/\failedOf st'=none/\(arrOf st').map (·.2)=((cE an us.length).map fun i=>us.getD i VJ).toArray)
  (G:=fun p s'=>s' = { s with heap:=((s.heap.update c (VW fun _=>#[])).push (V5 "tuple" us.toArray 0)).push (V5 "list" #[] 0) }/\p.toList=cE an us.length) rfl h2 h64 (fun p st' s' a1 a2 a3 a4=>⟨a4.1,a3,by rw [kat_snds rfl a2,a4.2]⟩)
  (wI (n:=us.length) (ans:=an) (fun i j C hi hj hC=>hk i j C hi hj hC) (wL (by omega)) ⟨rfl,rfl⟩)) (fun r s' hr=>?_) fun _ _ e=>e)
 obtain ⟨⟨⟩,st'⟩:=r
 obtain ⟨rfl,hf,hout⟩:=hr
 dsimp only at hf hout ⊢
 rw [hout]
 have hsz:((cE an us.length).map fun i=>us.getD i VJ).length=us.length:=by
  rw [Uz,(gD an (n:=us.length) (by omega)).length_eq,ZX]
 refine Uy (a1b g6 rfl (Uy (a0d g6 rfl ?_ (hsz2:=by rw [US,hsz,U4];omega))))
 rw [hf]
 simp only [bne_self_eq_false,UN,if_false]
 exact UG q
theorem Og {r d:Addr}{es:Array VM}{ep:Nat}{Q:UC->UE->Prop}{an:Nat->Nat->Bool}(hh:A.handled=none)(hv:s.heap.IsItemsView r d)(g:RawD s.heap d es ep)(h2:2<=es.size)(h64:es.size<64)
  (H:∀ (h3:VL)(tk:Nat)(as:List Addr),(∀ b o,s.heap.get? b=some o->h3.get? b=some o)->as.length=es.size->PrsAt es s.heap.objs.size h3 as->n5 P w A.in1.in1 (as.map UP) an { s with heap:=h3,toks:=tk })
  (q:∀ (h3:VL)(tk:Nat)(as:List Addr)(L e:Nat),(∀ b o,s.heap.get? b=some o->h3.get? b=some o)->as.length=es.size->PrsAt es s.heap.objs.size h3 as->s.heap.objs.size<=L->(∀ a∈as,a≠L)->h3.get? L=some (V5 "list" ((cE an es.size).map fun i=>UP (as.getD i 0)).toArray e)->Q (.ref L) { s with heap:=h3,toks:=tk }) :
  U3 (U8 P w) A (call (.builtin "sorted") [.ref r]) Q E s:=by
 refine YI a2W a2m a2o (a2p _) ?_
 unfold ZI
 refine Uy (m:=a3w "sorted" 1 1 _) (UG (Uy (Oc (A:=A.in1) hh hv g (by rw [U4];omega) fun h' tk as kp al pr=>?_)))
 have ul:(as.map UP).length=es.size:=by rw [Uz,al]
 refine Uy (Y9 ?_ (by rw [ul,U4];omega))
 have gL:(h'.push (V5 "list" (as.map UP).toArray 0)).get? h'.objs.size=some (V5 "list" (as.map UP).toArray 0):=UT _ rfl
 have hlo:s.heap.objs.size<=h'.objs.size:=by
  match as,al,pr with
  | [],al,_=>rw [Yu] at al;omega
  | a::as,_,pr=>exact YD (XH (pr.over a (U2 ..)) (pr.lt (U2 ..)))
 refine Uy (Vy (Wn ZN (s:={ s with heap:=h'.push (V5 "list" (as.map UP).toArray 0),toks:=tk }) ⟨_,gL,rfl⟩ ZA (Dj (an:=an) (by omega) (by omega) gL (fun h3 k3=>?_) ⟨_,rfl,?_⟩) (ZR _)))
 ·exact H h3 tk as (fun b o e=>k3 b o (UY (Vg (UK e) hlo)) (UD _ (kp b o e))) al (pr.stay fun b o hb e=>k3 b o (UY (UK e)) (UD _ e))
 ·obtain ⟨e,he⟩:=sortedHeap_at (h:=h'.push (V5 "list" (as.map UP).toArray 0)) (out:=((cE an (as.map UP).length).map fun i=>(as.map UP).getD i VJ).toArray) gL
  have old:∀ b o,h'.get? b=some o->(a1y (h'.push (V5 "list" (as.map UP).toArray 0)) h'.objs.size (as.map UP) ((cE an (as.map UP).length).map fun i=>(as.map UP).getD i VJ).toArray).get? b=some o:=fun b o x=>by
   rw [a4U (UY (UK x)) (by rw [X8];exact YW (UK x))]
   exact UD _ x
  refine UG ⟨_,rfl,q _ tk as h'.objs.size e (fun b o x=>old b o (kp b o x)) al (pr.stay fun b o _ x=>old b o x) hlo (fun a ha=>UY (pr.lt ha)) ?_⟩
  rw [he,ul]
  congr 2
  congr 1
  refine Vx fun i hi=>?_
  have hi:i<as.length:=by
   have:=VU.mp ((gD an (n:=es.size) (by omega)).mem_iff.mp hi)
   omega
  simp [VA,hi]
end
end L3
namespace L3
open PySem L2
section
variable {P:Va}{w:Vu}{A:Vh}{E:UC->UE->Prop}{s:UE}{a:Addr}
theorem Oh:Zq (.type "list") "keys" = pure none:=by rw [Zy,Ys];kernel_rfl
theorem Oi {o:Wf}{xs:Array UC}{k:Nat}{Q:Option UC->UE->Prop}(g:s.heap.get? a=some o)(g1:o.cls=.type "list") (g2:o.data=.seq xs k)(g3:o.dict=none)(hA:A.handled=none)
  (q:∀ h' tk,(∀ b u,s.heap.get? b=some u->h'.get? b=some u)->Q none { s with heap:=h',toks:=tk }):U3 (U8 P w) A (a2X (.ref a) "keys") Q E s:=by
 obtain ⟨c,dct,dat,sl⟩:=o
 dsimp only at g1 g2 g3
 subst g1 g2 g3
 obtain ⟨hp,gs,dr,tk,os⟩:=s
 have ty:∀ tk',(⟨hp,gs,dr,tk',os⟩:UE).TypeIs (.ref a) "list":=fun _=>⟨_,g,rfl⟩
 have e1:=a3s
 have e2:=F.slot_list_getattribute.lookup
 have e3:=F.slot_list_getattribute.bind (.ref a)
 have e4:=am_list_getattr_none
 unfold a2X getAttrBy? getAttrBy
 repeat (any_goals (first|assumption|exact ty _|((with_reducible show U3 _ _ (call (a0V "list.__getattribute__") _ _) _ _ _);refine XN F.slot_list_getattribute (ty _) am_entry_list_getattribute (F.args_list_getattribute_2 _ _) (meets_getattribute_miss_list a xs k sl "keys" _ Oh (by decide +kernel)) ⟨g,hA,fun h' tk' e ne=>?_⟩)|wp_step))
 obtain ⟨y1,y2,there⟩:=ne.there
 show U3 _ _ (Y1 _ _ _ _ none false false) _ _ _
 unfold Y1
 repeat (any_goals (first|assumption|wp_step))
 exact q _ _ ne.of.keeps
end
section
variable {X:Cx}{a5f:List (Addr×Wf)}{σ:St}{A:Vh}{d l it:Addr}{items:Array UC}{R:a0l->UE->Prop}
theorem Oj (hh:A.handled=none)(hu:A.in1.units<V3)(ld:l≠d)(li:l≠it):∀ (L:List (Addr×List Int×Addr×V))(i:Nat)(ps:bQ)(H:Hp)(s:UE),Inv X a5f σ H s->H d=some (aO d ps)->cU X.K H ps->s.heap.IsList l items->items.toList.drop i=L.map (fun r=>UP r.1)->
  (∀ r∈L,(∃ u,RelV r.2.2.2 u/\Xy s.heap r.1 #[.ref r.2.2.1,u])/\SqT X.K H r.2.2.1 (r.2.1.map V.int)/\r.1≠d/\r.1≠it)->fF X a5f H it->s.heap.IsListIter it l i->ps.length+L.length<=UM->
  (∀ s',Inv X a5f σ (aK H d (aO d (fP ps L))) s'->R (.ok (.ret .none)) s')->X7 (U8 X.prog X.w) A (.builtin "dict.update.loop" ⟨[.ref d,.ref it,XY i,.none],[]⟩) R s:=by
 intro L
 induction L with
 | nil=>
  intro i ps H s I e hk hl hd hr hf st hz q
  obtain ⟨f0,f1,f2,f3,f4,f5⟩:=hf
  have hlen:items.size<=i:=by
   have:=congrArg Vq hd
   simp at this
   omega
  refine W2 tB ?_
  rw [Wi k6 _]
  show U3 _ A.in1 (YG (.ref it) >>= _) _ _ s
  refine Uy (ZE hh st hl (X4 hlen) fun h' eb=>?_)
  have I1:Inv X a5f σ H { s with heap:=h' }:=I.turned (t':=s.toks) (fun b o hb e=>eb b o hb e) f0 f1 f3 f4 f5
  show U3 _ _ (Z0 d [] >>= _) _ _ _
  refine Uy (UG (UG (q _ ?_)))
  have:aK H d (aO d (fP ps []))=H:=by
   funext b
   unfold aK
   split
   ·rename_i z;rw [z];exact e.symm
   ·rfl
  rw [this]
  exact I1
 | cons r L ih=>
  intro i ps H s I e hk hl hd hr hf st hz q
  obtain ⟨f0,f1,f2,f3,f4,f5⟩:=id hf
  have hx:items[i]? = some (.ref r.1):=by
   have:=congrArg (·[0]?) hd
   simpa using this
  refine W2 tB ?_
  rw [Wi k6 _]
  show U3 _ A.in1 (YG (.ref it) >>= _) _ _ s
  refine Uy (Zo st hl hx fun h' st' sb=>?_)
  have I1:Inv X a5f σ H { s with heap:=h' }:=I.turned (t':=s.toks) (fun b o hb e=>(sb.2 b hb).trans e) f0 f1 f3 f4 f5
  obtain ⟨⟨u,ru,t0⟩,sq,r1,r2⟩:=hr r (U2 ..)
  have t1:Xy ({ s with heap:=h' }:UE).heap r.1 #[.ref r.2.2.1,u]:=let ⟨o,o1,o2⟩:=t0;⟨o,sb.extBut _ o r2 o1,o2⟩
  refine Uy (Vy (Uy (a4R (Dc t1 ?_))))
  have hps:ps.length<UM:=by
   rw [Vm] at hz
   omega
  refine Vy (w8 hu I1 e hk sq hps ru fun s' I2 kp=>?_)
  refine UG ⟨W9 k6 _,?_⟩
  have bL:it≠d:=fun z=>by
   rw [<- z,f0] at e
   cases e
  have hrest:∀ x∈L,(∃ u,RelV x.2.2.2 u/\Xy s'.heap x.1 #[.ref x.2.2.1,u])/\SqT X.K (aK H d (aO d (cY ps r.2.1 r.2.2.1 r.2.2.2))) x.2.2.1 (x.2.1.map V.int)/\x.1≠d/\x.1≠it:=fun x hx=>by
   obtain ⟨⟨u',ru',⟨o,o1,o2⟩⟩,sq',x1,x2⟩:=hr x (UX _ hx)
   exact ⟨⟨u',ru',o,kp _ o x1 (sb.extBut _ o x2 o1),o2⟩,k7 e sq',x1,x2⟩
  have hdr:items.toList.drop (i+1)=L.map (fun r=>UP r.1):=by
   have:=congrArg a5d hd
   simpa [a3l] using this
  refine ih (i+1) (cY ps r.2.1 r.2.2.1 r.2.2.2) _ s' I2 cV (C9 (fun p hp=>k7 e (hk p hp)) (k7 e sq)) ?_ hdr hrest ⟨by rw [bE bL];exact f0,f1,f2,f3,f4,f5⟩ (st'.at fun o ho=>kp it o bL ho) ?_ fun s'' I''=>q s'' ?_
  ·obtain ⟨o,o1,o2⟩:=hl
   exact ⟨o,kp l o ld (sb.extBut l o li o1),o2⟩
  ·have:=pX ps r.2.1 r.2.2.1 r.2.2.2
   rw [Vm] at hz
   omega
  ·rw [tD] at I''
   exact I''
end
end L3
namespace L3
open PySem L2
theorem Dk:∀ (L:List (Addr×List Int×Addr×V))(ps:bQ),(ps.map (·.1)++L.map (·.2.1)).Nodup->fP ps L=ps++L.map (·.2)
 | [],ps,_=>by simp [fP]
 | r::L,ps,h=>by
  have hn:r.2.1∉ps.map (·.1):=fun z=>by
   rw [UQ] at h
   exact (WV.mp h).2.2 _ z _ (U2 ..) rfl
  have e:cY ps r.2.1 r.2.2.1 r.2.2.2=ps++[r.2]:=by
   unfold cY
   rw [if_neg]
   intro z
   obtain ⟨v,hv⟩:=XJ.mp z
   unfold dO at hv
   obtain ⟨p,h1,_⟩:=UB.mp hv
   have h2:=a3c h1
   simp only [decide_eq_true_eq] at h2
   exact hn (UR.mpr ⟨p,YL h1,h2⟩)
  show fP (cY ps r.2.1 r.2.2.1 r.2.2.2) L=_
  rw [e,Dk L _ (by simpa using h)]
  simp
section
variable {X:Cx}{a5f:List (Addr×Wf)}{σ:St}{H:Hp}{s:UE}
theorem Ol (hc:X.calm=true)(hun:X.A.units+64<V3)(I:Inv X a5f σ H s){l:Addr}{e:Nat}{L:List (Addr×List Int×Addr×V)}{Q:VK}(gL:s.heap.get? l=some { cls:=.type "list",data:=.seq (L.map fun r=>UP r.1).toArray e }) (hl:L.length<=UM)
  (hr:∀ r∈L,(∃ u,RelV r.2.2.2 u/\Xy s.heap r.1 #[.ref r.2.2.1,u])/\SqT X.K H r.2.2.1 (r.2.1.map V.int))(k:∀ d,H d=none->Q (.ref d) (aK H d (aO d (fP [] L)))) :
  U3 (U8 X.prog X.w) X.A (call (.type "dict") [.ref l]) (EP X a5f σ Q) X.xe s:=by
 have hn:H s.heap.objs.size=none:=I.hok.fresh (UJ _)
 refine ZQ (Q₁:=fun obj s₁=>obj=.ref s.heap.objs.size/\s₁ = { s with heap:=s.heap.push { cls:=.type "dict",data:=.dict #[] } }) F.kt_called_dict (F.kt_typeCall_dict_1 _) F.entry_dict_init (a0T _ ⟨rfl,rfl⟩) ?_
 rintro obj s₁ ⟨rfl,rfl⟩
 have I0:Inv X a5f σ (aK H s.heap.objs.size (aO s.heap.objs.size [])) { s with heap:=s.heap.push { cls:=.type "dict",data:=.dict #[] } }:=I.laid (a:=s.heap.objs.size) (o:=aO s.heap.objs.size []) (t':=s.toks) (fun _ _ q=>UD _ q) (UJ _) (sV s.heap I.big)
 have ty:({ s with heap:=s.heap.push { cls:=.type "dict",data:=.dict #[] } }:UE).TypeIs (.ref s.heap.objs.size) "dict":=⟨_,UT _ rfl,rfl⟩
 refine ⟨ty,F.args_dict_init_2 _ _,?_⟩
 unfold Builtin.«dict.__init__»
 refine Uy ?_
 unfold Yv
 refine Uy (V4 ty ?_)
 show U3 _ _ (pure (s.heap.objs.size,[UP l])) _ _ _
 refine UG ?_
 show U3 _ _ (Ww "dict.__init__" s.heap.objs.size (.ref l) [] .none) _ _ _
 unfold Ww
 have mono:∀ {b:Addr}{vs:List V},SqT X.K H b vs->SqT X.K (aK H s.heap.objs.size (aO s.heap.objs.size [])) b vs:=fun {b vs} z=>by
  have ne:H b≠none->b≠s.heap.objs.size:=fun f y=>by rw [y] at f;exact f hn
  rcases z with (z|⟨ob,z⟩)|z
  ·exact .inl (.inl (by rw [bE (ne (by rw [z];exact fun y=>nomatch y))];exact z))
  ·exact .inl (.inr ⟨ob,by rw [bE (ne (by rw [z];exact fun y=>nomatch y))];exact z⟩)
  ·exact .inr z
 have g0:=UD { cls:=.type "dict",data:=.dict #[] } gL
 refine Uy (YO (T:="list") ⟨_,g0,rfl⟩ ?_)
 rw [if_pos (by decide)]
 refine Uy (Oi g0 rfl rfl rfl (I.ok.hd hc) fun h' tk kp=>?_)
 have I1:Inv X a5f σ (aK H s.heap.objs.size (aO s.heap.objs.size [])) { s with heap:=h',toks:=tk }:=I0.kept (t':=tk) kp
 show U3 _ _ (rule _ >>= _) _ _ _
 refine Uy (YZ ?_)
 have hl1:({ s with heap:=h',toks:=tk }:UE).heap.IsList l (L.map fun r=>UP r.1).toArray:=⟨_,kp _ _ g0,rfl,_,rfl⟩
 refine Uy (Yi hl1 ?_)
 have I2:=I1.kept (t':=tk) (h':=h'.push { cls:=.type "list_iterator",data:=.fields #[.ref l,.int 0 0] }) fun b o e=>UD _ e
 refine UG ⟨W9 k6 _,?_⟩
 have lt1:∀ {b:Addr}{o:Wf},s.heap.get? b=some o->b≠s.heap.objs.size:=fun x=>UY (UK x)
 have lt2:∀ {b:Addr}{o:Wf},s.heap.get? b=some o->b≠h'.objs.size:=fun x=>UY (UK (kp _ _ (UD _ x)))
 refine Oj (A:=X.A.in1) (items:=(L.map fun r=>UP r.1).toArray) (I.ok.hd hc) (by show X.A.units+1+1<V3;omega) (lt1 gL) (lt2 gL) L 0 [] _ _ I2 cV (fun p hp=>nomatch hp) (let ⟨o,o1,o2⟩:=hl1;⟨o,UD _ o1,o2⟩) (by simp) (fun r hr'=>?_) (I1.fpOk (UJ _) (I1.hok.fresh (UJ _))) ⟨_,UT _ rfl,rfl,rfl⟩ (by simpa using hl) fun s' I'=>?_
 ·obtain ⟨⟨u,ru,o,o1,o2⟩,sq⟩:=hr r hr'
  exact ⟨⟨u,ru,o,UD _ (kp _ _ (UD _ o1)),o2⟩,mono sq,lt1 o1,lt2 o1⟩
 ·rw [tD] at I'
  exact ⟨rfl,.ref s.heap.objs.size,_,I',rfl,k _ hn⟩
end
end L3
namespace L3
open PySem L2
noncomputable def e6 (ps:bQ):bQ:=(cE (fun i j=>HT.lexLt ((ps.map (·.1)).getD i []) ((ps.map (·.1)).getD j [])) ps.length).map fun i=>ps.getD i ([],0,.non)
theorem Dl {ps:bQ}(h:0<ps.length):(e6 ps).Perm ps:=by
 unfold e6
 have p:=(gD (fun i j=>HT.lexLt ((ps.map (·.1)).getD i []) ((ps.map (·.1)).getD j [])) h).map fun i=>ps.getD i ([],0,.non)
 have e:(Vv ps.length).map (fun i=>ps.getD i ([],0,.non))=ps:=by
  refine a2N (by simp) fun i h1 h2=>?_
  simp [VA,h2]
 rw [e] at p
 exact p
section
variable {X:Cx}{a5f:List (Addr×Wf)}{σ:St}{H:Hp}{s:UE}
theorem Om (hc:X.calm=true)(hun:X.A.units+64<V3)(I:Inv X a5f σ H s){d r:Addr}{ps:bQ}{Q:VK}(e:H d=some (aO d ps))(hk:cU X.K H ps)(h2:2<=ps.length)(h64:ps.length<64)(hv:s.heap.IsItemsView r d)(k:∀ l,H l=none->Q (.ref l) (aK H l (aO l (e6 ps)))) :
  U3 (U8 X.prog X.w) X.A (call (.builtin "sorted") [.ref r]) (fun v s'=>U3 (U8 X.prog X.w) X.A (call (.type "dict") [v]) (EP X a5f σ Q) X.xe s') X.xe s:=by
 obtain ⟨lo,hl,ws,rv,z,es,ep,z1,z2,z3,z4,z5,z6⟩:=iB I (.of e) hk
 have hwl:ws.length=ps.length:=by
  have:=rv.length
  rw [Uz] at this
  exact this.symm
 have hxl:(bM ps ws).length=ps.length:=by unfold bM;rw [List.length_zipWith,hwl,Nat.min_self]
 have hes:es.size=ps.length:=by rw [<- WD,z4,Uz,hxl]
 have nd:(ps.map (·.1)).Nodup:=by rw [kC rv] at z6;exact z6
 have at_:∀ (j:Nat)(en:VM),es[j]? = some en->∃ p u,ps[j]? = some p/\ws[j]? = some u/\en.key=.ref p.2.1/\en.val=u:=fun j en h=>by
  rw [<- Wb,z4,Vd] at h
  obtain ⟨x,h1,rfl⟩:=UB.mp h
  unfold bM at h1
  rw [a1H] at h1
  cases hp:ps[j]? with
  | none=>rw [hp] at h1;simp at h1
  | some p=>
   cases hw:ws[j]? with
   | none=>rw [hp,hw] at h1;simp at h1
   | some u=>
    rw [hp,hw] at h1
    have:(p.1,p.2.1,u)=x:=by simpa using h1
    subst this
    exact ⟨p,u,rfl,rfl,rfl,rfl⟩
 refine Og (an:=fun i j=>HT.lexLt ((ps.map (·.1)).getD i []) ((ps.map (·.1)).getD j [])) (I.ok.hd hc) hv ⟨z,z1,z2,z3⟩ (by omega) (by omega) (fun h3 tk as kp al pr=>?_) (fun h3 tk as L en kp al pr hL nL gL=>?_)
 ·have I3:Inv X a5f σ H { s with heap:=h3,toks:=tk }:=I.kept (t':=tk) kp
  refine Of (A:=X.A.in1.in1) (s:={ s with heap:=h3,toks:=tk }) (bs:=ps.map (·.2.1)) (ks:=ps.map (·.1)) (by show X.A.units+1+1<V3;omega) pr (by omega) al (by rw [Uz,hes]) (by rw [Uz,hes]) (fun j en hj=>?_) nd
  obtain ⟨p,u,p1,p2,p3,p4⟩:=at_ j en hj
  have hjl:j<ps.length:=(UA.mp p1).1
  have eb:(ps.map (·.2.1)).getD j 0=p.2.1:=by simp [VA,p1]
  have ek:(ps.map (·.1)).getD j []=p.1:=by simp [VA,p1]
  rw [eb,ek]
  have sq:=hk p (Ve p1)
  refine ⟨p3,j8 I3 sq,?_⟩
  obtain ⟨xs,rx,t,_⟩:=I3.tuple sq
  exact ⟨xs,t,Cm rx⟩
 ·have I3:Inv X a5f σ H { s with heap:=h3,toks:=tk }:=I.kept (t':=tk) kp
  rw [hes] at gL
  have hsl:=(gD (fun i j=>HT.lexLt ((ps.map (·.1)).getD i []) ((ps.map (·.1)).getD j [])) (n:=ps.length) (by omega))
  have hin:∀ i∈cE (fun i j=>HT.lexLt ((ps.map (·.1)).getD i []) ((ps.map (·.1)).getD j [])) ps.length,i<ps.length:=fun i hi=>VU.mp (hsl.mem_iff.mp hi)
  generalize hix:cE (fun i j=>HT.lexLt ((ps.map (·.1)).getD i []) ((ps.map (·.1)).getD j [])) ps.length=ix at gL hsl hin
  have hst:e6 ps=ix.map fun i=>ps.getD i ([],0,.non):=by unfold e6;rw [hix]
  refine Ol hc hun I3 (L:=ix.map fun i=>(as.getD i 0,ps.getD i ([],0,.non))) (e:=en) ?_ (by rw [Uz,hsl.length_eq,ZX];exact hl) (fun r hr=>?_) fun l hl'=>?_
  ·rw [UU]
   exact gL
  ·obtain ⟨i,hi,rfl⟩:=UR.mp hr
   have hi':=hin i hi
   have hia:as[i]? = some (as.getD i 0):=by simp [VA,show i<as.length by omega]
   obtain ⟨x,x1,x2⟩:=pr.prs i _ hia
   obtain ⟨p,u,p1,p2,p3,p4⟩:=at_ i x x1
   have ep:ps.getD i ([],0,.non)=p:=by simp [VA,p1]
   dsimp only
   rw [ep]
   obtain ⟨u',g1,g2⟩:=rv.get (i:=i) (x:=p.2.2) (by rw [Vd,p1];rfl)
   rw [p2] at g1
   cases g1
   rw [p3,p4] at x2
   exact ⟨⟨u,g2,_,x2,rfl,_,rfl⟩,hk p (Ve p1)⟩
  ·have hf:fP [] (ix.map fun i=>(as.getD i 0,ps.getD i ([],0,.non)))=e6 ps:=by
    rw [Dk _ [] ?_,Vf,UU,hst]
    ·rfl
    ·rw [XD,Vf,UU]
     have pm:=(Dl (ps:=ps) (by omega)).map (·.1)
     rw [hst,UU] at pm
     exact pm.nodup_iff.mpr nd
   rw [hf]
   exact k l hl'
end
end L3
namespace L3
open PySem L2
section
variable {P:Va}{w:Vu}
theorem Oo (d:Addr)(hd:(d == VO)=false):a3Q P w (Builtin.«dict.items» ⟨[.ref d],[]⟩) (fun _ R s=>(∃ es ep,RawD s.heap d es ep) /\
   R (.ok (.ret (.ref s.heap.objs.size))) { s with heap:=s.heap.push { cls:=.type "dict_items",data:=.fields #[.ref d] } }):=
 .of_wp fun A R s ⟨⟨es,ep,g⟩,h⟩=>by
  unfold Builtin.«dict.items»
  refine Uy ?_
  unfold a0H
  refine Uy (V4 g.ty ?_)
  show U3 _ _ (pure d) _ _ s
  refine UG ?_
  show U3 _ _ (WC d >>= _) _ _ s
  unfold WC
  rw [if_neg (by rw [hd];exact Vn)]
  refine Uy (UG ?_)
  exact Uy (Wt (UG ⟨_,rfl,h⟩))
end
noncomputable def Dm (K:Ux):V->List V->Hp->VK->Prop:=fun x _ H Q=>∃ a ps,x=.ref a/\H a=some (aO a ps)/\cU K H ps/\2<=ps.length/\ps.length<64/\∀ l,H l=none->Q (.ref l) (aK H l (aO l (e6 ps)))
section
variable {X:Cx}{o:UO}{to:TE}{apos cpos p p2 pos pos2:Wl}
theorem Oq (hc:X.calm=true)(hun:X.A.units+64<V3)(hm1:X.mg "sorted" = none) (hm2:X.mg "dict" = none) (hg1:Gl X "sorted") (hg2:Gl X "dict") (ho:PE X o to)
  (hbase:Xx o "items" X.env (eval o X.env)=eval o X.env) (hline:(apos.endLine == cpos.line)=true) :
  PE X (.Call (.Name "dict" p) [.Call (.Name "sorted" p2) [.Call (.Attribute o "items" apos) [] [] cpos] [] pos2] [] pos) (fun σ H Q=>to σ H fun x H1=>Dm X.K x [] H1 Q):=by
 intro a5f s σ H Q I h
 refine Wx (iM I hg2 hm2 Xa ?_)
 refine V0 ?_ rfl rfl
 refine YE ?_
 refine Wx (iM I hg1 hm1 XZ ?_)
 refine Zj ?_ rfl rfl
 refine YE ?_
 refine Zh hbase hline (aU (ho a5f s σ H _ I h) fun v s1 ⟨x,H1,I1,r1,a,ps,ex,e,hk,h2,h64,q⟩=>?_)
 subst ex
 obtain rfl:v=UP a:=r1
 obtain ⟨lo,hl,es,ep,g,he⟩:=k5 I1 e hk
 refine ⟨"dict","dict.items",YQ,a0J,PySem.F.type_dict_items,g.ty,fun b eb=>?_,Xb rfl (Zt ?_)⟩
 ·cases eb
  obtain ⟨z,g1,g2,_⟩:=g
  exact ⟨z,g1,g2.2.1⟩
 refine Zs a0J g.ty PySem.F.entry_dict_items (PySem.F.args_dict_items_1 _) (Oo a lo) ⟨⟨es,ep,g⟩,?_⟩
 refine YN ?_
 have I2:Inv X a5f σ H1 { s1 with heap:=s1.heap.push { cls:=.type "dict_items",data:=.fields #[.ref a] } }:=I1.kept (t':=s1.toks) fun b o e=>UD _ e
 refine aU (Om hc hun I2 e hk h2 h64 ⟨_,UT _ rfl,rfl,rfl⟩ q) fun v s' hv=>YN hv
end
noncomputable def dP (kvs:List (List Int×D)):List (List Int×D):=(cE (fun i j=>HT.lexLt ((kvs.map (·.1)).getD i []) ((kvs.map (·.1)).getD j [])) kvs.length).map fun i=>kvs.getD i ([],.non)
noncomputable def n6:D->Hm->Option (D×Hm)
 | .loc a,μ=>match μ[a]? with
  | some (.dT kvs)=>if 2<=kvs.length/\kvs.length<64 then some (.loc μ.length,μ++[.dT (dP kvs)]) else none
  | _=>none
 | _,_=>none
noncomputable def n8 (m:ME):ME:=fun ρ μ=>(m ρ μ).bind fun r=>n6 r.1 r.2
theorem Ot {α β:Type}{R:α->β->Prop}{as:List α}{bs:List β}(h:Yo R as bs)(a0:α)(b0:β):∀ i,i<as.length->R (as.getD i a0) (bs.getD i b0):=by
 induction h with
 | nil=>exact fun i hi=>nomatch hi
 | cons e t ih=>
  intro i hi
  cases i with
  | zero=>exact e
  | succ i=>exact ih i (by simpa using hi)
theorem Dn {α β:Type}{R:α->β->Prop}{f:Nat->α}{g:Nat->β}:∀ {l:List Nat},(∀ i∈l,R (f i) (g i))->Yo R (l.map f) (l.map g)
 | [],_=>.nil
 | i::l,h=>.cons (h i (U2 ..)) (Dn fun j hj=>h j (UX _ hj))
theorem Dp {K:Ux}{π:Nat->Addr}{n:Nat}{H:Hp}{ps:bQ}{kvs:List (List Int×D)}(h:IsTs K π n H ps kvs)(h0:0<kvs.length):ps.length=kvs.length/\IsTs K π n H (e6 ps) (dP kvs):=by
 have ek:=h.to.1
 have el:ps.length=kvs.length:=by
  have:=congrArg Vq ek
  simpa using this
 refine ⟨el,?_⟩
 unfold e6 dP
 rw [ek,el]
 refine Dn fun i hi=>Ot h _ _ i ?_
 have:=VU.mp ((gD _ (n:=kvs.length) h0).mem_iff.mp hi)
 omega
theorem Ou {K:Ux}{mo:ME}:∀ σ H Q,tM K (n8 mo) σ H Q->tM K mo σ H fun x H1=>Dm K x [] H1 Q:=by
 rintro σ H Q ⟨π,ρ,μ,d,μ',R,E,hm,k⟩
 obtain ⟨⟨x,μ1⟩,h1,hm⟩:=Uw.mp hm
 refine ⟨π,ρ,μ,x,μ1,R,E,h1,fun π1 v1 H1 e1 R1 i1=>?_⟩
 have k1:=k.after e1
 dsimp only at hm
 unfold n6 at hm
 split at hm
 ·split at hm
  ·rename_i kvs hc
   split at hm
   ·rename_i hb
    cases hm
    cases i1
    obtain ⟨ps,e2,T⟩:=eQ R1 hc
    obtain ⟨el,T2⟩:=Dp T (by omega)
    refine ⟨_,ps,rfl,e2,T.keys,by omega,by omega,fun l hl=>?_⟩
    obtain ⟨e3,R3,q3⟩:=R1.alloc (c:=.dT (dP kvs)) (o:=aO l (e6 ps)) hl ⟨_,rfl,T2.to.1,T2.to.2.1,T2.to.2.2⟩
    exact k1 _ _ _ e3 R3 eM
   ·cases hm
  ·cases hm
 ·cases hm
theorem Ov {X:Cx}{o:UO}{mo:ME}{apos cpos p p2 pos pos2:Wl}(hc:X.calm=true)(hun:X.A.units+64<V3)(hm1:X.mg "sorted" = none) (hm2:X.mg "dict" = none) (hg1:Gl X "sorted") (hg2:Gl X "dict") (ho:QE X o mo)(hs:kS o=true)(hl:(apos.endLine == cpos.line)=true) :
  QE X (.Call (.Name "dict" p) [.Call (.Name "sorted" p2) [.Call (.Attribute o "items" apos) [] [] cpos] [] pos2] [] pos) (n8 mo):=
 ⟨cO (Oq hc hun hm1 hm2 hg1 hg2 ho.h (kT hs) hl) Ou⟩
end L3
namespace L3
open PySem L2
noncomputable def n9 (mk mv:ME):ME:=fun ρ μ=>(mk ρ (μ++[.dT []])).bind fun p=>(mv ρ p.2).bind fun q=>match q.2[μ.length]? with
 | some (.dT [])=>(cS p.1).map fun k=>(.loc μ.length,q.2.set μ.length (.dT [(k,q.1)]))
 | _=>none
section
variable {X:Cx}{k v:UO}{mk mv:ME}{tk tv:TE}{pos:Wl}
noncomputable def Ox (K:Ux)(tk tv:TE):TE:=fun σ H Q=>∀ p,H p=none->tk σ (aK H p (aO p [])) fun x H1=>tv σ H1 fun y H2=>H2 p=some (aO p [])/\∃ b kk,x=.ref b/\SqT K H2 b (kk.map V.int)/\Q (.ref p) (aK H2 p (aO p [(kk,b,y)]))
theorem Oy (hu:X.A.units+1<V3)(hk:PE X k tk)(hv:PE X v tv):PE X (.Dict [some k] [v] pos) (Ox X.K tk tv):=by
 intro a5f s σ H Q I q
 have hn:=I.hok.fresh (UJ s.heap.objs.size)
 have I1:=I.laid (a:=s.heap.objs.size) (o:=aO s.heap.objs.size []) (h':=s.heap.push { cls:=.type "dict",data:=.dict #[] }) (t':=s.toks) (fun _ _ q=>UD _ q) (UJ _) (sV s.heap I.big)
 refine wpAny_Dict_any rfl rfl (by simp) (by simp) (pairTrees_cons_walk (aU (hk a5f _ σ _ _ I1 (q _ hn)) fun u s1 ⟨x,H1,I2,rx,q1⟩=>aU (hv a5f s1 σ H1 _ I2 q1) fun u2 s2 ⟨y,H2,I3,ry,e,b,kk,ex,hb,q2⟩=>pairTrees_nil_walk ?_))
 subst ex
 obtain rfl:u=UP b:=rx
 unfold storeAll
 refine Uy (Uy (w8 (by omega) I3 e (fun p hp=>nomatch hp) hb (by rw [U4];simp) ry fun s' I' _=>UG (UG ?_)))
 exact ⟨.ref s.heap.objs.size,_,I',rfl,q2⟩
theorem Oz {n:Nat}(hr:Room n X.A)(hk:QE X k mk)(hv:QE X v mv):QE X (.Dict [some k] [v] pos) (n9 mk mv):=⟨cO (Oy (eP hr) hk.h hv.h) (by
 rintro σ H Q ⟨π,ρ,μ,d,μ',R,E,hm,kc⟩ p hp
 obtain ⟨⟨x,μ1⟩,h1,hm⟩:=Uw.mp hm
 obtain ⟨⟨y,μ2⟩,h2,hm⟩:=Uw.mp hm
 obtain ⟨e1,R1,q1⟩:=R.alloc (c:=.dT []) (o:=aO p []) hp ⟨[],rfl,rfl,.nil,.nil⟩
 refine ⟨_,ρ,_,x,μ1,R1,E.mono e1,h1,fun π1 v1 H1 e2 R2 i1=>⟨π1,ρ,μ1,y,μ2,R2,(E.mono e1).mono e2,h2,fun π2 v2 H2 e3 R3 i2=>?_⟩⟩
 dsimp only at hm
 split at hm
 ·rename_i hc
  obtain ⟨kk,hkk,hm⟩:=UB.mp hm
  cases hm
  have hlt:μ.length<μ2.length:=(UA.mp hc).1
  have hl1:(μ++[C.dT []]).length<=μ1.length:=e2.le
  have hpi:π2 μ.length=p:=by rw [e3.pi μ.length (by simp at hl1;omega),e2.pi μ.length (by simp),q1]
  obtain ⟨ps,f1,T⟩:=eQ R3 hc
  cases T
  obtain ⟨b,rfl,hb⟩:=kD (i1.mono e3) hkk
  obtain ⟨e4,R4⟩:=R3.put (a:=μ.length) (c:=.dT [(kk,y)]) (o:=aO _ [(kk,b,v2)]) hlt f1 (.inr (.inr ⟨_,rfl⟩)) (by
   have T':IsTs X.K π2 μ2.length H2 [(kk,b,v2)] [(kk,y)]:=.cons ⟨rfl,hb,i2⟩ .nil
   exact ⟨_,rfl,T'.to.1,T'.to.2.1,T'.to.2.2⟩)
  rw [hpi] at f1 e4 R4
  refine ⟨f1,b,kk,rfl,hb,kc π2 _ _ (((e1.trans e2).trans e3).trans e4) R4 ?_⟩
  rw [<- hpi]
  exact .loc (by rw [Wg];exact hlt)
 ·cases hm)⟩
end
end L3
namespace L3
open PySem L2
section
variable {X:Cx}{a5f pins0:List (Addr×Wf)}{σ σ0:St}{H H0:Hp}{s s0:UE}{a:Addr}{ps ps0:bQ}{ob:Wf}
theorem Inv.freeze (I:Inv X a5f σ H s)(e:H a=some (aO a ps))(ho:s.heap.get? a=some ob):Inv X a5f σ (aK H a (.frz ob (aO a ps))) s:=by
 have ok:ObjOk X.prog X.w H s.heap a (aO a ps):=I.hok a _ e
 exact I.write (x:=a) (e:=a) (h':=s.heap) (t':=s.toks) (by rw [e];exact WZ) (.inl rfl) (fun b q _ z=>z) ⟨ob,ho⟩ ⟨ho,ok⟩
theorem Inv.thaw (I0:Inv X pins0 σ0 H0 s0)(e0:H0 a=some (aO a ps0))(I:Inv X a5f σ H s)(e:H a=some (.frz ob (aO a ps))):Inv X a5f σ (aK H a (aO a ps)) s:=by
 have ne:∀ {b:Addr},H b=none->b≠a:=fun {b} h z=>by rw [z,e] at h;cases h
 refine ⟨I.ok,I.os,I.bare,⟨I.base.keep,I.base.slot,fun b o h1 h2 h3=>?_,I.base.there,fun b xs h=>?_,fun b o u h=>?_,fun b qs h=>?_⟩,I.loc,I.cell,?_,fun x c h=>?_,fun p hp=>?_,fun b u q=>?_,I.len⟩
 ·have:=I.base.free b o h1 h2 h3
  rw [bE (ne this)];exact this
 ·have:=I.base.tups b xs h
  rw [bE fun z=>by rw [z,e] at this;cases this];exact this
 ·have:=I.base.frzs b o u h
  rw [bE fun z=>by
   have z0:=I0.base.frzs b o u h
   rw [z,e0] at z0;cases z0]
  exact this
 ·obtain ⟨more,h1⟩:=I.base.tbls b qs h
  exact ⟨more,by rw [bE fun z=>by rw [z,e] at h1;cases h1];exact h1⟩
 ·rw [bE (ne I.free)];exact I.free
 ·have:=I.freeC x c h
  rw [bE (ne this)];exact this
 ·obtain ⟨h1,h2,h3⟩:=I.pin p hp
  exact ⟨h1,by rw [bE (ne h2)];exact h2,h3⟩
 ·by_cases hb:b=a
  ·subst hb
   rw [cV] at q
   cases q
   exact (show ObjOk X.prog X.w H s.heap b (.frz ob (aO b ps)) from I.hok b _ e).2
  ·rw [bE hb] at q
   exact (I.hok b u q).stay (fun _ _ _ z=>z) (fun c h=>by rw [bE fun z=>by rw [z,e] at h;cases h];exact h) fun c xs h=>by rw [bE fun z=>by rw [z,e] at h;cases h];exact h
end
noncomputable def oA (i:Nat)(ρ:aL)(μ:Hm):Option (Nat×List (List Int×D)):=match ρ[i]? with
 | some (some (.loc a))=>match μ[a]? with
  | some (.dT kvs)=>some (a,kvs)
  | _=>none
 | _=>none
theorem Dq {i:Nat}{ρ:aL}{μ:Hm}{a:Nat}{kvs:List (List Int×D)}(h:oA i ρ μ=some (a,kvs)):μ[a]? = some (.dT kvs):=by
 unfold oA at h
 split at h
 ·split at h
  ·rename_i hc
   cases h
   exact hc
  ·cases h
 ·cases h
noncomputable def oB (i:Nat)(m1 m2:ME):ME:=fun ρ μ=>match oA i ρ μ with
 | some (a,kvs)=>(m1 ρ (μ.set a (.dF kvs))).bind fun r=>match r.2[a]? with
  | some (.dF kvs')=>some (r.1,r.2.set a (.dT kvs'))
  | _=>none
 | none=>m2 ρ μ
noncomputable def tF (i:Nat)(m1 m2:MS):MS:=fun ρ μ=>match oA i ρ μ with
 | some (a,kvs)=>(m1 ρ (μ.set a (.dF kvs))).bind fun r=>match r.2.2[a]? with
  | some (.dF kvs')=>some (r.1,r.2.1,r.2.2.set a (.dT kvs'))
  | _=>none
 | none=>m2 ρ μ
section
variable {X:Cx}{a5f:List (Addr×Wf)}{σ:St}{H:Hp}{s:UE}{π:Nat->Addr}{ρ:aL}{μ:Hm}{a:Nat}{kvs:List (List Int×D)}
theorem Dr (I:Inv X a5f σ H s)(R:Rp X.K π H μ)(E:En X.K π μ.length H σ ρ)(hc:μ[a]? = some (.dT kvs)):∃ ob ps,H (π a)=some (aO (π a) ps)/\Inv X a5f σ (aK H (π a) (.frz ob (aO (π a) ps))) s /\
  Rp X.K π (aK H (π a) (.frz ob (aO (π a) ps))) (μ.set a (.dF kvs))/\En X.K π (μ.set a (.dF kvs)).length (aK H (π a) (.frz ob (aO (π a) ps))) σ ρ:=by
 obtain ⟨ps,e1,T⟩:=eQ R hc
 obtain ⟨_,⟨ob,ho⟩,_⟩:=(show ObjOk X.prog X.w H s.heap (π a) (aO (π a) ps) from I.hok _ _ e1)
 obtain ⟨e2,R2⟩:=R.put (c:=.dF kvs) (o:=.frz ob (aO (π a) ps)) (UA.mp hc).1 e1 (.inr (.inr ⟨_,rfl⟩)) ⟨ob,ps,rfl,T.to⟩
 exact ⟨ob,ps,e1,Inv.freeze I e1 ho,R2,E.mono e2⟩
theorem qE {pins':List (Addr×Wf)}{σ':St}{H':Hp}{s':UE}{π':Nat->Addr}{μ':Hm}{ob:Wf}{ps:bQ}{kvs':List (List Int×D)}(I:Inv X a5f σ H s)(e:H (π a)=some (aO (π a) ps))(ha:a<μ.length)
  (I':Inv X pins' σ' H' s')(R':Rp X.K π' H' μ')(e':Ext π (μ.set a (.dF kvs)).length (aK H (π a) (.frz ob (aO (π a) ps))) π' μ'.length H')(hc:μ'[a]? = some (.dF kvs')) :
  ∃ H2,Inv X pins' σ' H2 s'/\Ext π μ.length H π' (μ'.set a (.dT kvs')).length H2/\Rp X.K π' H2 (μ'.set a (.dT kvs'))/\Ext0 π' μ'.length H' π' (μ'.set a (.dT kvs')).length H2:=by
 have hp:π' a=π a:=e'.pi a (by rw [Wg];exact ha)
 obtain ⟨ob',ps',h1,T⟩:=sU R' hc
 obtain ⟨x2,R2⟩:=R'.put0 (c:=.dT kvs') (o:=aO (π' a) ps') (UA.mp hc).1 h1 (.inr (.inr (.inr ⟨_,_,rfl⟩))) ⟨ps',rfl,T.to⟩
 rw [hp] at h1
 refine ⟨aK H' (π' a) (aO (π' a) ps'),?_,⟨?_,fun b hb=>e'.pi b (by rw [Wg];exact hb),fun p vs h=>?_,fun p o u h=>?_⟩,R2,x2⟩
 ·rw [hp]
  exact Inv.thaw I e I' h1
 ·have:=e'.le
  rw [Wg] at this ⊢
  exact this
 ·have n1:p≠π a:=fun z=>by rw [z,e] at h;cases h
  have:=e'.tup p vs (by rw [bE n1];exact h)
  rw [hp,bE n1];exact this
 ·have n1:p≠π a:=fun z=>by rw [z,e] at h;cases h
  have:=e'.frz p o u (by rw [bE n1];exact h)
  rw [hp,bE n1];exact this
theorem En.mono0 {K:Ux}{π':Nat->Addr}{n n':Nat}{H':Hp}(E:En K π n H σ ρ)(e:Ext0 π n H π' n' H'):En K π' n' H' σ ρ:=
 ⟨E.len,fun i d h=>let ⟨v,h1,h2⟩:=E.get i d h;⟨v,h1,h2.mono0 e⟩⟩
end
section
variable {X:Cx}{e:UO}{st:Stmt}{i:Nat}
theorem OA {m1 m2:ME}(h1:QE X e m1)(h2:QE X e m2):QE X e (oB i m1 m2):=⟨by
 intro a5f s σ H Q I hw
 obtain ⟨π,ρ,μ,d,μ',R,E,hm,k⟩:=hw
 unfold oB at hm
 split at hm
 ·rename_i a kvs hv
  obtain ⟨⟨x,μ1⟩,g1,hm⟩:=Uw.mp hm
  dsimp only at hm
  split at hm
  ·rename_i kvs' hc'
   cases hm
   have hc:=Dq hv
   obtain ⟨ob,ps,e1,I1,R1,E1⟩:=Dr I R E hc
   refine aU (h1.h a5f s σ _ (fun v H2=>∃ π2,Ext π (μ.set a (.dF kvs)).length (aK H (π a) (.frz ob (aO (π a) ps))) π2 μ1.length H2/\Rp X.K π2 H2 μ1/\IsD X.K π2 μ1.length H2 v d) I1 ⟨π,ρ,_,d,μ1,R1,E1,g1,fun π2 v H2 e2 R2 i2=>⟨π2,e2,R2,i2⟩⟩) fun u s2 ⟨v,H2,I2,rv,π2,e2,R2,i2⟩=>?_
   obtain ⟨H3,I3,e3,R3,x3⟩:=qE I e1 (UA.mp hc).1 I2 R2 e2 hc'
   exact ⟨v,H3,I3,rv,k π2 v H3 e3 R3 (i2.mono0 x3)⟩
  ·cases hm
 ·exact h2.h a5f s σ H Q I ⟨π,ρ,μ,d,μ',R,E,hm,k⟩⟩
theorem Ds {m1 m2:MS}(h1:QS X st m1)(h2:QS X st m2):QS X st (tF i m1 m2):=⟨by
 intro a5f s σ H D I hw
 obtain ⟨π,ρ,μ,fl,ρ',μ',R,E,hm,k⟩:=hw
 unfold tF at hm
 split at hm
 ·rename_i a kvs hv
  obtain ⟨⟨fl1,ρ1,μ1⟩,g1,hm⟩:=Uw.mp hm
  dsimp only at hm
  split at hm
  ·rename_i kvs' hc'
   cases hm
   have hc:=Dq hv
   have ha:=(UA.mp hc).1
   obtain ⟨ob,ps,e1,I1,R1,E1⟩:=Dr I R E hc
   refine aU (h1.h a5f s σ _ ⟨fun σ2 H2=>fl=.nx/\∃ π2,Ext π (μ.set a (.dF kvs)).length (aK H (π a) (.frz ob (aO (π a) ps))) π2 μ1.length H2/\Rp X.K π2 H2 μ1/\En X.K π2 μ1.length H2 σ2 ρ',
     fun v H2=>∃ d,fl=.rt d/\∃ π2,Ext π (μ.set a (.dF kvs)).length (aK H (π a) (.frz ob (aO (π a) ps))) π2 μ1.length H2/\Rp X.K π2 H2 μ1/\IsD X.K π2 μ1.length H2 v d,
     fun σ2 H2=>fl=.bk/\∃ π2,Ext π (μ.set a (.dF kvs)).length (aK H (π a) (.frz ob (aO (π a) ps))) π2 μ1.length H2/\Rp X.K π2 H2 μ1/\En X.K π2 μ1.length H2 σ2 ρ',
     fun σ2 H2=>fl=.ct/\∃ π2,Ext π (μ.set a (.dF kvs)).length (aK H (π a) (.frz ob (aO (π a) ps))) π2 μ1.length H2/\Rp X.K π2 H2 μ1/\En X.K π2 μ1.length H2 σ2 ρ'⟩ I1 ⟨π,ρ,_,fl,ρ',μ1,R1,E1,g1,?_⟩) fun f s2 q=>?_
   ·cases fl with
    | nx=>exact fun π2 σ2 H2 e2 R2 E2=>⟨rfl,π2,e2,R2,E2⟩
    | bk=>exact fun π2 σ2 H2 e2 R2 E2=>⟨rfl,π2,e2,R2,E2⟩
    | ct=>exact fun π2 σ2 H2 e2 R2 E2=>⟨rfl,π2,e2,R2,E2⟩
    | rt d=>exact fun π2 v H2 e2 R2 i2=>⟨d,rfl,π2,e2,R2,i2⟩
   ·cases f with
    | next=>
     obtain ⟨σ2,H2,I2,rfl,π2,e2,R2,E2⟩:=q
     obtain ⟨H3,I3,e3,R3,x3⟩:=qE I e1 ha I2 R2 e2 hc'
     exact ⟨σ2,H3,I3,k π2 σ2 H3 e3 R3 (En.mono0 E2 x3)⟩
    | brk=>
     obtain ⟨σ2,H2,I2,rfl,π2,e2,R2,E2⟩:=q
     obtain ⟨H3,I3,e3,R3,x3⟩:=qE I e1 ha I2 R2 e2 hc'
     exact ⟨σ2,H3,I3,k π2 σ2 H3 e3 R3 (En.mono0 E2 x3)⟩
    | cont=>
     obtain ⟨σ2,H2,I2,rfl,π2,e2,R2,E2⟩:=q
     obtain ⟨H3,I3,e3,R3,x3⟩:=qE I e1 ha I2 R2 e2 hc'
     exact ⟨σ2,H3,I3,k π2 σ2 H3 e3 R3 (En.mono0 E2 x3)⟩
    | ret u=>
     obtain ⟨v,σ2,H2,I2,rv,d,rfl,π2,e2,R2,i2⟩:=q
     obtain ⟨H3,I3,e3,R3,x3⟩:=qE I e1 ha I2 R2 e2 hc'
     exact ⟨v,σ2,H3,I3,rv,k π2 v H3 e3 R3 (i2.mono0 x3)⟩
  ·cases hm
 ·exact h2.h a5f s σ H D I ⟨π,ρ,μ,fl,ρ',μ',R,E,hm,k⟩⟩
end
noncomputable def w9 (d:Addr)(ob:Wf)(ps:bQ):It:=⟨fun i H=>H d=some (.frz ob (aO d ps))/\i<ps.length,fun i H x H'=>H'=H/\∃ p,ps[i]? = some p/\x=.ref p.2.1,fun i H=>H d=some (.frz ob (aO d ps))/\ps.length<=i⟩
theorem xA {X:Cx}{a5f:List (Addr×Wf)}{σ:St}{H:Hp}{s:UE}{d:Addr}{ob:Wf}{ps:bQ}(I:Inv X a5f σ H s)(e:H d=some (.frz ob (aO d ps))) :
  (d == VO)=false/\ps.length<=UM/\∃ es ep,RawD s.heap d es ep/\ob.data=.dict es ep/\es.toList.map (·.key)=ps.map fun p=>UP p.2.1:=by
 obtain ⟨g0,⟨ws,r,hs,hl,o,es,ep,h1,h2,h3,h4,h5⟩,_⟩:=(show ObjOk X.prog X.w H s.heap d (.frz ob (aO d ps)) from I.hok d _ e)
 rw [g0] at h1
 cases h1
 refine ⟨hs,hl,es,ep,⟨ob,g0,h2,h3⟩,h3,?_⟩
 rw [h4,sT (P:=X.prog) (w:=X.w),UU,<- w5 r]
 rfl
theorem OB {P:Va}{w:Vu}{K:Ux}{tg:UO}{d it:Addr}{ob:Wf}{ps:bQ}{es:Array VM}{ep:Nat}(hd:ob.data=.dict es ep):Turn P w K tg (w9 d ob ps) [it] it (fun i h=>h.IsKeyIter it d i es.size ep) where
 mem:=by simp
 obj:=fun i h st b hb=>by
  have e:b=it:=by simpa using hb
  subst e
  obtain ⟨o,e,c,d⟩:=st
  exact ⟨o,e,fun v z=>by rw [d] at z;cases z⟩
 keep:=fun i h h' st k=>st.at fun o e=>k it (by simp) o e
 item:=by
  intro X hP hw hK hc i a5f s σ H E I hf st hg
  subst hP hw hK
  obtain ⟨hg1,hg2⟩:=hg
  obtain ⟨lo,hl,es',ep',g,hd',he⟩:=xA I hg1
  rw [hd] at hd'
  cases hd'
  have hs:es.size=ps.length:=by
   have:=congrArg Vq he
   simpa using this
  obtain ⟨f0,f1,f2,f3,f4,f5⟩:=hf it (by simp)
  refine sX (I.ok.hd hc) st g (fun e h' he' j' sb=>?_) fun hn=>by simp at hn;omega
  have I1:Inv X a5f σ H { s with heap:=h' }:=I.turned (t':=s.toks) (fun b o hb e=>(sb.2 b hb).trans e) f0 f1 f3 f4 f5
  obtain ⟨o,e1,c,d1⟩:=id j'
  have hp:ps[i]? = some ps[i]:=UW hg2
  have ek:e.key=.ref (ps[i]).2.1:=by
   have:=congrArg (·[i]?) he
   simp only [Vd,Wb,he',hp,U7] at this
   exact U9 this
  exact ⟨e.key,rfl,rF (s:={ s with heap:=h' }) e1 c d1 (by decide) ⟨.ref (ps[i]).2.1,H,I1,ek,⟨rfl,ps[i],hp,rfl⟩,j',fun b hb=>(hf b hb).1⟩⟩
 done:=by
  intro X hP hw hK hc i a5f s σ H E I hf st hg
  subst hP hw hK
  obtain ⟨hg1,hg2⟩:=hg
  obtain ⟨lo,hl,es',ep',g,hd',he⟩:=xA I hg1
  rw [hd] at hd'
  cases hd'
  have hs:es.size=ps.length:=by
   have:=congrArg Vq he
   simpa using this
  obtain ⟨f0,f1,f2,f3,f4,f5⟩:=hf it (by simp)
  exact sX (I.ok.hd hc) st g (fun e h' he'=>by
   have:=(Array.getElem?_eq_some_iff.mp he').1
   omega) fun _ h' eb=>⟨rfl,I.turned (t':=s.toks) (fun b o hb e=>eb b o hb e) f0 f1 f3 f4 f5⟩
 self:=fun _ _ _ _ _ st h=>a2R st h
theorem OC {X:Cx}{l tg:UO}{tl:TE}(hl:PE X l tl):PI X tg l (fun σ H R=>tl σ H fun v H1=>∃ d ob ps,v=.ref d/\H1 d=some (.frz ob (aO d ps))/\R (w9 d ob ps) H1):=by
 intro a5f s σ H R I h
 refine aU (hl a5f s σ H _ I h) fun v s1 ⟨y,H1,I1,r1,q1⟩=>?_
 obtain ⟨d,ob,ps,e,hf,q⟩:=q1
 subst e
 obtain rfl:v=UP d:=r1
 obtain ⟨lo,hl,es,ep,g,hd,he⟩:=xA I1 hf
 refine C0 lo g ⟨s1.heap.objs.size,[s1.heap.objs.size],_,_,H1,rfl,I1.kept (t':=s1.toks) fun b o e=>UD _ e,OB hd,⟨_,UT _ rfl,rfl,rfl⟩,fun b hb=>?_,q⟩
 have e:b=s1.heap.objs.size:=by simpa using hb
 subst e
 exact I1.fpOk (UJ _) (I1.hok.fresh (UJ _))
noncomputable def iC (kvs:List (List Int×D)):List D:=kvs.map fun k=>D.tup (k.1.map D.int)
theorem OD {K:Ux}{π:Nat->Addr}{n:Nat}{H:Hp}{d:Addr}{ob:Wf}{ps:bQ}{kvs:List (List Int×D)}(e0:H d=some (.frz ob (aO d ps)))(T:IsTs K π n H ps kvs):Wk K (w9 d ob ps) (hW (.tup (iC kvs))) π n H:=by
 have el:ps.length=kvs.length:=by
  have:=congrArg Vq T.to.1
  simpa using this
 refine ⟨fun π' μ H' i e R z=>?_,fun π' μ H' i dd e R z=>?_⟩
 ·have z':(iC kvs)[i]? = none:=U9 z
  have:=VF.mp z'
  rw [iC,Uz] at this
  exact ⟨e.frz _ _ _ e0,by omega⟩
 ·have z':(iC kvs)[i]? = some dd:=U9 z
  have hi:i<kvs.length:=by
   have:=(UA.mp z').1
   rwa [iC,Uz] at this
  refine ⟨⟨e.frz _ _ _ e0,by omega⟩,fun v H2 ⟨e1,p,e2,e3⟩=>?_⟩
  subst e1 e3
  obtain ⟨v',h1,h2⟩:=(T.to.2.1.mono e).get z'
  rw [Vd,e2] at h1
  cases h1
  exact ⟨.refl,R,h2⟩
noncomputable def mN (m:ME):MI:=fun ρ μ=>(m ρ μ).bind fun p=>match p.1 with
 | .loc a=>match p.2[a]? with
  | some (.dF kvs)=>some (hW (.tup (iC kvs)),kvs.length+1,p.2)
  | _=>none
 | _=>none
theorem xB {X:Cx}{e:UO}{m:ME}(h:QE X e m):QJ X e (mN m):=⟨fun tg a5f s σ H R I hw=>by
 obtain ⟨π,ρ,μ,src,n,μ',Rr,E,hm,k⟩:=hw
 obtain ⟨⟨x,μ1⟩,h1,hm⟩:=Uw.mp hm
 dsimp only at hm
 split at hm
 ·split at hm
  ·rename_i kvs hc
   cases hm
   refine OC h.h a5f s σ H R I ⟨π,ρ,μ,_,_,Rr,E,h1,fun π1 v1 H1 e1 R1 i1=>?_⟩
   cases i1
   obtain ⟨ob,ps,f1,T⟩:=sU R1 hc
   exact ⟨_,ob,ps,rfl,f1,k π1 H1 _ e1 R1 (OD f1 T)⟩
  ·cases hm
 ·cases hm⟩
end L3
namespace L3
open PySem L2 PySem.W PyProof.Rows
section
variable {P:Va}{w:Vu}{A:Vh}{E:UC->UE->Prop}{s:UE}
noncomputable def Dt (h:VL)(b:Addr)(k:List Int):Prop:=∃ xs:List UC,Xy h b xs.toArray/\Xe xs k
theorem OE {bs:List Addr}{ks:List (List Int)}(h0:0<bs.length)(hl:ks.length=bs.length)(key:∀ (j:Nat)(b:Addr),bs[j]? = some b->Dt s.heap b (ks.getD j [])/\ks.getD j []≠[]):n5 P w A (bs.map UP) (fun i j=>HT.lexLt (ks.getD i []) (ks.getD j [])) s:=by
 have tups:∃ fs:List UC,fs.length=bs.length/\KatTups s.heap (bs.map UP) fs/\∀ v∈fs,∃ i t,v=Vr i t:=by
  clear h0
  induction bs generalizing ks with
  | nil=>exact ⟨[],rfl,.nil,fun v hv=>nomatch hv⟩
  | cons b bs ih=>
   match ks,hl with
   | k::ks,hl=>
    obtain ⟨fs,g0,g1,g2⟩:=ih (ks:=ks) (by simpa using hl) fun j c hc=>by simpa using key (j+1) c (by simpa using hc)
    obtain ⟨⟨xs,⟨o,e,c,n,d⟩,hi⟩,hne⟩:=key 0 b rfl
    simp only [List.getD_cons_zero] at hi hne
    cases hi with
    | nil=>exact absurd rfl hne
    | @cons i tk xs' ns' hi'=>
     refine ⟨Vr i tk::fs,by simp [g0],.cons e c d (by simp) g1,fun v hv=>?_⟩
     rcases U6.mp hv with rfl|hv
     ·exact ⟨i,tk,rfl⟩
     ·exact g2 v hv
 obtain ⟨fs,g0,g1,g2⟩:=tups
 unfold n5
 refine kat_kind (T:=.type "int") g1 ?_ (fun v hv=>?_) rfl ⟨rfl,fun i j C hi hj hC=>?_⟩
 ·omega
 ·obtain ⟨i,t,rfl⟩:=g2 v hv
  exact .now
 ·rw [Uz] at hi hj
  obtain ⟨⟨xa,⟨oa,ea,ca,na,da⟩,ia⟩,_⟩:=key i bs[i] (UW hi)
  obtain ⟨⟨xb,⟨ob,eb,cb,nb,db⟩,ib⟩,_⟩:=key j bs[j] (UW hj)
  have ga:(bs.map UP).getD i .none=.ref bs[i]:=by simp [VA,hi]
  have gb:(bs.map UP).getD j .none=.ref bs[j]:=by simp [VA,hj]
  rw [ga,gb]
  exact kat_lt ea da eb db (wM 0 ia ib hC)
theorem OF {d:Addr}{es:Array VM}{ep:Nat}{Q:UC->UE->Prop}{bs:List Addr}{ks:List (List Int)}(hh:A.handled=none)(lo:(d == VO)=false)(g:RawD s.heap d es ep)(eb:es.toList.map (·.key)=bs.map UP)(h1:1<=es.size)(h64:es.size<64)(hl:ks.length=bs.length)
  (key:∀ (j:Nat)(b:Addr),bs[j]? = some b->Dt s.heap b (ks.getD j [])/\ks.getD j []≠[])
  (q:∀ (h' h3:VL)(tk:Nat)(e:Nat),(∀ b o,s.heap.get? b=some o->h'.get? b=some o)->(∀ b o,h'.get? b=some o->h3.get? b=some o)->h3.get? h'.objs.size=some (V5 "list" ((cE (fun i j=>HT.lexLt (ks.getD i []) (ks.getD j [])) es.size).map fun i=>UP (bs.getD i 0)).toArray e)->Q (.ref h'.objs.size) { s with heap:=h3,toks:=tk }) :
  U3 (U8 P w) A (call (.builtin "sorted") [.ref d]) Q E s:=by
 have hbl:bs.length=es.size:=by
  have:=congrArg Vq eb
  simpa using this.symm
 refine YI a2W a2m a2o (a2p _) ?_
 unfold ZI
 refine Uy (m:=a3w "sorted" 1 1 _) (UG (Uy (kdu_collect (A:=A.in1) (C1 lo) hh g (by rw [U4];omega) fun h' tk acc kp hacc=>?_)))
 have ea:acc.toList=bs.map UP:=by
  rw [<- eb]
  refine YU fun i=>?_
  rw [Vd,Wb,Wb]
  cases hv:acc[i]? with
  | some v=>
   obtain ⟨e,z1,z2⟩:=hacc.2 i v hv
   rw [z1,z2];rfl
  | none=>
   have:acc.size<=i:=by simpa using hv
   rw [X4 (by rw [<- hacc.1];exact this)];rfl
 rw [ea]
 have ul:(bs.map UP).length=es.size:=by rw [Uz,hbl]
 refine Uy (Y9 ?_ (by rw [ul,U4];omega))
 have gL:(h'.push (V5 "list" (bs.map UP).toArray 0)).get? h'.objs.size=some (V5 "list" (bs.map UP).toArray 0):=UT _ rfl
 have fin:∀ out:List UC,out=((cE (fun i j=>HT.lexLt (ks.getD i []) (ks.getD j [])) es.size).map fun i=>UP (bs.getD i 0))->Q (.ref h'.objs.size) { s with heap:=a1y (h'.push (V5 "list" (bs.map UP).toArray 0)) h'.objs.size (bs.map UP) out.toArray,toks:=tk }:=by
  rintro out rfl
  obtain ⟨e,he⟩:=sortedHeap_at (h:=h'.push (V5 "list" (bs.map UP).toArray 0)) (out:=((cE (fun i j=>HT.lexLt (ks.getD i []) (ks.getD j [])) es.size).map fun i=>UP (bs.getD i 0)).toArray) gL
  refine q h' _ tk e kp (fun b o x=>?_) he
  rw [a4U (UY (UK x)) (by rw [X8];exact YW (UK x))]
  exact UD _ x
 by_cases h2:2<=es.size
 ·refine Uy (Vy (Wn ZN (s:={ s with heap:=h'.push (V5 "list" (bs.map UP).toArray 0),toks:=tk }) ⟨_,gL,rfl⟩ ZA (Dj (an:=fun i j=>HT.lexLt (ks.getD i []) (ks.getD j [])) (by omega) (by omega) gL (fun h3 k3=>?_) ⟨_,rfl,?_⟩) (ZR _)))
  ·refine OE (by omega) hl fun j b hj=>?_
   obtain ⟨⟨xs,⟨o,o1,o2⟩,hi⟩,hne⟩:=key j b hj
   have o1':=kp _ _ o1
   exact ⟨⟨xs,⟨o,k3 b o (UY (UK o1')) (UD _ o1'),o2⟩,hi⟩,hne⟩
  ·refine UG ⟨_,rfl,fin _ ?_⟩
   rw [ul]
   refine Vx fun i hi=>?_
   have hi:i<bs.length:=by
    have:=VU.mp ((gD _ (n:=es.size) (by omega)).mem_iff.mp hi)
    omega
   simp [VA,hi]
 ·have e1:es.size=1:=by omega
  match bs,hbl with
  | [b],_=>
   refine Uy (Vy (Wn ZN (s:={ s with heap:=h'.push (V5 "list" ([b].map UP).toArray 0),toks:=tk }) ⟨_,gL,rfl⟩ ZA (Cj gL ⟨_,rfl,?_⟩) (ZR _)))
   refine UG ⟨_,rfl,fin [.ref b] ?_⟩
   rw [e1,Ck]
   rfl
  | [],h=>rw [e1] at h;cases h
  | _::_::_,h=>rw [e1] at h;simp at h
end
end L3
namespace L3
open PySem L2
noncomputable def Du (K:Ux):List V->Hp->VK->Prop:=fun xs H Q=>∃ a ps,xs=[V.ref a]/\H a=some (aO a ps)/\cU K H ps/\1<=ps.length/\ps.length<64/\(∀ p∈ps,p.1≠[])/\∀ l,H l=none->Q (.ref l) (aK H l (.lst ((e6 ps).map fun p=>V.ref p.2.1)))
section
variable {X:Cx}
theorem OG (hc:X.calm=true):CallR X (.builtin "sorted") (Du X.K):=by
 intro a5f s σ H xs us Q I r h
 obtain ⟨a,ps,rfl,ha,hk,h1,h64,hne,q⟩:=h
 obtain ⟨u,rfl,ru⟩:=eB r
 cases ru
 obtain ⟨lo,hl,es,ep,g,he⟩:=k5 I ha hk
 have hs:es.size=ps.length:=by
  have:=congrArg Vq he
  simpa using this
 have gd:∀ {j:Nat}{b:Addr},(ps.map (·.2.1))[j]? = some b->∃ p∈ps,ps[j]? = some p/\p.2.1=b:=fun {j b} hj=>by
  rw [Vd] at hj
  obtain ⟨p,g1,g2⟩:=UB.mp hj
  exact ⟨p,Ve g1,g1,g2⟩
 refine OF (bs:=ps.map (·.2.1)) (ks:=ps.map (·.1)) (I.ok.hd hc) lo g (by rw [he,UU];rfl) (by omega) (by omega) (by simp) (fun j b hj=>?_) fun h' h3 tk e k1 k2 k3=>?_
 ·obtain ⟨p,hp,g1,rfl⟩:=gd hj
  have e0:(ps.map (·.1)).getD j []=p.1:=by simp [VA,g1]
  rw [e0]
  obtain ⟨its,rx,t,_⟩:=I.tuple (hk p hp)
  exact ⟨⟨its,t,u5 rx⟩,hne p hp⟩
 ·have I1:Inv X a5f σ H { s with heap:=h',toks:=tk }:=I.kept (t':=tk) k1
  refine ⟨.ref h'.objs.size,_,I1.laid (t':=tk) (h':=h3) (a:=h'.objs.size) (o:=.lst ((e6 ps).map fun p=>V.ref p.2.1)) k2 (UJ _) ?_,rfl,q _ (I1.hok.fresh (UJ _))⟩
  have hln:(e6 ps).length=ps.length:=(Dl (by omega)).length_eq
  refine ⟨by rw [Uz,hln];exact hl,_,e,?_,k3⟩
  unfold e6
  rw [hs,UU]
  have:∀ l:List Nat,(∀ i∈l,i<ps.length)->Vals (l.map ((fun p:List Int×Addr×V=>V.ref p.2.1) ∘ fun i=>ps.getD i ([],0,.non))) (l.map fun i=>UP ((ps.map (·.2.1)).getD i 0)):=fun l hl=>by
   induction l with
   | nil=>exact .nil
   | cons i l ih=>
    refine .cons ?_ (ih fun j hj=>hl j (UX _ hj))
    have hi:=hl i (U2 ..)
    show UP _=UP _
    simp [VA,hi]
  exact this _ fun i hi=>VU.mp ((gD _ (n:=ps.length) (by omega)).mem_iff.mp hi)
end
noncomputable def oC (μ:Hm):D->Bool
 | .loc a=>match μ[a]? with|some (.dT _)=>true|_=>false
 | _=>false
noncomputable def iD (f:D->List D->Hm->Option (D×Hm))(mo:ME)(ms:MA):ME:=fun ρ μ=>(mo ρ μ).bind fun p=>match oC p.2 p.1 with
 | true=>(ms ρ p.2).bind fun q=>f p.1 q.1 q.2
 | false=>none
noncomputable def qF (K:Ux)(x:V)(H:Hp):Prop:=∃ a ps,x=.ref a/\H a=some (aO a ps)/\cU K H ps
theorem Dv {K:Ux}{π:Nat->Addr}{H:Hp}{μ:Hm}{v:V}{x:D}(R:Rp K π H μ)(h:IsD K π μ.length H v x)(e:oC μ x=true):qF K v H:=by
 cases h with
 | @loc a ha=>
  simp only [oC] at e
  split at e
  ·rename_i xs hx
   obtain ⟨ps,h1,T⟩:=eQ R hx
   exact ⟨_,ps,rfl,h1,T.keys⟩
  ·cases e
 | _=>cases e
section
variable {X:Cx}{e o:UO}{mo:ME}{to:TE}{t:TA}{apos cpos:Wl}{es:List UO}{ms:MA}{n:Nat}{r:V->List V->Hp->VK->Prop}{f:D->List D->Hm->Option (D×Hm)}{name:Str}{id:String}
theorem OH (slot:a4a "dict" name id) (hty:a0S (.builtin id)=pure (.type "method_descriptor")) (hm:eU X id r)(ho:PE X o to)(ha:PA X (e::es) t)(hbase:Xx o name X.env (eval o X.env)=eval o X.env)
  (hfew:((W0 cpos (Vj (e::es) X.env)).all (fun x=>!x.1)&&(a1C cpos (ZO [] X.env)).all (fun x=>x.1.isSome)&&decide ((e::es).length+([]:List XT).length+(if ([]:List XT).isEmpty then 0 else 1)<30))=true)
  (hline:(apos.endLine == cpos.line)=true)(hs:Vj (e::es) X.env=(false,eval e X.env)::Vj es X.env)(hplain:(W0 cpos (Vj es X.env)).any (·.1)=false) :
  PE X (.Call (.Attribute o name apos) (e::es) [] cpos) (fun σ H Q=>to σ H fun x H1=>qF X.K x H1/\t σ H1 fun vs H2=>r x vs H2 Q):=by
 intro a5f s σ H Q I h
 refine a2i hbase hfew hline rfl (aU (ho a5f s σ H _ I h) fun v s1 ⟨x,H1,I1,r1,ty,q1⟩=>?_)
 obtain ⟨a,ps,rfl,f1,hk⟩:=ty
 obtain rfl:v=UP a:=r1
 obtain ⟨lo,hl,vs,ep,g,_⟩:=k5 I1 f1 hk
 refine ⟨"dict",id,YQ,slot,hty,g.ty,fun b eb=>?_,?_⟩
 ·cases eb
  obtain ⟨z,g1,g2,_⟩:=g
  exact ⟨z,g1,g2.2.1⟩
 have hA:=ha cpos a5f s1 σ H1 _ I1 q1
 rw [hs] at hA ⊢
 refine Xb (by show (false||(W0 cpos (Vj es X.env)).any (·.1))=false;rw [hplain]<;>rfl) (a1L ?_)
 exact aU hA fun us s2 ⟨vs,H2,I2,r2,q2⟩=>hm a5f s2 σ H2 (.ref a) vs _ us Q I2 rfl r2 q2
theorem OI (slot:a4a "dict" name id) (hty:a0S (.builtin id)=pure (.type "method_descriptor")) (hm:eU X id r)(ho:PE X o to)(hbase:Xx o name X.env (eval o X.env)=eval o X.env)(hline:(apos.endLine == cpos.line)=true) :
  PE X (.Call (.Attribute o name apos) [] [] cpos) (fun σ H Q=>to σ H fun x H1=>qF X.K x H1/\r x [] H1 Q):=by
 intro a5f s σ H Q I h
 refine Zh hbase hline (aU (ho a5f s σ H _ I h) fun v s1 ⟨x,H1,I1,r1,ty,q1⟩=>?_)
 obtain ⟨a,ps,rfl,f1,hk⟩:=ty
 obtain rfl:v=UP a:=r1
 obtain ⟨lo,hl,vs,ep,g,_⟩:=k5 I1 f1 hk
 refine ⟨"dict",id,YQ,slot,hty,g.ty,fun b eb=>?_,Xb rfl (Zt ?_)⟩
 ·cases eb
  obtain ⟨z,g1,g2,_⟩:=g
  exact ⟨z,g1,g2.2.1⟩
 exact hm a5f s1 σ H1 (.ref a) [] _ [] Q I1 rfl .nil q1
theorem OJ {K:Ux}(hf:eJ K f r):∀ σ H Q,tM K (iD f mo ms) σ H Q->tM K mo σ H fun x H1=>qF K x H1/\eV K ms σ H1 fun vs H2=>r x vs H2 Q:=by
 rintro σ H Q ⟨π,ρ,μ,d,μ',R,E,hm,k⟩
 obtain ⟨⟨x,μ1⟩,h1,hm⟩:=Uw.mp hm
 dsimp only at hm
 split at hm
 ·rename_i hl
  obtain ⟨⟨xs,μ2⟩,h2,hm⟩:=Uw.mp hm
  refine ⟨π,ρ,μ,x,μ1,R,E,h1,fun π1 v1 H1 e1 R1 i1=>⟨Dv R1 i1 hl,π1,ρ,μ1,xs,μ2,R1,E.mono e1,h2,fun π2 vs H2 e2 R2 i2=>?_⟩⟩
  exact hf π2 H2 μ2 x xs d μ' v1 vs Q R2 (i1.mono e2) i2 hm (k.after (e1.trans e2))
 ·cases hm
theorem OK {K:Ux}(hf:eJ K f r):∀ σ H Q,tM K (iD f mo aD) σ H Q->tM K mo σ H fun x H1=>qF K x H1/\r x [] H1 Q:=by
 rintro σ H Q ⟨π,ρ,μ,d,μ',R,E,hm,k⟩
 obtain ⟨⟨x,μ1⟩,h1,hm⟩:=Uw.mp hm
 dsimp only at hm
 split at hm
 ·rename_i hl
  obtain ⟨⟨xs,μ2⟩,h2,hm⟩:=Uw.mp hm
  cases h2
  refine ⟨π,ρ,μ,x,μ1,R,E,h1,fun π1 v1 H1 e1 R1 i1=>⟨Dv R1 i1 hl,?_⟩⟩
  exact hf π1 H1 μ1 x [] d μ' v1 [] Q R1 i1 .nil hm (k.after e1)
 ·cases hm
theorem Dw (slot:a4a "dict" name id) (hty:a0S (.builtin id)=pure (.type "method_descriptor")) (hm:eU X id r)(hf:eJ X.K f r)
  (ho:QE X o mo)(ha:QA X (e::es) ms n)(hs:kS o=true)(hl:(apos.endLine == cpos.line)=true)(hn:(e::es).length<30):QE X (.Call (.Attribute o name apos) (e::es) [] cpos) (iD f mo ms):=by
 have hst:=ha.s
 have hst':=hst
 rw [Vo,UL] at hst'
 exact ⟨cO (OH slot hty hm ho.h ha.h (kT hs) (B6 hst hn) hl (eY hst'.1) (lY hst'.2)) (OJ hf)⟩
theorem OL (slot:a4a "dict" name id) (hty:a0S (.builtin id)=pure (.type "method_descriptor")) (hm:eU X id r)(hf:eJ X.K f r)
  (ho:QE X o mo)(hs:kS o=true)(hl:(apos.endLine == cpos.line)=true):QE X (.Call (.Attribute o name apos) [] [] cpos) (iD f mo aD):=
 ⟨cO (OI slot hty hm ho.h (kT hs) hl) (OK hf)⟩
end
noncomputable def k8:D->List D->Hm->Option (D×Hm)
 | .loc a,[y,z],μ=>match μ[a]? with
  | some (.dT kvs)=>(cS y).map fun k=>((bC kvs k).getD z,μ)
  | _=>none
 | _,_,_=>none
noncomputable def Dx (K:Ux):V->List V->Hp->VK->Prop:=fun x vs H Q=>∃ a b ps k z,x=.ref a/\vs=[.ref b,z]/\H a=some (aO a ps)/\cU K H ps/\SqT K H b (k.map V.int)/\Q ((dO ps k).getD z) H
theorem OM {K:Ux}:eJ K k8 (Dx K):=by
 intro π H μ x xs d μ' v vs Q R ix ixs hm k
 unfold k8 at hm
 split at hm
 ·split at hm
  ·rename_i kvs hc
   obtain ⟨kk,h1,hm⟩:=UB.mp hm
   cases hm
   cases ix
   cases ixs with
   | cons iy t=>
    cases t with
    | cons iz t=>
     cases t
     obtain ⟨ps,e1,T⟩:=eQ R hc
     obtain ⟨b,rfl,hb⟩:=kD iy h1
     refine ⟨_,b,ps,kk,_,rfl,rfl,e1,T.keys,hb,k π _ H .refl R ?_⟩
     rcases T.val kk with ⟨z1,z2⟩|⟨v,d2,z1,z2,z3⟩
     ·rw [z1,z2];exact iz
     ·rw [z1,z2];exact z3
  ·cases hm
 ·cases hm
theorem ON {X:Cx}(hu:X.A.units+1<V3):eU X "dict.get" (Dx X.K):=by
 intro a5f s σ H x vs v us Q I rx rv h
 obtain ⟨a,b,ps,k,z,rfl,rfl,e,hk,hb,q⟩:=h
 cases rx
 obtain ⟨u,u2,rfl,ru,ru2⟩:=rv.two
 obtain rfl:u=UP b:=ru
 obtain ⟨hs,hl,ws,r,d⟩:=iB I (.of e) hk
 refine Zs a1f d.typeIs PySem.F.entry_dict_get (PySem.F.args_dict_get_3 _ _ _) (meetsH_dict_get_default (Wu (WL X.prog X.w)) a b hs u2) ⟨kZ hu,k,_,j8 I hb,d,?_⟩
 refine ⟨(dO ps k).getD z,H,I.tok _,?_,q⟩
 have:=kY r k
 cases h1:dO ps k with
 | none=>
  rw [h1] at this
  cases h2:(Yl (bM ps ws) k).map (·.2) with
  | none=>exact ru2
  | some y=>rw [h2] at this;exact this.elim
 | some w'=>
  rw [h1] at this
  cases h2:(Yl (bM ps ws) k).map (·.2) with
  | none=>rw [h2] at this;exact this.elim
  | some y=>rw [h2] at this;exact this
end L3
namespace L3
open PySem L2
section
variable {P:Va}{w:Vu}{K:Type} [DecidableEq K] {knd:HeapKind P w K}{A:Vh}{E:UC->UE->Prop}{s:UE}{d a:Addr}{k:K}{xs:List (K×Addr×UC)}
theorem OO {v:UC}{Q:UC->UE->Prop}(hu:knd.room A)(hk:knd.is s.heap k a)(hm:s.heap.DictOfH knd d xs)(hz:xs.length<=UM)
  (h1:∀ p,Yl xs k=some p->Q p.2 { s with toks:=s.toks+knd.draws k })(h2:Yl xs k=none->∀ h',h'.DictOfH knd d (a3H xs k a v)->WX d s.heap h'->Q v { s with heap:=h',toks:=s.toks+knd.draws k }) :
  U3 (U8 P w) A (a1A d (.ref a) v) Q E s:=by
 obtain ⟨o,es,ep,ho,hc,hd,he,his,hn⟩:=id hm
 unfold a1A
 refine Vy (Uy (knd.pyHash hu hk (Uy (a3g (s:={ s with toks:=s.toks+knd.draws k }) hu hk ho hd he his hn (fun hno=>?_) fun j p hj=>?_))))
 ·have hnk:=a3K hno
  have hnot:k∉xs.map (·.1):=not_mem_keys_of_get hno
  refine Uy (YZ (Uy (a2Q (hz:=by have e:=a1i he;omega) (s:={ s with toks:=s.toks+knd.draws k }) ho hd (UG (h2 hnk _ ⟨_,_,ep+1,V2 _ ho (ZH (XB hd _)),hc.mapDictKeys _,XB hd _,?_,fun x hx=>?_,?_⟩ (Wj ..))))))
  ·rw [a2T hnk];simp [he,a3u]
  ·rw [a2T hnk] at hx
   rcases Vz.mp hx with hx|hx
   ·exact knd.keeps (his x hx) ho hd (Wj ..)
   ·rw [Vp] at hx;subst hx;exact knd.keeps hk ho hd (Wj ..)
  ·rw [a2T hnk,Vb,WV]
   exact ⟨hn,by simp,fun x hx y hy e=>by
    simp only [UQ,XD,Vp] at hy
    subst hy;exact hnot (e ▸ hx)⟩
 ·refine Uy (VN (s:={ s with toks:=s.toks+knd.draws k }) ho hd ?_)
  rw [a4Z he j,hj]
  exact Uy (YZ (UG (h1 _ (atKey_of_get hn hj))))
theorem OP (knd:HeapKind P w K)(d a:Addr)(hd:(d == VO)=false)(v:UC):a3Q P w (Builtin.«dict.setdefault» ⟨[.ref d,.ref a,v],[]⟩) (fun A R s=>knd.room A.in1/\∃ k xs,knd.is s.heap k a/\s.heap.DictOfH knd d xs/\xs.length<=UM /\
   (∀ p,Yl xs k=some p->R (.ok (.ret p.2)) { s with toks:=s.toks+knd.draws k })/\(Yl xs k=none->∀ h',h'.DictOfH knd d (a3H xs k a v)->WX d s.heap h'->R (.ok (.ret v)) { s with heap:=h',toks:=s.toks+knd.draws k })):=
 .of_wp fun A R s ⟨hu,k,xs,hk,hm,hz,h1,h2⟩=>by
  unfold Builtin.«dict.setdefault»
  refine Uy ?_
  unfold a4O
  refine Uy (V4 hm.typeIs (UG ?_))
  show U3 _ _ (if (d == VO)=true then _ else (a1A d (.ref a) v >>= _)) _ _ s
  rw [if_neg (by rw [hd];exact Vn)]
  exact Uy (OO hu hk hm hz (fun p hp=>UG ⟨_,rfl,h1 p hp⟩) fun hn h' hm' hs'=>UG ⟨v,rfl,h2 hn h' hm' hs'⟩)
end
noncomputable def k9:D->List D->Hm->Option (D×Hm)
 | .loc a,[y,z],μ=>match μ[a]? with
  | some (.dT kvs)=>(cS y).bind fun k=>match bC kvs k with
   | some d=>some (d,μ)
   | none=>if kvs.length<UM then some (z,μ.set a (.dT (cC kvs k z))) else none
  | _=>none
 | _,_,_=>none
noncomputable def Dy (K:Ux):V->List V->Hp->VK->Prop:=fun x vs H Q=>∃ a b ps k z,x=.ref a/\vs=[.ref b,z]/\H a=some (aO a ps)/\cU K H ps/\SqT K H b (k.map V.int)/\((∃ v,dO ps k=some v/\Q v H)\/(dO ps k=none/\ps.length<UM/\Q z (aK H a (aO a (cY ps k b z)))))
theorem OQ {K:Ux}:eJ K k9 (Dy K):=by
 intro π H μ x xs d μ' v vs Q R ix ixs hm k
 unfold k9 at hm
 split at hm
 ·split at hm
  ·rename_i kvs hc
   obtain ⟨kk,h1,hm⟩:=Uw.mp hm
   cases ix with
   | loc hlt=>
    cases ixs with
    | cons iy t=>
     cases t with
     | cons iz t=>
      cases t
      obtain ⟨ps,e1,T⟩:=eQ R hc
      obtain ⟨b,rfl,hb⟩:=kD iy h1
      refine ⟨_,b,ps,kk,_,rfl,rfl,e1,T.keys,hb,?_⟩
      have hpl:ps.length=kvs.length:=by
       have:=congrArg Vq T.to.1
       simpa using this
      rcases T.val kk with ⟨z1,z2⟩|⟨v,d2,z1,z2,z3⟩
      ·rw [z2] at hm
       dsimp only at hm
       split at hm
       ·rename_i hz
        cases hm
        have T':=T.put kk hb iz
        obtain ⟨e4,R4⟩:=R.put (c:=.dT (cC kvs kk d)) (o:=aO _ (cY ps kk b _)) hlt e1 (.inr (.inr ⟨_,rfl⟩)) ⟨_,rfl,T'.to⟩
        exact .inr ⟨z1,by omega,k π _ _ e4 R4 (iz.mono e4)⟩
       ·cases hm
      ·rw [z2] at hm
       cases hm
       exact .inl ⟨v,z1,k π _ H .refl R z3⟩
  ·cases hm
 ·cases hm
theorem OR {X:Cx}(hu:X.A.units+1<V3):eU X "dict.setdefault" (Dy X.K):=by
 intro a5f s σ H x vs v us Q I rx rv h
 obtain ⟨a,b,ps,k,z,rfl,rfl,e,hk,hb,q⟩:=h
 cases rx
 obtain ⟨u,u2,rfl,ru,ru2⟩:=rv.two
 obtain rfl:u=UP b:=ru
 obtain ⟨hs,hl,ws,r,d⟩:=iB I (.of e) hk
 have hx:(bM ps ws).length<=UM:=by
  have:=congrArg Vq (kC r)
  rw [Uz,Uz] at this
  omega
 have rel:=kY r k
 refine Zs Z8 d.typeIs PySem.F.entry_dict_setdefault (PySem.F.args_dict_setdefault_3 _ _ _) (OP (Wu (WL X.prog X.w)) a b hs u2) ⟨kZ hu,k,_,j8 I hb,d,hx,fun p hp=>?_,fun hn h' d' hs'=>?_⟩
 ·rw [hp] at rel
  rcases q with ⟨v',h1,q⟩|⟨h1,_⟩
  ·rw [h1] at rel
   exact ⟨v',H,I.tok _,rel,q⟩
  ·rw [h1] at rel
   exact rel.elim
 ·rw [hn] at rel
  rcases q with ⟨v',h1,q⟩|⟨h1,hz,q⟩
  ·rw [h1] at rel
   exact rel.elim
  ·obtain ⟨ws',r',ex⟩:=wZ r k b ru2
   rw [ex] at d'
   have he:∃ q,h'.get? a=some q:=let ⟨q,_,_,hq,_⟩:=d';⟨q,hq⟩
   exact ⟨z,_,rN I (by rw [e];exact WZ) hs' he (pY hs (by have:=pX ps k b z;omega) r' d'),ru2,q⟩
noncomputable def oD:D->List D->Hm->Option (D×Hm)
 | .loc a,[],μ=>match μ[a]? with
  | some (.dT _)=>some (.non,μ.set a (.dT []))
  | _=>none
 | _,_,_=>none
noncomputable def Dz (K:Ux):V->List V->Hp->VK->Prop:=fun x vs H Q=>∃ a ps,x=.ref a/\vs=[]/\H a=some (aO a ps)/\cU K H ps/\Q .non (aK H a (aO a []))
theorem OS {K:Ux}:eJ K oD (Dz K):=by
 intro π H μ x xs d μ' v vs Q R ix ixs hm k
 unfold oD at hm
 split at hm
 ·split at hm
  ·rename_i kvs hc
   cases hm
   cases ixs
   cases ix with
   | loc hlt=>
    obtain ⟨ps,e1,T⟩:=eQ R hc
    obtain ⟨e4,R4⟩:=R.put (c:=.dT []) (o:=aO _ []) hlt e1 (.inr (.inr ⟨_,rfl⟩)) ⟨[],rfl,rfl,.nil,.nil⟩
    exact ⟨_,ps,rfl,rfl,e1,T.keys,k π _ _ e4 R4 .non⟩
  ·cases hm
 ·cases hm
theorem OT {P:Va}{w:Vu}(d:Addr):a3Q P w (Builtin.«dict.clear» ⟨[.ref d],[]⟩) (fun _ R s=>∃ es ep,RawD s.heap d es ep/\es.size<=UM /\
   ∀ h',(∃ z,h'.get? d=some z/\z.ExactDict/\z.data=.dict #[] (ep+1))->WX d s.heap h'->R (.ok (.ret .none)) { s with heap:=h' }):=
 .of_wp fun A R s ⟨es,ep,g,hz,h⟩=>by
  obtain ⟨o,ho,hc,hdat⟩:=id g
  unfold Builtin.«dict.clear»
  refine Uy ?_
  unfold a0H
  refine Uy (V4 g.ty (UG (Uy (VN ho hdat (Uy ?_)))))
  unfold bearsInstanceDictMark
  refine Uy (a0j ho (UG (Uy (a2Q (hz:=hz) ho hdat ?_))))
  have new:∃ z,(s.heap.update d (a3j fun _=>#[])).get? d=some z/\z.ExactDict/\z.data=.dict #[] (ep+1):=
   ⟨_,V2 _ ho (ZH (XB hdat _)),hc.mapDictKeys _,XB hdat _⟩
  split
  ·exact Uy (a2S (UG ⟨.none,rfl,h _ new (Wj ..)⟩))
  ·exact Uy (UG (UG ⟨.none,rfl,h _ new (Wj ..)⟩))
theorem OU {X:Cx}:eU X "dict.clear" (Dz X.K):=by
 intro a5f s σ H x vs v us Q I rx rv h
 obtain ⟨a,ps,rfl,rfl,e,hk,q⟩:=h
 cases rx
 cases rv
 obtain ⟨lo,hl,es,ep,g,he⟩:=k5 I e hk
 have hs:es.size=ps.length:=by
  have:=congrArg Vq he
  simpa using this
 refine Zs a0K g.ty PySem.F.entry_dict_clear (PySem.F.args_dict_clear_1 _) (OT a) ⟨es,ep,g,by omega,fun h' ⟨z,z1,z2,z3⟩ hs'=>?_⟩
 refine ⟨.non,_,rN (t':=s.toks) I (by rw [e];exact WZ) hs' ⟨z,z1⟩ (pY (ps:=[]) (ws:=[]) lo (Vk _) .nil ⟨z,#[],ep+1,z1,z2,z3,rfl,⟨fun x hx=>absurd hx (by simp [bM]),by simp [bM]⟩⟩),rfl,q⟩
end L3
namespace L3
open PySem L2
section
variable {P:Va}{w:Vu}{A:Vh}{E:UC->UE->Prop}{s:UE}
theorem OV {nm:String}{d:Addr}{es:Array VM}{ep:Nat}{bs:List Addr}{Q:Array VM->UE->Prop}(g:RawD s.heap d es ep)(eb:es.toList.map (·.key)=bs.map UP)(tt:∀ b∈bs,s.TypeIs (.ref b) "tuple")
  (nd:(es.toList.map (·.hash)).Nodup)(q:Q es s):U3 (U8 P w) A (ZD nm d) Q E s:=by
 obtain ⟨z,g1,g2,g3⟩:=id g
 unfold ZD
 refine Uy (VN g1 g3 (Uy ?_))
 rw [<- Array.forIn_toList]
 refine a0R _ (fun bO _ s'=>s'=s/\∀ e∈bO,e∈es.toList) _ (fun e bO b s' ⟨h1,h2⟩=>?_) (fun b s' ⟨h1,_⟩=>?_) _ _ ⟨rfl,fun e he=>he⟩
 ·subst h1
  have he:=h2 e (U2 ..)
  have hk:e.key∈bs.map UP:=by rw [<- eb];exact UR.mpr ⟨e,he,rfl⟩
  obtain ⟨a,ha,ek⟩:=UR.mp hk
  have quiet:∀ {Q:Bool->UE->Prop},Q false s'->U3 (U8 P w) A (a0w e.key) Q E s':=fun {Q} q=>by
   rw [<- ek]
   unfold a0w
   exact Uy (X5 (tt a ha) PySem.F.slot_tuple_eq.lookup (UG q))
  refine Uy (quiet ?_)
  have one:((es.filter (·.hash == e.hash)).size>1)=False:=by
   refine eq_false fun z=>?_
   have z':1<(es.toList.filter fun x=>x.hash == e.hash).length:=by
    have e1:(es.filter (·.hash == e.hash)).toList=es.toList.filter fun x=>x.hash == e.hash:=Array.toList_filter ..
    have e2:=congrArg Vq e1
    simp only [WD] at e2
    omega
   have cnt:(es.toList.filter fun x=>x.hash == e.hash).length=(es.toList.map (·.hash)).count e.hash:=by
    rw [List.count,List.countP_map,<- List.countP_eq_length_filter];rfl
   have:=List.nodup_iff_count.mp nd e.hash
   omega
  simp only [W8,if_true,one,if_false]
  exact UG ⟨rfl,fun x hx=>h2 x (UX _ hx)⟩
 ·subst h1;exact UG q
end
theorem DA:∀ (ps:bQ)(ws:List UC),ps.length=ws.length->(ZV vE ps ws).map (·.hash)=ps.map fun p=>Tb.hashT p.1
 | [],_,_=>by simp
 | p::ps,[],h=>by cases h
 | p::ps,u::ws,h=>by
  rw [Vs,UQ,UQ,DA ps ws (by simpa using h)]
  rfl
theorem OW {es:Array VM}{bs:List Addr}(hne:bs≠[])(he:es.toList.map (·.key)=bs.map UP):(es.all fun e=>(keyPart e.key).isSome)=false:=by
 rw [<- Array.all_toList]
 generalize es.toList=l at he
 cases bs with
 | nil=>exact absurd rfl hne
 | cons b bs=>
  cases l with
  | nil=>cases he
  | cons e l=>
   rw [UQ,UQ,ZT] at he
   rw [Vo,he.1]
   rfl
theorem OX {es:Array VM}{bs:List Addr}(hne:bs≠[])(he:es.toList.map (·.key)=bs.map UP):es.isEmpty=false:=by
 have e1:=congrArg Vq he
 simp only [Uz,WD] at e1
 have:bs.length≠0:=fun z=>hne (X0.mp z)
 rw [Array.isEmpty]
 exact decide_eq_false (by omega)
noncomputable def DB (K:Ux):List V->Hp->VK->Prop:=fun xs H Q=>∃ a ps,xs=[V.ref a]/\H a=some (aO a ps)/\cU K H ps/\ps≠[]/\(ps.map fun p=>Tb.hashT p.1).Nodup/\∀ l,H l=none->Q (.ref l) (aK H l (aO l ps))
section
variable {X:Cx}
theorem OY:CallR X (.type "dict") (DB X.K):=by
 intro a5f s σ H xs us Q I r h
 obtain ⟨a,ps,rfl,ha,hk,hne,nd,q⟩:=h
 obtain ⟨u,rfl,ru⟩:=eB r
 cases ru
 have hn:H s.heap.objs.size=none:=I.hok.fresh (UJ _)
 obtain ⟨⟨ws,rv,lo,hl,o,es,ep,h1,h2,h3,h4,h5⟩,_⟩:=(show ObjOk X.prog X.w H s.heap a (aO a ps) from I.hok a _ ha)
 obtain ⟨_,_,es',ep',g,he⟩:=k5 I ha hk
 obtain ⟨z,g1,g2,g3⟩:=id g
 rw [h1] at g1
 cases g1
 rw [h3] at g3
 cases g3
 have hsz:es.size=ps.length:=by
  have:=congrArg Vq he
  simpa using this
 have hnd:(es.toList.map (·.hash)).Nodup:=by
  have:es.toList.map (·.hash)=ps.map fun p=>Tb.hashT p.1:=by rw [h4];exact DA ps ws (by rw [<- rv.length,Uz])
  rw [this];exact nd
 refine ZQ (Q₁:=fun obj s₁=>obj=.ref s.heap.objs.size/\s₁ = { s with heap:=s.heap.push { cls:=.type "dict",data:=.dict #[] } }) F.kt_called_dict (F.kt_typeCall_dict_1 _) F.entry_dict_init (a0T _ ⟨rfl,rfl⟩) ?_
 rintro obj s₁ ⟨rfl,rfl⟩
 have g0:({ s with heap:=s.heap.push { cls:=.type "dict",data:=.dict #[] } }:UE).heap.get? s.heap.objs.size=some { cls:=.type "dict",data:=.dict #[] }:=UT _ rfl
 have ty:({ s with heap:=s.heap.push { cls:=.type "dict",data:=.dict #[] } }:UE).TypeIs (.ref s.heap.objs.size) "dict":=⟨_,g0,rfl⟩
 have ga:RawD (s.heap.push { cls:=.type "dict",data:=.dict #[] }) a es ep:=g.stay fun o e=>UD _ e
 refine ⟨ty,F.args_dict_init_2 _ _,?_⟩
 unfold Builtin.«dict.__init__»
 refine Uy ?_
 unfold Yv
 refine Uy (V4 ty (UG ?_))
 show U3 _ _ (Ww "dict.__init__" s.heap.objs.size (.ref a) [] .none) _ _ _
 unfold Ww
 refine Uy (YO (T:="dict") ⟨_,UD _ h1,h2.1⟩ ?_)
 rw [if_neg (by decide)]
 refine Uy ?_
 unfold a4N a4K
 have tya:({ s with heap:=s.heap.push { cls:=.type "dict",data:=.dict #[] } }:UE).TypeIs (.ref a) "dict":=⟨_,UD _ h1,h2.1⟩
 refine Uy (Uy (XS tya isSubtype_dict_dict ?_))
 simp only [WI,UN,if_false]
 refine Uy (X5 tya F.slot_dict_iter.lookup (UG ?_))
 simp only [beq_self_eq_true,if_true]
 refine Uy (UG ?_)
 unfold a4M
 have hda:(s.heap.objs.size == a)=false:=beq_eq_false_iff_ne.mpr (VH (UY (UK h1)))
 rw [if_neg (by rw [hda];exact Vn)]
 unfold WC
 rw [if_neg (by rw [lo];exact Vn)]
 have h1':=UD { cls:=.type "dict",data:=.dict #[] } h1
 refine Uy (UG (Uy (VN h1' h3 ?_)))
 have few:=OW (bs:=ps.map (·.2.1)) (fun z=>hne (YC.mp z)) (by rw [he,UU];rfl)
 simp only [few,a3o,W8,if_true]
 refine Uy (VN g0 rfl ?_)
 simp only [Array.isEmpty_empty,if_true]
 have hes:es.size<=UM:=by omega
 have emp:=OX (bs:=ps.map (·.2.1)) (fun z=>hne (YC.mp z)) (by rw [he,UU];rfl)
 refine Uy (OV (bs:=ps.map (·.2.1)) ga (by rw [he,UU];rfl) (fun b hb=>?_) hnd ?_)
 ·obtain ⟨p,hp,rfl⟩:=UR.mp hb
  obtain ⟨its,rx,⟨ot,e1,e2,_⟩,_⟩:=I.tuple (hk p hp)
  exact ⟨ot,UD _ e1,e2⟩
 simp only [emp,W8,if_true]
 refine Uy (wpAny_updateDictKeysTo g0 rfl (UG ?_) (by omega))
 have gN:=V2 (a3j fun _=>es) g0 (ZH (XB (o:={ cls:=.type "dict",data:=.dict #[] }) rfl _))
 have big:(s.heap.objs.size == VO)=false:=beq_eq_false_iff_ne.mpr (VH (UY I.big))
 refine Uy (UG (UG ?_))
 refine ⟨rfl,.ref s.heap.objs.size,_,I.laid (t':=s.toks) (a:=s.heap.objs.size) (o:=aO s.heap.objs.size ps) (fun b u e=>?_) (UJ _) ⟨⟨ws,rv,big,hl,_,es,1,gN,?_,rfl,h4,h5⟩,⟨_,gN⟩,?_⟩,rfl,q _ hn⟩
 ·rw [V7 _ _ (VH (UY (UK e)))]
  exact UD _ e
 ·exact a4d ⟨rfl,rfl,rfl⟩ _
 ·rintro k1 k2 ⟨ws,r,hs,hl,o,es,ep,h1,h2⟩ hh
  exact ⟨ws,r,hs,hl,o,es,ep,hh o h1,h2⟩
end
end L3
namespace L3
open PySem L2
noncomputable abbrev qG:=List (List Int×Addr×UC)
inductive Hits (A:Vh)(s:UE)(ys:qG):qG->Bool->Prop
 | nil:Hits A s ys [] true
 | miss {x:List Int×Addr×UC}{r:qG}:Yl ys x.1=none->Hits A s ys (x::r) false
 | hit {x:List Int×Addr×UC}{p:Addr×UC}{r:qG}{e b:Bool}:Yl ys x.1=some p->Y6 A s x.2.2 p.2 e->Hits A s ys r b->Hits A s ys (x::r) (e&&b)
section
variable {P:Va}{w:Vu}{A:Vh}{E:UC->UE->Prop}{s:UE}{a b:Addr}{xs ys:qG}{r:Bool}
theorem DC {nm:String}{Q:Bool->UE->Prop}(hu:(Wu (WL P w)).room A)(la:(a == VO)=false)(lb:(b == VO)=false)(da:s.heap.DictOfH (Wu (WL P w)) a xs)(db:s.heap.DictOfH (Wu (WL P w)) b ys)
  (hits:xs.length=ys.length->Hits A s ys xs r)(q:Q (xs.length == ys.length&&r) s):U3 (U8 P w) A (a0h nm a b) Q E s:=by
 obtain ⟨oa,es,ep,ga,_,va,ea,isa,na⟩:=da
 obtain ⟨ob,fs,fp,gb,_,vb,eb,isb,nb⟩:=db
 have sa:=a1i ea
 have sb:=a1i eb
 unfold a0h WC
 rw [if_neg (by rw [la];exact Vn),if_neg (by rw [lb];exact Vn)]
 refine Uy (UG (Uy (UG (Uy (VN ga va ?_)))))
 dsimp only
 refine Uy (VN gb vb ?_)
 by_cases hsz:es.size=fs.size
 ·have hl:xs.length=ys.length:=by omega
  have q':Q r s:=by simpa [hl] using q
  have hh:=hits hl
  rw [if_neg (by rw [hsz];simp)]
  refine Uy (X6 ga va (Uy ?_))
  rw [a3i]
  simp only [a3h,a0a,Nat.add_sub_cancel,Nat.div_one]
  refine a0R _ (fun bO c s'=>s'=s/\c=(none,())/\∃ i,bO=YS i (es.size - i)/\i<=es.size/\Hits A s ys (xs.drop i) r) _ ?_ ?_ _ _ ⟨rfl,rfl,0,by simp,Vk _,hh⟩
  ·rintro x bO c s' ⟨rfl,rfl,i,hr,hi,hp⟩
   have hlt:i<es.size:=Nat.lt_of_not_le fun z=>by rw [Nat.sub_eq_zero_of_le z] at hr;cases hr
   have e0:es.size - i=(es.size - (i+1))+1:=by omega
   rw [e0,Y3] at hr
   injection hr with hx hrest
   subst hx
   have hlx:x<xs.length:=by omega
   rw [YM hlx] at hp
   have ex:xs[x]? = some xs[x]:=UW hlx
   refine Uy (VN ga va ?_)
   rw [a4Z ea x,ex,U7]
   dsimp only
   have hk:=isa xs[x] (Yh hlx)
   refine Uy (Vy (Uy (a3g (k:=xs[x].1) (a:=xs[x].2.1) hu hk gb vb eb isb nb (fun hno=>?_) fun j p hj=>?_)))
   ·have hz:=a3K hno
    have er:r=false:=by
     cases hp with
     | miss _=>rfl
     | hit h1 _ _=>rw [hz] at h1;cases h1
    subst er
    refine UG ?_
    simp only [W8,if_true]
    exact UG (UG q')
   ·have hz:=atKey_of_get nb hj
    refine Uy (VN gb vb ?_)
    rw [a4Z eb j,hj,U7]
    dsimp only
    generalize hxs:xs[x]=y at hp hz
    cases hp with
    | miss h1=>rw [hz] at h1;cases h1
    | @hit _ p' _ e' b' h1 h2 h3=>
     rw [hz] at h1
     cases h1
     refine Vy (h2 P w _ _ ?_)
     cases e' with
     | false=>
      simp only [W8,if_true]
      exact UG (UG q')
     | true=>
      simp only [WI,UN,if_false]
      refine Uy (X6 ga va ?_)
      rw [if_neg (by simp)]
      refine UG ⟨rfl,rfl,x+1,hrest,hlt,?_⟩
      simpa using h3
  ·rintro c s' ⟨rfl,rfl,i,hr,hi,hp⟩
   have hin:i=es.size:=by
    rcases Xg i es.size with z|z
    ·rw [show es.size - i=(es.size - (i+1))+1 by omega,Y3] at hr;cases hr
    ·omega
   refine UG ?_
   rw [hin,sa,List.drop_length] at hp
   cases hp
   exact q'
 ·rw [if_pos (by simpa using hsz)]
  have:(xs.length == ys.length)=false:=by rw [<- sa,<- sb];simpa using hsz
  rw [this,a3n] at q
  exact Uy (YZ (UG q))
theorem OZ {Q:UC->UE->Prop}(hr:(Wu (WL P w)).room A.in1)(hu:A.units<V3)(la:(a == VO)=false)(lb:(b == VO)=false)(da:s.heap.DictOfH (Wu (WL P w)) a xs)(db:s.heap.DictOfH (Wu (WL P w)) b ys)
  (hits:xs.length=ys.length->Hits A.in1 s ys xs r)(q:Q (.bool (xs.length == ys.length&&r)) s):U3 (U8 P w) A (VD .Eq (.ref a) (.ref b)) Q E s:=by
 refine a1n (op:=.Eq) da.typeIs db.typeIs a1k (Wn a1k da.typeIs PySem.F.entry_dict_eq ?_ (PySem.F.args_dict_eq_2 _ _)) hu
 show U3 _ _ (Xj "__eq__" ⟨[.ref a,.ref b],[]⟩ >>= _) _ _ s
 refine Uy ?_
 unfold Xj
 refine Uy (V4 da.typeIs (UG (Uy (XS (T:="dict") db.typeIs a1e ?_))))
 simp only [WI,UN,if_false]
 exact Uy (UG (Uy (UG (Uy (DC hr la lb da db hits (UG ⟨_,rfl,(fun x=>nomatch x),by simpa using q⟩))))))
theorem O0 {Q:UC->UE->Prop}(hr:(Wu (WL P w)).room A.in1)(hu:A.units<V3)(la:(a == VO)=false)(lb:(b == VO)=false)(da:s.heap.DictOfH (Wu (WL P w)) a xs)(db:s.heap.DictOfH (Wu (WL P w)) b ys)
  (hits:xs.length=ys.length->Hits A.in1 s ys xs r)(q:Q (.bool (!(xs.length == ys.length&&r))) s):U3 (U8 P w) A (VD .NotEq (.ref a) (.ref b)) Q E s:=by
 refine a1n (op:=.NotEq) da.typeIs db.typeIs a1j (Wn a1j da.typeIs PySem.F.entry_dict_ne ?_ (PySem.F.args_dict_ne_2 _ _)) hu
 show U3 _ _ (Xj "__ne__" ⟨[.ref a,.ref b],[]⟩ >>= _) _ _ s
 refine Uy ?_
 unfold Xj
 refine Uy (V4 da.typeIs (UG (Uy (XS (T:="dict") db.typeIs a1e ?_))))
 simp only [WI,UN,if_false]
 exact Uy (UG (Uy (UG (Uy (DC hr la lb da db hits (UG ⟨_,rfl,(fun x=>nomatch x),by simpa using q⟩))))))
end
noncomputable def mO (μ:Hm)(kws:List (List Int×D)):List (List Int×D)->Option Bool
 | []=>some true
 | (k,d)::r=>match bC kws k with
  | none=>some false
  | some y=>(b9 8 μ d y).bind fun e=>(mO μ kws r).map fun b=>e&&b
noncomputable def dH (ne:Bool):D->D->Hm->Option (D×Hm)
 | .loc a,.loc b,μ=>match μ[a]?,μ[b]? with
  | some (.dT kvs),some (.dT kws)=>if kvs.length=kws.length then (mO μ kws kvs).map fun e=>(.bl (if ne then !e else e),μ) else some (.bl ne,μ)
  | _,_=>none
 | _,_,_=>none
noncomputable def DD (K:Ux)(ne:Bool):R2:=fun x y H Q=>∃ π μ a b ps qs kvs kws e,Rp K π H μ/\x=.ref (π a)/\y=.ref (π b)/\H (π a)=some (aO (π a) ps)/\H (π b)=some (aO (π b) qs)/\IsTs K π μ.length H ps kvs/\IsTs K π μ.length H qs kws /\
 (kvs.length=kws.length->mO μ kws kvs=some e)/\Q (.bl (if ne then !(kvs.length == kws.length&&e) else (kvs.length == kws.length&&e))) H
theorem tG {K:Ux}{ne:Bool}:cP K (dH ne) (DD K ne):=by
 intro π H μ x y d μ' vx vy Q R ix iy hm k
 unfold dH at hm
 split at hm
 ·split at hm
  ·rename_i kvs kws hc hc'
   cases ix
   cases iy
   obtain ⟨ps,e1,T⟩:=eQ R hc
   obtain ⟨qs,e2,T'⟩:=eQ R hc'
   split at hm
   ·rename_i hl
    obtain ⟨e,h1,hm⟩:=UB.mp hm
    cases hm
    refine ⟨π,μ,_,_,ps,qs,kvs,kws,e,R,rfl,rfl,e1,e2,T,T',fun _=>h1,?_⟩
    rw [hl,beq_self_eq_true,a3C]
    exact k π _ H .refl R (.bl _)
   ·rename_i hl
    cases hm
    refine ⟨π,μ,_,_,ps,qs,kvs,kws,true,R,rfl,rfl,e1,e2,T,T',fun z=>absurd z hl,?_⟩
    have:(kvs.length == kws.length)=false:=by simpa using hl
    rw [this]
    have e0:(if ne=true then !(false&&true) else (false&&true))=ne:=by cases ne<;>rfl
    rw [e0]
    exact k π _ H .refl R (.bl _)
  ·cases hm
 ·cases hm
theorem DE {X:Cx}{a5f:List (Addr×Wf)}{σ:St}{H:Hp}{s:UE}{π:Nat->Addr}{μ:Hm}{A:Vh}(I:Inv X a5f σ H s)(R:Rp X.K π H μ)(hu:A.units+8<V3){qs:bQ}{kws:List (List Int×D)}{ws':List UC}(T':IsTs X.K π μ.length H qs kws)(r':Vals (qs.map (·.2.2)) ws') :
  ∀ {ps:bQ}{kvs:List (List Int×D)}{ws:List UC}{e:Bool},IsTs X.K π μ.length H ps kvs->Vals (ps.map (·.2.2)) ws->mO μ kws kvs=some e->Hits A s (bM qs ws') (bM ps ws) e
 | _,_,_,_,.nil,.nil,h=>by cases h;exact .nil
 | _,_,_,_,.cons (a:=p) (b:=q) h t,.cons (b:=u) ru tu,hm=>by
  obtain ⟨k,d⟩:=q
  have hk:p.1=k:=h.1
  have rel:=kY r' p.1
  unfold bM
  rw [Vs]
  simp only [mO] at hm
  split at hm
  ·rename_i hv
   cases hm
   refine .miss ?_
   rcases T'.val p.1 with ⟨z1,z2⟩|⟨v,d2,z1,z2,z3⟩
   ·rw [z1] at rel
    cases h2:Yl (bM qs ws') p.1 with
    | none=>exact h2
    | some y=>rw [h2] at rel;exact rel.elim
   ·rw [hk] at z2;rw [hv] at z2;cases z2
  ·rename_i y hv
   obtain ⟨e1,h1,hm⟩:=Uw.mp hm
   obtain ⟨b1,h2,hm⟩:=UB.mp hm
   subst hm
   rcases T'.val p.1 with ⟨z1,z2⟩|⟨v,d2,z1,z2,z3⟩
   ·rw [hk] at z2;rw [hv] at z2;cases z2
   ·rw [hk] at z2;rw [hv] at z2
    cases z2
    rw [z1] at rel
    cases h3:Yl (bM qs ws') p.1 with
    | none=>rw [h3] at rel;exact rel.elim
    | some y'=>
     rw [h3] at rel
     exact .hit (x:=(p.1,p.2.1,u)) h3 (rV I R 8 hu ru rel h.2.2 z3 h1) (DE I R hu T' r' t tu h2)
section
variable {X:Cx}{a b:UO}{ma mb:ME}{pos:Wl}{k:Nat}
theorem tH (ne:Bool)(hu:X.A.units+16<V3):OpR X (VD (if ne then .NotEq else .Eq)) (DD X.K ne):=by
 intro a5f s σ H x y v u Q I rx ry h
 obtain ⟨π,μ,i,j,ps,qs,kvs,kws,e,R,rfl,rfl,e1,e2,T,T',hh,q⟩:=h
 obtain rfl:v=UP (π i):=rx
 obtain rfl:u=UP (π j):=ry
 obtain ⟨la,hl,ws,r,da⟩:=iB I (.of e1) T.keys
 obtain ⟨lb,hl',ws',r',db⟩:=iB I (.of e2) T'.keys
 have n1:(bM ps ws).length=kvs.length:=by
  have z1:=congrArg Vq (kC r)
  have z2:=congrArg Vq T.to.1
  simp only [Uz] at z1 z2
  omega
 have n2:(bM qs ws').length=kws.length:=by
  have z1:=congrArg Vq (kC r')
  have z2:=congrArg Vq T'.to.1
  simp only [Uz] at z1 z2
  omega
 have hits:(bM ps ws).length=(bM qs ws').length->Hits X.A.in1 s (bM qs ws') (bM ps ws) e:=fun z=>DE I R (by rw [kP];omega) T' r' T r (hh (by omega))
 cases ne with
 | false=>exact OZ (kZ (by omega)) (by omega) la lb da db hits ⟨.bl _,H,I,rfl,by rw [n1,n2];exact q⟩
 | true=>exact O0 (kZ (by omega)) (by omega) la lb da db hits ⟨.bl _,H,I,rfl,by rw [n1,n2];exact q⟩
theorem O1 (hr:Room k X.A)(ha:QE X a ma)(hb:QE X b mb):QE X (.Compare a [.Eq] [b] pos) (aB (dH false) ma mb):=⟨eC (tH false (by have:=hr.un;omega)) tG ha.h hb.h (cW _)⟩
theorem O2 (hr:Room k X.A)(ha:QE X a ma)(hb:QE X b mb):QE X (.Compare a [.NotEq] [b] pos) (aB (dH true) ma mb):=⟨eC (tH true (by have:=hr.un;omega)) tG ha.h hb.h (cW _)⟩
theorem O3 (hr:Room k X.A)(ha:QE X a ma)(hb:QE X b mb):QT X (.Compare a [.Eq] [b] pos) (aR (aB (dH false) ma mb)):=⟨eD (tH false (by have:=hr.un;omega)) tG ha.h hb.h (cW _)⟩
theorem O4 (hr:Room k X.A)(ha:QE X a ma)(hb:QE X b mb):QT X (.Compare a [.NotEq] [b] pos) (aR (aB (dH true) ma mb)):=⟨eD (tH true (by have:=hr.un;omega)) tG ha.h hb.h (cW _)⟩
end
end L3
namespace L3
open PySem L2
structure Sig where
 fn:List (Str×Nat)
 con:List (Str×D)
 tab:List (Str×List (bD×D))
 no:List Str
 dIt:List Str
 dEq:List Str
 dMe:List Str
structure Cs where
 N:List Str
 ks:List (Str×W3)
noncomputable def lA (x:Str):List Str->Option Nat
 | []=>none
 | y::r=>if x=y then some 0 else (lA x r).map (·+1)
theorem qH {x:Str}:∀ {N:List Str}{i:Nat},lA x N=some i->N[i]? = some x
 | [],_,h=>by cases h
 | y::r,i,h=>by
  unfold lA at h
  split at h
  ·rename_i e;cases h;subst e;rfl
  ·obtain ⟨j,h1,h2⟩:=UB.mp h
   subst h2
   have:=qH h1
   simpa using this
noncomputable def glob (c:Cs)(x:Str):Bool:=decide (c.ks.lookup x=some .globalImplicit)&&!(x == ("__debug__":Str))
noncomputable def m8 (c:Cs)(x:Str):Bool:=(decide (c.ks.lookup x=some .local)||decide (c.ks.lookup x=some .cell)||decide (c.ks.lookup x=some .free))&&!(x == ("__debug__":Str))&&!(x == ("__classdict__":Str))
noncomputable def mP (c:Cs)(x:Str):Bool:=decide (c.ks.lookup x=some .local)||decide (c.ks.lookup x=some .cell)
noncomputable def xC (x:Str):Option String:=
 if x = "int" then some "int" else if x = "bool" then some "bool" else if x = "str" then some "str" else if x = "list" then some "list" else if x = "tuple" then some "tuple" else if x = "dict" then some "dict" else none
theorem O5 {x:Str}{n:String}(h:xC x=some n):Wa x=some (.type n)/\x ≠ "__name__":=by
 unfold xC at h
 split at h
 ·rename_i e;subst e;cases h;exact ⟨Zk,by decide⟩
 split at h
 ·rename_i e;subst e;cases h;exact ⟨a2x,by decide⟩
 split at h
 ·rename_i e;subst e;cases h;exact ⟨a2t,by decide⟩
 split at h
 ·rename_i e;subst e;cases h;exact ⟨Yb,by decide⟩
 split at h
 ·rename_i e;subst e;cases h;exact ⟨Zc,by decide⟩
 split at h
 ·rename_i e;subst e;cases h;exact ⟨Xa,by decide⟩
 ·cases h
noncomputable def xD (S:Sig)(c:Cs)(x:Str):ME:=
 if m8 c x=true then (match lA x c.N with|some i=>aA i|none=>bX)
 else if glob c x=true then (match S.con.lookup x with
  | some d=>mC d
  | none=>if S.no.contains x=true then (match xC x with|some n=>mC (.ty n)|none=>bX) else bX)
 else bX
noncomputable def e8 (r:UO->ME):List UO->MA
 | []=>aD
 | e::es=>aC (r e) (e8 r es)
noncomputable def tI (op:BoolOp):List ME->ME
 | []=>bX
 | [m]=>m
 | m::r=>match op with
  | .And=>fX m (tI op r)
  | .Or=>vG m (tI op r)
noncomputable def tJ (op:BoolOp):List MT->MT
 | []=>lZ
 | [m]=>m
 | m::r=>match op with
  | .And=>iO m (tJ op r)
  | .Or=>eE m (tJ op r)
noncomputable def DF (op:a1E)(a b:ME):ME:=match op with
 | .Add=>aB bK a b
 | .Sub=>aB cJ a b
 | .Mult=>aB bH a b
 | .FloorDiv=>aB dS a b
 | .Mod=>aB aY a b
 | .Pow=>aB nF a b
 | _=>bX
noncomputable def lB (op:X3)(ns:Bool)(a b:ME):ME:=match op with
 | .Eq=>aB (aZ false) a b
 | .NotEq=>aB (aZ true) a b
 | .Lt=>aB iQ a b
 | .LtE=>aB vQ a b
 | .Gt=>aB nG a b
 | .GtE=>aB pL a b
 | .In=>if ns=true then aB (dG false) a b else bX
 | .NotIn=>if ns=true then aB (dG true) a b else bX
 | .Is=>aB (hX false) a b
 | .IsNot=>aB (hX true) a b
noncomputable def oE (r:UO->ME):Option UO->MO
 | none=>iP
 | some e=>gY (r e)
noncomputable def d9:MF:=fun ds μ=>match ds with
 | [.loc a]=>match μ[a]? with
  | some (.lst xs)=>some (.int xs.length,μ)
  | some (.st ks)=>some (.int ks.length,μ)
  | some (.dT kvs)=>some (.int kvs.length,μ)
  | _=>none
 | _=>pO ds μ
noncomputable def oF:MF:=fun ds μ=>match ds with
 | [x]=>(bI μ x).map fun xs=>(.tup xs,μ)
 | _=>none
theorem O6 {K:Ux}:dC K oF (fun xs H Q=>∃ p ys,xs=[.ref p]/\((SqL K H p ys/\∀ l,H l=none->Q (.ref l) (aK H l (.tup ys)))\/(SqT K H p ys/\Q (.ref p) H))):=by
 intro π H μ xs d μ' vs Q R i hm k
 unfold oF at hm
 split at hm
 ·obtain ⟨ys,h1,h2⟩:=UB.mp hm
  cases h2
  cases i with
  | cons i t=>
   cases t
   obtain ⟨p,ws,rfl,q,hd⟩:=lX R i h1
   refine ⟨p,ws,rfl,?_⟩
   rcases q with q|q
   ·refine .inl ⟨q,fun l hl=>?_⟩
    obtain ⟨e2,R2⟩:=R.fresh (o:=.tup ws) hl
    exact k π _ _ e2 R2 (.tup (.of cV) (hd.mono e2))
   ·exact .inr ⟨q,k π _ H .refl R (.tup q hd)⟩
 ·cases hm
noncomputable def lC:MF:=fun ds μ=>match ds with
 | [.loc a]=>match μ[a]? with
  | some (.dT kvs)=>some (.loc μ.length,μ++[.lst (kvs.map fun k=>D.tup (k.1.map D.int))])
  | _=>r8 [.loc a] μ
 | ds=>r8 ds μ
theorem O7 {K:Ux}:dC K lC (fun xs H Q=>(∃ p ys,xs=[.ref p]/\(SqL K H p ys\/SqT K H p ys)/\∀ l,H l=none->Q (.ref l) (aK H l (.lst ys)))\/C4 K xs H Q):=by
 intro π H μ xs d μ' vs Q R i hm k
 unfold lC at hm
 split at hm
 ·rename_i a
  split at hm
  ·rename_i kvs hy
   cases hm
   cases i with
   | cons i t=>
    cases t
    cases i
    obtain ⟨ps,h1,T⟩:=eQ R hy
    refine .inr ⟨_,ps,rfl,h1,T.keys,fun l hl=>?_⟩
    obtain ⟨e2,R2,_⟩:=R.alloc (c:=.lst (kvs.map fun k:List Int×D=>D.tup (k.1.map D.int))) (o:=.lst (ps.map fun p:List Int×Addr×V=>V.ref p.2.1)) hl T.to.2.1
    exact k _ _ _ e2 R2 eM
  ·exact .inl (BH π H μ _ d μ' vs Q R i hm k)
 ·exact .inl (BH π H μ _ d μ' vs Q R i hm k)
noncomputable def xE (x:Str):Option MF:=
 if x = "len" then some d9
 else if x = "isinstance" then some eN
 else if x = "int" then some nK
 else if x = "list" then some lC
 else if x = "tuple" then some oF
 else if x = "all" then some pQ
 else if x = "sorted" then some jG
 else if x = "sum" then some mH
 else none
noncomputable def O8 (K:Ux):List V->Hp->VK->Prop:=fun xs H Q=>vX K xs H Q\/(∃ a L,xs=[V.ref a]/\H a=some (rP a L)/\Q (.int L.length) H)\/C3 K xs H Q
theorem O9 {K:Ux}:dC K d9 (O8 K):=by
 intro π H μ xs d μ' vs Q R i hm k
 unfold d9 at hm
 split at hm
 ·rename_i a
  split at hm
  ·rename_i ys hy
   refine .inl (BG π H μ _ d μ' vs Q R i ?_ k)
   simp only [pO,bI,hy]
   exact hm
  ·rename_i ks hy
   cases hm
   cases i with
   | cons i t=>
    cases t
    cases i
    obtain ⟨L,h1,h2,_⟩:=R.st a ks hy
    have:=congrArg Vq h2
    rw [Uz] at this
    refine .inr (.inl ⟨_,L,rfl,h1,?_⟩)
    rw [this]
    exact k π _ H .refl R (.int _)
  ·rename_i kvs hy
   cases hm
   cases i with
   | cons i t=>
    cases t
    cases i
    obtain ⟨ps,h1,T⟩:=eQ R hy
    have:=congrArg Vq T.to.1
    rw [Uz,Uz] at this
    refine .inr (.inr ⟨_,ps,rfl,h1,T.keys,?_⟩)
    rw [this]
    exact k π _ H .refl R (.int _)
  ·cases hm
 ·exact .inl (BG π H μ _ d μ' vs Q R i hm k)
theorem Pa {X:Cx}{x:Str}{f:MF}(hcalm:X.calm=true)(hun:X.A.units+64<V3)(h:xE x=some f):∃ v r,Wa x=some v/\((∃ id,v=.builtin id)\/∃ T,v=.type T)/\CallR X v r/\dC X.K f r/\x ≠ "__name__":=by
 unfold xE at h
 split at h
 ·rename_i e;subst e;cases h;exact ⟨_,_,a2v,.inl ⟨_,rfl⟩,call_lenM.or (call_lenT.or NR),O9,by decide⟩
 split at h
 ·rename_i e;subst e;cases h;exact ⟨_,_,a2w,.inl ⟨_,rfl⟩,KL,KJ,by decide⟩
 split at h
 ·rename_i e;subst e;cases h;exact ⟨_,_,Zk,.inr ⟨_,rfl⟩,Ib,KI,by decide⟩
 split at h
 ·rename_i e;subst e;cases h;exact ⟨_,_,Yb,.inr ⟨_,rfl⟩,call_list_of.or (NS hcalm),O7,by decide⟩
 split at h
 ·rename_i e;subst e;cases h;exact ⟨_,_,Zc,.inr ⟨_,rfl⟩,IW,O6,by decide⟩
 split at h
 ·rename_i e;subst e;cases h;exact ⟨_,_,a2y,.inl ⟨_,rfl⟩,Mu hcalm,Mt rfl,by decide⟩
 split at h
 ·rename_i e;subst e;cases h;exact ⟨_,_,XZ,.inl ⟨_,rfl⟩,call_sortI.or Mz,Nk,by decide⟩
 split at h
 ·rename_i e;subst e;cases h;exact ⟨_,_,a2s,.inl ⟨_,rfl⟩,MW hcalm,MV,by decide⟩
 ·cases h
noncomputable def xF (x:Str):Option MF:=
 if x = "dict" then some mM else
 xE x
theorem Pb {X:Cx}{x:Str}{f:MF}(hcalm:X.calm=true)(hun:X.A.units+64<V3)(h:xF x=some f):∃ v r,Wa x=some v/\((∃ id,v=.builtin id)\/∃ T,v=.type T)/\CallR X v r/\dC X.K f r/\x ≠ "__name__":=by
 unfold xF at h
 split at h
 ·rename_i e;subst e;cases h;exact ⟨_,_,Xa,.inr ⟨_,rfl⟩,N7 hcalm hun,N8,by decide⟩
 exact Pa hcalm hun h
noncomputable def DG (m:Str)(n:Nat):Option (D->List D->Hm->Option (D×Hm)):=
 if n=1 then (if m = "append" then some dN
  else if m = "extend" then some nR
  else if m = "index" then some nY
  else none)
 else if n=0 then (if m = "clear" then some wG else if m = "pop" then some mD else if m = "reverse" then some wH else none)
 else none
noncomputable def lD:MF:=fun ds μ=>match ds with
 | [.loc a]=>match μ[a]? with
  | some (.dT kvs)=>if 1<=kvs.length/\kvs.length<64/\(∀ p∈kvs,p.1≠[]) then some (.loc μ.length,μ++[.lst ((dP kvs).map fun k=>D.tup (k.1.map D.int))]) else none
  | _=>none
 | _=>none
theorem Pc {K:Ux}:dC K lD (Du K):=by
 intro π H μ xs d μ' vs Q R i hm k
 unfold lD at hm
 split at hm
 ·split at hm
  ·rename_i kvs hy
   split at hm
   ·rename_i hb
    cases hm
    cases i with
    | cons i t=>
     cases t
     cases i
     obtain ⟨ps,h1,T⟩:=eQ R hy
     obtain ⟨el,T2⟩:=Dp T (by omega)
     refine ⟨_,ps,rfl,h1,T.keys,by omega,by omega,fun p hp z=>?_,fun l hl=>?_⟩
     ·have:p.1∈kvs.map (·.1):=by rw [<- T.to.1];exact UR.mpr ⟨p,hp,rfl⟩
      obtain ⟨q,hq,e⟩:=UR.mp this
      exact hb.2.2 q hq (e.trans z)
     ·obtain ⟨e2,R2,_⟩:=R.alloc (c:=.lst ((dP kvs).map fun k:List Int×D=>D.tup (k.1.map D.int))) (o:=.lst ((e6 ps).map fun p:List Int×Addr×V=>V.ref p.2.1)) hl T2.to.2.1
      exact k _ _ _ e2 R2 eM
   ·cases hm
  ·cases hm
 ·cases hm
noncomputable def oG:MF:=fun ds μ=>match ds with
 | [.loc a]=>match μ[a]? with
  | some (.dT kvs)=>if kvs≠[]/\(kvs.map fun p=>Tb.hashT p.1).Nodup then some (.loc μ.length,μ++[.dT kvs]) else none
  | _=>none
 | _=>none
theorem Pd {K:Ux}:dC K oG (DB K):=by
 intro π H μ xs d μ' vs Q R i hm k
 unfold oG at hm
 split at hm
 ·split at hm
  ·rename_i kvs hy
   split at hm
   ·rename_i hb
    cases hm
    cases i with
    | cons i t=>
     cases t
     cases i
     obtain ⟨ps,h1,T⟩:=eQ R hy
     have ek:=T.to.1
     refine ⟨_,ps,rfl,h1,T.keys,fun z=>?_,?_,fun l hl=>?_⟩
     ·rw [z] at ek
      exact hb.1 (YC.mp ek.symm)
     ·have:(ps.map fun p=>Tb.hashT p.1)=kvs.map fun p=>Tb.hashT p.1:=by
       have:=congrArg (a3m Tb.hashT) ek
       simpa [UU,a1K] using this
      rw [this];exact hb.2
     ·obtain ⟨e2,R2,_⟩:=R.alloc (c:=.dT kvs) (o:=aO l ps) hl ⟨ps,rfl,T.to⟩
      exact k _ _ _ e2 R2 eM
   ·cases hm
  ·cases hm
 ·cases hm
noncomputable def xG (S:Sig):UO->List UO->Option (Bool×UO)
 | .Name x _,[.Name y p]=>if S.dMe.contains y=true then (if x = "sorted" then some (true,.Name y p) else if x = "dict" then some (false,.Name y p) else none) else none
 | _,_=>none
noncomputable def DH (S:Sig)(o:UO)(m:Str)(n:Nat):Option (D->List D->Hm->Option (D×Hm)):=
 if m = "setdefault"/\n=2 then some k9 else if m = "get"/\n=2 then some k8 else if m = "clear"/\n=0 then (match o with|.Name x _=>if S.dMe.contains x=true then some oD else none|_=>none) else none
noncomputable def DI (S:Sig):UO->Bool
 | .Name x _=>S.dEq.contains x
 | .Dict [] [] _=>S.dEq.contains "{}"
 | _=>false
noncomputable def oH (op:X3)(a b:ME):ME:=match op with
 | .Eq=>aB (dH false) a b
 | .NotEq=>aB (dH true) a b
 | _=>bX
noncomputable def xH (S:Sig)(c:Cs)(tg:UO):UO->Option Nat
 | .Name x _=>match tg with
  | .Name _ _=>if S.dIt.contains x=true then lA x c.N else none
  | _=>none
 | _=>none
noncomputable def xI (S:Sig)(F:Str->MF)(r:UO->ME)(c:Cs)(f:UO)(args:List UO)(cpos:Wl):ME:=match f with
 | .Name x _=>if glob c x&&args.all dE then (match S.fn.lookup x with
   | some n=>if args.length=n then aG (F x) (e8 r args) else bX
   | none=>if S.no.contains x&&!args.isEmpty then (match xF x with|some g=>aG g (e8 r args)|none=>bX) else bX)
  else bX
 | .Attribute o m apos=>if kS o&&(apos.endLine == cpos.line)&&args.all dE then (
   match DH S o m args.length with
   | some g=>iD g (r o) (e8 r args)
   | none=>
   match DG m args.length with
   | some g=>cT g (r o) (e8 r args)
   | none=>
    bX)
  else bX
 | _=>bX
noncomputable def xJ:UO->Option (UO×List UO)
 | .Call f as [] _=>some (f,as)
 | _=>none
theorem Pe {e f:UO}{as:List UO}(h:xJ e=some (f,as)):∃ pos,e=.Call f as [] pos:=by
 unfold xJ at h
 split at h
 ·cases h;exact ⟨_,rfl⟩
 ·cases h
noncomputable def tK:UO->Option Str
 | .Name x _=>some x
 | _=>none
theorem DJ {e:UO}{x:Str}(h:tK e=some x):∃ p,e=.Name x p:=by
 unfold tK at h
 split at h
 ·cases h;exact ⟨_,rfl⟩
 ·cases h
noncomputable def o1:List UO->Option UO
 | [e]=>some e
 | _=>none
theorem DK {l:List UO}{e:UO}(h:o1 l=some e):l=[e]:=by
 unfold o1 at h
 split at h
 ·cases h;rfl
 ·cases h
noncomputable def xK (f:UO)(args:List UO):Option (Str×Str×UO):=(tK f).bind fun x=>(o1 args).bind fun a=>(xJ a).bind fun g=>(tK g.1).bind fun y=>(o1 g.2).map fun e=>(x,y,e)
theorem DL {f:UO}{args:List UO}{x y:Str}{e:UO}(h:xK f args=some (x,y,e)):∃ p p2 pos,f=.Name x p/\args=[.Call (.Name y p2) [e] [] pos]:=by
 obtain ⟨x',h1,h⟩:=Uw.mp h
 obtain ⟨a,h2,h⟩:=Uw.mp h
 obtain ⟨g,h3,h⟩:=Uw.mp h
 obtain ⟨y',h4,h⟩:=Uw.mp h
 obtain ⟨e',h5,h⟩:=UB.mp h
 cases h
 obtain ⟨p,rfl⟩:=DJ h1
 obtain ⟨pos,rfl⟩:=Pe h3
 obtain ⟨p2,h4⟩:=DJ h4
 exact ⟨p,p2,pos,rfl,by rw [DK h2,h4,DK h5]⟩
noncomputable def Pf (f:UO)(args:List UO):Option (Bool×UO):=(xK f args).bind fun t=>
 if t.1 = "list"/\t.2.1 = "reversed" then some (true,t.2.2) else
 none
noncomputable def DM:Bool->Str
 | false=>"range"
 | true=>"reversed"
noncomputable def lstM:Bool->MF
 | true=>kX
 | false=>kX
noncomputable def xM (S:Sig)(F:Str->MF)(r:UO->ME)(c:Cs)(f:UO)(args:List UO)(cpos:Wl):ME:=
 match Pf f args with
 | some (b,e)=>if glob c "list" && glob c (DM b)&&S.no.contains "list" && S.no.contains (DM b)&&dE e then aG (lstM b) (e8 r [e]) else bX
 | none=>xI S F r c f args cpos
noncomputable def xN:UO->Option (UO×Wl×Wl)
 | .Call g [] [] cpos=>match g with
  | .Attribute o m apos=>if m = "items" then some (o,apos,cpos) else none
  | _=>none
 | _=>none
theorem Pg {e o:UO}{apos cpos:Wl}(h:xN e=some (o,apos,cpos)):e=.Call (.Attribute o "items" apos) [] [] cpos:=by
 unfold xN at h
 split at h
 ·split at h
  ·split at h
   ·rename_i e1;cases h;rw [e1]
   ·cases h
  ·cases h
 ·cases h
noncomputable def Ph (f:UO)(args:List UO):Option (UO×Wl×Wl):=(xK f args).bind fun t=>if t.1 = "dict"/\t.2.1 = "sorted" then xN t.2.2 else none
noncomputable def xO (S:Sig)(F:Str->MF)(r:UO->ME)(c:Cs)(f:UO)(args:List UO)(cpos:Wl):ME:=
 match Ph f args with
 | some q=>if glob c "sorted" && glob c "dict" && S.no.contains "sorted" && S.no.contains "dict" && kS q.1&&(q.2.1.endLine == q.2.2.line) then n8 (r q.1) else bX
 | none=>
 match xG S f args with
 | some (true,e)=>if glob c "sorted" && S.no.contains "sorted" then aG lD (e8 r [e]) else bX
 | some (false,e)=>if glob c "dict" && S.no.contains "dict" then aG oG (e8 r [e]) else bX
 | none=>
 xM S F r c f args cpos
noncomputable def qI (c:Cs)(scope:Xf)(xs:List Str):Bool:=
 (scope.names.all fun y=>decide (y.2≠.cell))&&decide (scope.kind=.function)&&(scope.names.all fun y=>decide (y.2≠.local)||decide (scope.names.lookup y.1=some .local)) &&
 (xs.all fun x=>decide (scope.names.lookup x=some .local))&&decide xs.Nodup&&(scope.names.all fun y=>decide (y.2≠.free)||decide (c.ks.lookup y.1=some .cell)||decide (c.ks.lookup y.1=some .free)) &&
 (scope.names.all fun y=>decide (y.2≠.local)||!(bL xs c.N).contains y.1)&&decide (bL xs c.N).Nodup&&(c.N.all fun y=>!xs.contains y||decide (scope.names.lookup (nH y)=none))
noncomputable def qJ (c:Cs)(scope:Xf)(xs:List Str):Cs:=
 ⟨bL xs c.N++xs,scope.names.map fun (n,k)=>if (k == WB&&c.ks.lookup n == some .cell) then (n,WQ) else (n,k)⟩
noncomputable def DN (r:UO->MT):List UO->MT
 | []=>f7
 | [t]=>r t
 | _=>lZ
noncomputable def xP (S:Sig)(c:Cs):UO->Option (List UO)
 | .Call (.Name x _) args [] _=>if x = "range" then (if glob c x&&S.no.contains x&&args.all dE then some args else none) else none
 | _=>none
noncomputable def tL (S:Sig)(r:UO->ME)(c:Cs)(e:UO):MI:=match xP S c e with
 | some [a]=>j5 (e8 r [a])
 | some [a,b]=>kQ (e8 r [a,b])
 | some _=>BR
 | none=>b8 (r e)
noncomputable def xQ (S:Sig)(c:Cs):UO->Option UO
 | .Call (.Name x _) [a] [] _=>if x = "enumerate" then (if glob c x&&S.no.contains x&&dE a then some a else none) else none
 | _=>none
noncomputable def xR (S:Sig)(r:UO->ME)(c:Cs)(e:UO):MI:=match xQ S c e with
 | some a=>mI (e8 r [a])
 | none=>tL S r c e
noncomputable def xS (S:Sig)(c:Cs):UO->Option (UO×UO)
 | .Call (.Name x _) [a,b] [] _=>if x = "zip" then (if glob c x&&S.no.contains x&&dE a&&dE b then some (a,b) else none) else none
 | _=>none
noncomputable def xT (S:Sig)(r:UO->ME)(c:Cs)(e:UO):MI:=match xS S c e with
 | some (a,b)=>qD (e8 r [a,b])
 | none=>xR S r c e
noncomputable def xU:UO->Option (List Str)
 | .Name x _=>some [x]
 | .Tuple es _ _=>es.mapM fun e=>match e with|.Name x _=>some x|_=>none
 | _=>none
noncomputable def xV:UO->Nat->BD
 | .Tuple ..,n=>vV n
 | _,_=>pN
noncomputable def lE (S:Sig)(r:UO->ME)(c:Cs)(tg e:UO):MI:=match tg with
 | .Tuple ..=>xT S r c e
 | _=>tL S r c e
noncomputable def jH (mi:MI)(rE:Cs->UO->ME)(rT:Cs->UO->MT)(c:Cs)(elt tg iter:UO)(ifs:List UO)(scope:Xf):ME:=match xU tg with
 | some xs=>if qI c scope xs&&fM iter then j6 (xV tg xs.length) mi (DN (rT (qJ c scope xs)) ifs) (rE (qJ c scope xs) elt) else bX
 | none=>bX
noncomputable def xW (S:Sig)(rE:Cs->UO->ME)(rT:Cs->UO->MT)(c:Cs)(elt tg iter:UO)(ifs:List UO)(scope:Xf):ME:=
 match xH S c tg iter with
 | some i=>oB i (jH (mN (rE c iter)) rE rT c elt tg iter ifs scope) (jH (lE S (rE c) c tg iter) rE rT c elt tg iter ifs scope)
 | none=>
 jH (lE S (rE c) c tg iter) rE rT c elt tg iter ifs scope
noncomputable def DO:Const->ME
 | .int i=>mC (.int i)
 | .bool b=>mC (.bl b)
 | .str s=>mC (.str s)
 | .none=>mC .non
 | _=>bX
noncomputable def DP (m:ME):UnaryOp->ME
 | .USub=>jD m
 | .Not=>nB m
 | _=>bX
noncomputable def xX (S:Sig)(r:UO->ME)(a:UO):List X3->List UO->ME
 | [op],[b]=>if DI S b then oH op (r a) (r b) else lB op (fM b) (r a) (r b)
 | [op,op'],[b,b']=>(match kB op,kB op' with
  | some p,some q=>j9 (fJ p) (fJ q) (r a) (r b) (r b')
  | _,_=>bX)
 | _,_=>bX
noncomputable def xY (r:UO->ME):List (Option UO)->List UO->ME
 | [],[]=>eZ
 | [some k],[v]=>n9 (r k) (r v)
 | _,_=>bX
noncomputable def xZ (S:Sig)(r:UO->ME)(c:Cs)(a b:UO):ME:=match b with
 | .Slice lo hi none _=>jV (r a) (oE r lo) (oE r hi)
 | .Slice lo hi (some st) _=>nW (r a) (oE r lo) (oE r hi) (oE r (some st))
 | b=>if nO b then aB aI (r a) (r b) else bX
noncomputable def x8 (r:UO->ME)(es:List UO):ME:=if es.all dE then bP (e8 r es) else bX
noncomputable def x9 (r:UO->ME)(es:List UO):ME:=if es.all dE then b7 (e8 r es) else bX
noncomputable def yA (S:Sig)(F:Str->MF)(r:UO->ME)(c:Cs)(f:UO)(args:List UO)(cpos:Wl):List XT->ME
 | []=>xO S F r c f args cpos
 | _=>bX
noncomputable def yB (S:Sig)(rE:Cs->UO->ME)(rT:Cs->UO->MT)(c:Cs)(elt:UO)(scope:Xf):List Comprehension->ME
 | [⟨tg,iter,ifs,0⟩]=>xW S rE rT c elt tg iter ifs scope
 | _=>bX
noncomputable def DQ (S:Sig)(F:Str->MF)(rE:Cs->UO->ME)(rT:Cs->UO->MT)(c:Cs):UO->ME
 | .Name x _=>xD S c x
 | .Constant v _ _=>DO v
 | .BinOp a op b _=>DF op (rE c a) (rE c b)
 | .UnaryOp op a _=>DP (rE c a) op
 | .Compare a ops bs _=>xX S (rE c) a ops bs
 | .BoolOp op vs _=>tI op (vs.map (rE c))
 | .IfExp t a b _=>jA (rT c t) (rE c a) (rE c b)
 | .Tuple es _ _=>x8 (rE c) es
 | .List es _=>x9 (rE c) es
 | .Dict keys values _=>xY (rE c) keys values
 | .Subscript a b _=>xZ S (rE c) c a b
 | .Call f args kws cpos=>yA S F (rE c) c f args cpos kws
 | .ListComp elt gs scope _=>yB S rE rT c elt scope gs
 | _=>bX
noncomputable def qK (r:UO->ME)(e:UO):MT:=if vY e then dU (r e) else lZ
noncomputable def yC (S:Sig)(r:UO->ME)(a:UO)(ops:List X3)(bs:List UO)(p:Wl):MT:=match ops,bs with
 | [op],[b]=>if DI S b then aR (oH op (r a) (r b)) else aR (lB op (fM b) (r a) (r b))
 | [op,op'],[b,b']=>(match kB op,kB op' with
  | some p,some q=>aR (j9 (fJ p) (fJ q) (r a) (r b) (r b'))
  | _,_=>lZ)
 | ops,bs=>qK r (.Compare a ops bs p)
noncomputable def Pj (r:UO->ME)(t:MT)(a:UO)(p:Wl):UnaryOp->MT
 | .Not=>t
 | op=>qK r (.UnaryOp op a p)
noncomputable def DR (S:Sig)(rE:Cs->UO->ME)(rT:Cs->UO->MT)(c:Cs):UO->MT
 | .BoolOp op vs _=>tJ op (vs.map (rT c))
 | .UnaryOp op a p=>Pj (rE c) (fW (rT c a)) a p op
 | .Compare a ops bs p=>yC S (rE c) a ops bs p
 | e=>qK (rE c) e
noncomputable def tr (S:Sig)(F:Str->MF):Nat->(Cs->UO->ME)×(Cs->UO->MT)
 | 0=>(fun _ _=>bX,fun _ _=>lZ)
 | n+1=>(DQ S F (tr S F n).1 (tr S F n).2,DR S (tr S F n).1 (tr S F n).2)
structure Okx (S:Sig)(F:Str->MF)(k:Nat)(c:Cs)(X:Cx):Prop where
 N:X.N=c.N
 nd:X.N.Nodup
 ks:X.env.scope.names=c.ks
 kind:X.env.scope.kind=.function
 calm:X.calm=true
 room:Room k X.A
 never:a0X (U8 X.prog X.w) X.A X.env X.xe
 fn:∀ x n,S.fn.lookup x=some n->∃ (f:Addr)(fd:WS)(ps:List Str),FnOk X.prog X.w X.K X.mg X.base fG k f fd ps (i9 X.K n (F x))/\X.mg x=some (.ref f)/\Wm X.K (.ref f)=true/\Binds X.K fd ps []
 con:∀ x d,S.con.lookup x=some d->∃ v u,X.mg x=some u/\RelV v u/\∀ π n H,IsD X.K π n H v d
 tab:∀ x kvs,S.tab.lookup x=some kvs->TabOk X x kvs
 no:∀ x,S.no.contains x=true->X.mg x=none
section
variable {S:Sig}{F:Str->MF}{k:Nat}{c:Cs}{X:Cx}
theorem Okx.gl (O:Okx S F k c X){x:Str}(h:glob c x=true):Gl X x/\(x == ("__debug__":Str))=false:=by
 unfold glob at h
 rw [UL] at h
 refine ⟨?_,by simpa using h.2⟩
 show X.env.scope.names.lookup x=_
 rw [O.ks]
 exact of_decide_eq_true h.1
theorem Okx.vis (O:Okx S F k c X){x:Str}(h:m8 c x=true):pC X.env.scope x/\(x == ("__debug__":Str))=false/\(x == ("__classdict__":Str))=false:=by
 unfold m8 at h
 rw [UL,UL,Xi,Xi] at h
 obtain ⟨⟨h1,h2⟩,h3⟩:=h
 refine ⟨?_,by simpa using h2,by simpa using h3⟩
 unfold pC
 rw [O.ks]
 rcases h1 with (h1|h1)|h1
 ·exact .inl (of_decide_eq_true h1)
 ·exact .inr (.inl (of_decide_eq_true h1))
 ·exact .inr (.inr (of_decide_eq_true h1))
theorem Pk (O:Okx S F k c X)(x:Str)(pos:Wl):QE X (.Name x pos) (xD S c x):=by
 unfold xD
 split
 ·rename_i h
  obtain ⟨h1,h2,h3⟩:=O.vis h
  split
  ·rename_i i hi
   exact KP i (by rw [O.N];exact qH hi) h1 h2 h3
  ·exact cA
 split
 ·rename_i h
  obtain ⟨h1,h2⟩:=O.gl h
  split
  ·rename_i d hd
   obtain ⟨v,u,m,r,i⟩:=O.con x d hd
   exact ⟨nA (GL h1 m r h2) i⟩
  ·split
   ·rename_i hn
    split
    ·rename_i n ht
     obtain ⟨b1,b2⟩:=O5 ht
     exact Lq (O.no x hn) b1 h1 b2 h2
    ·exact cA
   ·exact cA
 ·exact cA
theorem iE {r:UO->ME}(hr:∀ e,QE X e (r e)):∀ (es:List UO),es.all dE=true->QA X es (e8 r es) es.length
 | [],_=>Lh
 | e::es,h=>by
  rw [Vo,UL] at h
  exact Li (hr e) (iE hr es h.2) h.1
theorem DS {r:UO->ME}(hr:∀ e,QE X e (r e))(op:BoolOp)(pos:Wl):∀ (vs:List UO),QE X (.BoolOp op vs pos) (tI op (vs.map r))
 | []=>cA
 | [e]=>Ld (hr e)
 | e::e2::es=>by
  have ih:=DS hr op pos (e2::es)
  cases op with
  | And=>exact Le (hr e) ih
  | Or=>exact Lf (hr e) ih
theorem DT {r:UO->MT}(hr:∀ e,QT X e (r e))(op:BoolOp)(pos:Wl):∀ (vs:List UO),QW X (.BoolOp op vs pos) (tJ op (vs.map r))
 | []=>Ma
 | [e]=>by
  cases op with
  | And=>exact LC (hr e)
  | Or=>exact LF (hr e)
 | e::e2::es=>by
  have ih:=DT hr op pos (e2::es)
  cases op with
  | And=>exact LG (hr e) ih
  | Or=>exact LH (hr e) ih
theorem Pl {a b:UO}{ma mb:ME}(ha:QE X a ma)(hb:QE X b mb)(op:a1E)(pos:Wl):QE X (.BinOp a op b pos) (DF op ma mb):=by
 cases op with
 | Add=>exact KW ha hb
 | Sub=>exact KY ha hb
 | Mult=>exact KZ ha hb
 | FloorDiv=>exact K0 ha hb
 | Mod=>exact K1 ha hb
 | Pow=>exact K2 ha hb
 | _=>exact cA
theorem Pm (O:Okx S F k c X){a b:UO}{ma mb:ME}(ha:QE X a ma)(hb:QE X b mb)(op:X3)(pos:Wl):QE X (.Compare a [op] [b] pos) (lB op (fM b) ma mb):=by
 cases op with
 | Eq=>exact K6 O.room ha hb
 | NotEq=>exact K7 O.room ha hb
 | Lt=>exact K9 ha hb
 | LtE=>exact La ha hb
 | Gt=>exact Lb ha hb
 | GtE=>exact Lc ha hb
 | In=>
  simp only [lB]
  split
  ·rename_i h;exact NU O.room ha hb h
  ·exact cA
 | NotIn=>
  simp only [lB]
  split
  ·rename_i h;exact NV O.room ha hb h
  ·exact cA
 | Is=>exact MP ha hb
 | IsNot=>exact MQ ha hb
theorem DU {e:UO}:QT X e (aR bX):=⟨fun a5f s σ H Q I h=>by
 obtain ⟨π,ρ,μ,d,μ',R,E,hm,k⟩:=h
 cases hm⟩
theorem Pn (O:Okx S F k c X){a b:UO}{ma mb:ME}(ha:QE X a ma)(hb:QE X b mb)(op:X3)(pos:Wl):QT X (.Compare a [op] [b] pos) (aR (lB op (fM b) ma mb)):=by
 cases op with
 | Eq=>exact Lr O.room ha hb
 | NotEq=>exact Ls O.room ha hb
 | Lt=>exact Lu ha hb
 | LtE=>exact Lv ha hb
 | Gt=>exact Lx ha hb
 | GtE=>exact Lz ha hb
 | In=>
  simp only [lB]
  split
  ·rename_i h;exact NW O.room ha hb h
  ·exact DU
 | NotIn=>
  simp only [lB]
  split
  ·rename_i h;exact NX O.room ha hb h
  ·exact DU
 | Is=>exact MR ha hb
 | IsNot=>exact MU ha hb
theorem qL {r:UO->ME}(hr:∀ e,QE X e (r e)):∀ o:Option UO,QO X o (oE r o)
 | none=>Lm
 | some e=>Ln (hr e)
theorem Po (O:Okx S F k c X){r:UO->ME}(hr:∀ e,QE X e (r e))(f:UO)(args:List UO)(cpos:Wl):QE X (.Call f args [] cpos) (xI S F r c f args cpos):=by
 unfold xI
 split
 ·rename_i x p
  split
  ·rename_i hg
   rw [UL] at hg
   obtain ⟨g1,g2⟩:=O.gl hg.1
   have ha:=iE hr args hg.2
   split
   ·rename_i n hn
    split
    ·rename_i hl
     obtain ⟨fa,fd,ps,FO,hm,hk,hb⟩:=O.fn x n hn
     subst hl
     cases args with
     | nil=>exact Mq FO O.room hm hk hb g1 g2
     | cons e es=>exact Lp FO O.room hm hk hb ha g1 g2
    ·exact cA
   ·split
    ·rename_i hno
     rw [UL] at hno
     split
     ·rename_i g hb
      obtain ⟨v,rr,b1,b2,b3,b4,b5⟩:=Pb (X:=X) O.calm O.room.units hb
      cases args with
      | nil=>exact absurd hno.2 (by simp)
      | cons e es=>
       rcases b2 with ⟨id,rfl⟩|⟨T,rfl⟩
       ·exact BN b3 b4 (O.no x hno.1) b1 ha g1 b5 g2
       ·exact BO b3 b4 (O.no x hno.1) b1 ha g1 b5 g2
     ·exact cA
    ·exact cA
  ·exact cA
 ·rename_i o m apos
  split
  ·rename_i hg
   rw [UL,UL] at hg
   obtain ⟨⟨h1,h2⟩,h3⟩:=hg
   have ha:=iE hr args h3
   split
   ·rename_i g hm
    unfold DH at hm
    split at hm
    ·rename_i hl
     obtain ⟨rfl,hl⟩:=hl
     cases hm
     cases args with
     | nil=>cases hl
     | cons e es=>exact Dw Z8 PySem.F.type_dict_setdefault (OR (by have:=O.room.units;omega)) OQ (hr o) ha h1 h2 (by rw [hl];decide)
    split at hm
    ·rename_i hl
     obtain ⟨rfl,hl⟩:=hl
     cases hm
     cases args with
     | nil=>cases hl
     | cons e es=>exact Dw a1f PySem.F.type_dict_get (ON (by have:=O.room.units;omega)) OM (hr o) ha h1 h2 (by rw [hl];decide)
    split at hm
    ·rename_i hl
     obtain ⟨rfl,hl⟩:=hl
     split at hm
     ·split at hm
      ·cases hm
       cases args with
       | cons e es=>cases hl
       | nil=>exact OL a0K PySem.F.type_dict_clear OU OS (hr _) h1 h2
      ·cases hm
     ·cases hm
    ·cases hm
   split
   ·rename_i g hm
    unfold DG at hm
    split at hm
    ·rename_i hl
     cases args with
     | nil=>cases hl
     | cons e es=>
      have hn:(e::es).length<30:=by rw [hl];decide
      split at hm
      ·rename_i e1;subst e1;cases hm
       exact wD PySem.F.slot_list_append PySem.F.type_list_append AZ Mi (hr o) ha h1 h2 hn
      split at hm
      ·rename_i e1;subst e1;cases hm
       exact wD PySem.F.slot_list_extend PySem.F.type_list_extend Ja Mj (hr o) ha h1 h2 hn
      split at hm
      ·rename_i e1;subst e1;cases hm
       exact wD PySem.F.slot_list_index PySem.F.type_list_index (Nh (by have:=O.room.units;omega)) Nf (hr o) ha h1 h2 hn
      ·cases hm
    split at hm
    ·rename_i hl
     cases args with
     | cons e es=>cases hl
     | nil=>
      split at hm
      ·rename_i e1;subst e1;cases hm
       exact wF PySem.F.slot_list_clear PySem.F.type_list_clear Jd Ml (hr o) h1 h2
      split at hm
      ·rename_i e1;subst e1;cases hm
       exact wF PySem.F.slot_list_pop PySem.F.type_list_pop Jb Mn (hr o) h1 h2
      split at hm
      ·rename_i e1;subst e1;cases hm
       exact wF PySem.F.slot_list_reverse PySem.F.type_list_reverse Jc Mm (hr o) h1 h2
      ·cases hm
    ·cases hm
   ·skip
    ·exact cA
  ·exact cA
 ·exact cA
theorem Pp (O:Okx S F k c X){r:UO->ME}(hr:∀ e,QE X e (r e))(f:UO)(args:List UO)(cpos:Wl):QE X (.Call f args [] cpos) (xM S F r c f args cpos):=by
 unfold xM
 split
 ·rename_i b e h
  split
  ·rename_i hg
   rw [UL,UL,UL,UL] at hg
   obtain ⟨⟨⟨⟨g1,g2⟩,n1⟩,n2⟩,st⟩:=hg
   have ha:=iE hr [e] (by rw [Vo,st];rfl)
   obtain ⟨t,h1,h2⟩:=Uw.mp h
   obtain ⟨p,p2,pos,rfl,rfl⟩:=DL h1
   split at h2
   ·rename_i hxy
    cases h2
    rw [hxy.1,hxy.2]
    exact Nv O.calm (O.no _ n1) (O.no _ n2) ha (O.gl g1).1 (O.gl g2).1
   ·cases h2
  ·exact cA
 ·exact Po O hr f args cpos
theorem tN (O:Okx S F k c X){scope:Xf}{xs:List Str}(h:qI c scope xs=true):CompSt X.env.scope X.N scope xs/\xs.Nodup:=by
 unfold qI at h
 rw [UL,UL] at h
 obtain ⟨⟨h,h8⟩,h9⟩:=h
 have h8:=of_decide_eq_true h8
 have h9':∀ y∈c.N,xs.contains y=true->scope.names.lookup (nH y)=none:=fun y hy hc=>by
  have:=W7.mp h9 y hy
  rw [hc] at this
  simpa using this
 simp only [UL,W7,decide_eq_true_eq,Xi,a2G,List.contains_eq_mem,decide_eq_false_iff_not] at h
 obtain ⟨⟨⟨⟨⟨⟨h1,h2⟩,h3⟩,h4⟩,h7⟩,h5⟩,h6⟩:=h
 refine ⟨⟨h1,h2,fun y hy hl=>(h3 y hy).resolve_left (fun z=>z hl),h4,fun y hy hf=>?_,fun y hy hl=>?_,O.nd,by rw [O.N];exact h8,by rw [O.N];exact h9'⟩,h7⟩
 ·rw [O.ks]
  rcases h5 y hy with (z|z)|z
  ·exact absurd hf z
  ·exact .inl z
  ·exact .inr z
 ·rw [O.N]
  have:=(h6 y hy).resolve_left (fun z=>z hl)
  exact this
theorem DV {N xs:List Str}(h:N.Nodup)(h2:xs.Nodup)(h3:∀ x∈xs,x∉N):(N++xs).Nodup:=by
 rw [WV]
 exact ⟨h,h2,fun a ha b hb e=>by subst e;exact h3 _ hb ha⟩
theorem Okx.comp (O:Okx S F k c X){scope:Xf}{xs:List Str}(h:qI c scope xs=true){cl:List (Str×Addr)}{C:Addr}{s₀:UE}{H₀:Hp}{fp:List Addr}:Okx S F k (qJ c scope xs) (cX X scope cl C (bL xs X.N++xs) s₀ H₀ fp):=by
 obtain ⟨St,hnd⟩:=tN O h
 refine ⟨show bL xs X.N++xs=bL xs c.N++xs by rw [O.N],?_,?_,?_,O.calm,O.room,a1P,O.fn,O.con,fun y kvs q=>⟨(O.tab y kvs q).ex⟩,O.no⟩
 ·show (bL xs X.N++xs).Nodup
  exact DV St.hnd hnd fun x hx=>St.own (x,.local) (VQ (St.here x hx)) rfl
 ·show (a3I scope X.env).names=(qJ c scope xs).ks
  unfold a3I qJ
  dsimp only
  refine Vx fun y _=>?_
  obtain ⟨n,kk⟩:=y
  dsimp only
  have:(X.env.scope.kind == ScopeKind.function)=true:=by rw [O.kind];rfl
  rw [this,a1h]
  show (if (kk == WB&&X.env.scope.names.lookup n == some WQ)=true then _ else _)=_
  rw [O.ks]
 ·show (a3I scope X.env).kind=.function
  exact St.kind
theorem DW {r:UO->MT}(hr:∀ e,QT X e (r e)):∀ es:List UO,QI X es (DN r es)
 | []=>LK
 | [t]=>LL (hr t)
 | a::b::es=>⟨fun a5f s σ H Q I h=>by
   obtain ⟨π,ρ,μ,d,μ',R,E,hm,k⟩:=h
   cases hm⟩
theorem DX (O:Okx S F k c X){e:UO}{args:List UO}(h:xP S c e=some args):∃ p pos,e=.Call (.Name "range" p) args [] pos/\Gl X "range"/\X.mg "range" = none/\args.all dE=true:=by
 unfold xP at h
 split at h
 ·split at h
  ·rename_i e1
   subst e1
   split at h
   ·rename_i hg
    cases h
    rw [UL,UL] at hg
    exact ⟨_,_,rfl,(O.gl hg.1.1).1,O.no _ hg.1.2,hg.2⟩
   ·cases h
  ·cases h
 ·cases h
theorem DY (O:Okx S F k c X){r:UO->ME}(hr:∀ e,QE X e (r e))(e:UO):QJ X e (tL S r c e):=by
 unfold tL
 split
 ·rename_i a h
  obtain ⟨p,pos,rfl,h1,h2,h3⟩:=DX O h
  exact L1 h1 h2 (iE hr [a] h3)
 ·rename_i a b h
  obtain ⟨p,pos,rfl,h1,h2,h3⟩:=DX O h
  exact L4 h1 h2 (iE hr [a,b] h3)
 ·exact LZ
 ·exact L0 (hr e)
theorem Pq (O:Okx S F k c X){e a:UO}(h:xQ S c e=some a):∃ p pos,e=.Call (.Name "enumerate" p) [a] [] pos/\Gl X "enumerate"/\X.mg "enumerate" = none/\dE a=true:=by
 unfold xQ at h
 split at h
 ·split at h
  ·rename_i e1
   subst e1
   split at h
   ·rename_i hg
    cases h
    rw [UL,UL] at hg
    exact ⟨_,_,rfl,(O.gl hg.1.1).1,O.no _ hg.1.2,hg.2⟩
   ·cases h
  ·cases h
 ·cases h
theorem Pr (O:Okx S F k c X){r:UO->ME}(hr:∀ e,QE X e (r e))(e:UO):QJT X e (xR S r c e):=by
 unfold xR
 split
 ·rename_i a h
  obtain ⟨p,pos,rfl,h1,h2,h3⟩:=Pq O h
  exact M8 h1 h2 (iE hr [a] (by rw [Vo,h3];rfl))
 ·exact (DY O hr e).t
theorem Pt (O:Okx S F k c X){e a b:UO}(h:xS S c e=some (a,b)):∃ p pos,e=.Call (.Name "zip" p) [a,b] [] pos/\Gl X "zip"/\X.mg "zip" = none/\dE a=true/\dE b=true:=by
 unfold xS at h
 split at h
 ·split at h
  ·rename_i e1
   subst e1
   split at h
   ·rename_i hg
    cases h
    rw [UL,UL,UL] at hg
    exact ⟨_,_,rfl,(O.gl hg.1.1.1).1,O.no _ hg.1.1.2,hg.1.2,hg.2⟩
   ·cases h
  ·cases h
 ·cases h
theorem Pu (O:Okx S F k c X){r:UO->ME}(hr:∀ e,QE X e (r e))(e:UO):QJT X e (xT S r c e):=by
 unfold xT
 split
 ·rename_i a b h
  obtain ⟨p,pos,rfl,h1,h2,h3,h4⟩:=Pt O h
  exact N3 h1 h2 (iE hr [a,b] (by rw [Vo,Vo,h3,h4];rfl))
 ·exact Pr O hr e
theorem oI (O:Okx S F k c X){r:UO->ME}(hr:∀ e,QE X e (r e))(tg e:UO):PI X tg e (j0 X.K (lE S r c tg e)):=by
 unfold lE
 split
 ·exact (Pu O hr e).h _ _ _
 ·exact (DY O hr e).h _
theorem DZ {iter:UO}{env:ZZ}(h:fM iter=true):∀ x,Yj iter env x=pure x:=by
 intro z
 cases iter<;>first|rfl|cases h
end
theorem D0 {X:Cx}(hN:X.N.Nodup):∀ (es:List UO)(xs:List Str)(n:Nat),(es.mapM fun e=>match e with|.Name x _=>some x|_=>none)=some xs->(∀ j x,xs[j]? = some x->X.N[n+j]? = some x/\X.env.scope.names.lookup x=some .local)->QGs X es (YS n xs.length)
 | [],xs,n,h,hx=>by
  cases h
  exact BP
 | e::es,xs,n,h,hx=>by
  rw [List.mapM_cons] at h
  obtain ⟨x,h1,h⟩:=Uw.mp h
  obtain ⟨ys,h2,h⟩:=Uw.mp h
  cases h
  cases e with
  | Name y p=>
   cases h1
   rw [Vm,Y3]
   have h0:=hx 0 x rfl
   refine BQ n hN (D0 hN es ys (n+1) h2 fun j z hz=>?_) (by simpa using h0.1) (.inl h0.2) (.inr h0.2)
   have:=hx (j+1) z (by simpa using hz)
   rw [show n+1+j=n+(j+1) by omega]
   exact this
  | _=>cases h1
theorem tP {S:Sig}{F:Str->MF}{k:Nat}{c:Cs}{X:Cx}(O:Okx S F k c X){scope:Xf}{tg:UO}{xs:List Str}(hx:xU tg=some xs)(h:qI c scope xs=true)(cl:List (Str×Addr))(C:Addr)(s₀:UE)(H₀:Hp)(fp:List Addr) :
  PG (cX X scope cl C (bL xs X.N++xs) s₀ H₀ fp) tg (fY X.K (gB X.N.length (xV tg xs.length)))/\∀ d μ z,xV tg xs.length d μ=some z->z.length=xs.length:=by
 obtain ⟨St,hnd⟩:=tN O h
 have hN:(bL xs X.N++xs).Nodup:=DV St.hnd hnd fun x hx=>St.own (x,.local) (VQ (St.here x hx)) rfl
 have hloc:∀ x∈xs,(a3I scope X.env).names.lookup x=some .local:=fun x hx=>lookup_relabel_local (St.here x hx)
 unfold xU at hx
 split at hx
 ·rename_i x p
  cases hx
  refine ⟨L5 (X:=cX X scope cl C (bL [x] X.N++[x]) s₀ H₀ fp) (by show (bL [x] X.N++[x]).length=_;rw [U5,lV];rfl) (BB (X:=cX X scope cl C (bL [x] X.N++[x]) s₀ H₀ fp) hN (by show (bL [x] X.N++[x])[X.N.length]? = _;rw [<- lV [x] X.N];simp) (.inl (hloc x (by simp))) (.inr (hloc x (by simp)))),fun d μ z hz=>?_⟩
  cases hz
  rfl
 ·rename_i es kk pt
  refine ⟨L6 (X:=cX X scope cl C (bL xs X.N++xs) s₀ H₀ fp) (by show (bL xs X.N++xs).length=_;rw [U5,lV]) (vZ (X:=cX X scope cl C (bL xs X.N++xs) s₀ H₀ fp) (D0 (X:=cX X scope cl C (bL xs X.N++xs) s₀ H₀ fp) hN es xs X.N.length hx fun j x hj=>⟨?_,hloc x (Ve hj)⟩) O.calm).h,fun d μ z hz=>?_⟩
  ·show (bL xs X.N++xs)[X.N.length+j]? = some x
   rw [Wq (by rw [lV];omega),lV,show X.N.length+j - X.N.length=j by omega]
   exact hj
  ·obtain ⟨ys,h1,h2⟩:=Uw.mp hz
   split at h2
   ·rename_i hl
    cases h2
    rw [Uz];exact hl
   ·cases h2
 ·cases hx
theorem Pw (O:Okx S F k c X){r:UO->ME}(hr:∀ e,QE X e (r e))(f:UO)(args:List UO)(cpos:Wl):QE X (.Call f args [] cpos) (xO S F r c f args cpos):=by
 unfold xO
 split
 ·rename_i q h
  split
  ·rename_i hg
   rw [UL,UL,UL,UL,UL] at hg
   obtain ⟨⟨⟨⟨⟨g1,g2⟩,n1⟩,n2⟩,st⟩,ln⟩:=hg
   obtain ⟨t,h1,h2⟩:=Uw.mp h
   split at h2
   ·rename_i hxy
    obtain ⟨p,p2,pos,rfl,rfl⟩:=DL h1
    rw [hxy.1,hxy.2,Pg h2]
    exact Ov O.calm O.room.units (O.no _ n1) (O.no _ n2) (O.gl g1).1 (O.gl g2).1 (hr _) st ln
   ·cases h2
  ·exact cA
 split
 ·rename_i e h
  split
  ·rename_i hg
   rw [UL] at hg
   unfold xG at h
   split at h
   ·split at h
    ·split at h
     ·rename_i e1;subst e1
      cases h
      exact BN (OG O.calm) Pc (O.no _ hg.2) XZ (iE hr _ rfl) (O.gl hg.1).1 (by decide) (O.gl hg.1).2
     ·split at h
      ·cases h
      ·cases h
    ·cases h
   ·cases h
  ·exact cA
 ·rename_i e h
  split
  ·rename_i hg
   rw [UL] at hg
   unfold xG at h
   split at h
   ·split at h
    ·split at h
     ·cases h
     ·split at h
      ·rename_i e1;subst e1
       cases h
       exact BO OY Pd (O.no _ hg.2) Xa (iE hr _ rfl) (O.gl hg.1).1 (by decide) (O.gl hg.1).2
      ·cases h
    ·cases h
   ·cases h
  ·exact cA
 exact Pp O hr _ _ _
theorem tQ {S:Sig}{F:Str->MF}{k:Nat}{rE:Cs->UO->ME}{rT:Cs->UO->MT}(hE:∀ c X,Okx S F k c X->∀ e,QE X e (rE c e))(hT:∀ c X,Okx S F k c X->∀ e,QT X e (rT c e))(c:Cs)(X:Cx)(O:Okx S F k c X)
  (elt tg iter:UO)(ifs:List UO)(scope:Xf)(pos:Wl){mi:MI}(hi:PI X tg iter (j0 X.K mi)):QE X (.ListComp elt [⟨tg,iter,ifs,0⟩] scope pos) (jH mi rE rT c elt tg iter ifs scope):=by
 unfold jH
 split
 ·rename_i xs hx
  split
  ·rename_i h
   rw [UL] at h
   refine ⟨fun a5f s σ H Q I q=>?_⟩
   exact L8 ((tN O h.1).1.ok I.ok) O.calm hi (fun d μ z=>(tP O hx h.1 [] 0 s H []).2 d μ z) (fun C s₀ H₀ fp=>(tP O hx h.1 _ C s₀ H₀ fp).1) (fun C s₀ H₀ fp=>(DW (hT _ _ (O.comp h.1)) _).h) (fun C s₀ H₀ fp=>(hE _ _ (O.comp h.1) _).h) (DZ h.2) a5f s σ H Q I q
  ·exact cA
 ·exact cA
theorem Px {S:Sig}{F:Str->MF}{k:Nat}{rE:Cs->UO->ME}{rT:Cs->UO->MT}(hE:∀ c X,Okx S F k c X->∀ e,QE X e (rE c e))(hT:∀ c X,Okx S F k c X->∀ e,QT X e (rT c e))(c:Cs)(X:Cx)(O:Okx S F k c X)
  (elt tg iter:UO)(ifs:List UO)(scope:Xf)(pos:Wl):QE X (.ListComp elt [⟨tg,iter,ifs,0⟩] scope pos) (xW S rE rT c elt tg iter ifs scope):=by
 unfold xW
 split
 ·exact OA (tQ hE hT c X O elt tg iter ifs scope pos ((xB (hE c X O iter)).h tg)) (tQ hE hT c X O elt tg iter ifs scope pos (oI O (hE c X O) tg iter))
 exact tQ hE hT c X O elt tg iter ifs scope pos (oI O (hE c X O) tg iter)
theorem Py {S:Sig}{F:Str->MF}{k:Nat}{c:Cs}{X:Cx}(O:Okx S F k c X){a b:UO}{ma mb:ME}(ha:QE X a ma)(hb:QE X b mb)(op:X3)(pos:Wl):QE X (.Compare a [op] [b] pos) (oH op ma mb):=by
 unfold oH
 split
 ·exact O1 O.room ha hb
 ·exact O2 O.room ha hb
 ·exact cA
theorem Pz {S:Sig}{F:Str->MF}{k:Nat}{c:Cs}{X:Cx}(O:Okx S F k c X){a b:UO}{ma mb:ME}(ha:QE X a ma)(hb:QE X b mb)(op:X3)(pos:Wl):QT X (.Compare a [op] [b] pos) (aR (oH op ma mb)):=by
 unfold oH
 split
 ·exact O3 O.room ha hb
 ·exact O4 O.room ha hb
 ·exact ⟨fun a5f s σ H Q I q=>by
   obtain ⟨π,ρ,μ,b,μ',R,E,hm,k⟩:=q
   cases hm⟩
section
variable {S:Sig}{F:Str->MF}{k:Nat}{c:Cs}{X:Cx}{r:UO->ME}
theorem PB (v:Const)(n:Nat)(p:Wl):QE X (.Constant v n p) (DO v):=by
 cases v<;>first|exact KQ|exact KR|exact KS|exact KU|exact cA
theorem PC (hr:∀ e,QE X e (r e))(op:UnaryOp)(a:UO)(p:Wl):QE X (.UnaryOp op a p) (DP (r a) op):=by
 cases op<;>first|exact K3 (hr _)|exact K5 (hr _)|exact cA
theorem PD (O:Okx S F k c X)(hr:∀ e,QE X e (r e))(a:UO)(ops:List X3)(bs:List UO)(p:Wl):QE X (.Compare a ops bs p) (xX S r a ops bs):=by
 unfold xX
 split
 ·split
  ·exact Py O (hr _) (hr _) _ _
  ·exact Pm O (hr _) (hr _) _ _
 ·split
  ·rename_i h1 h2
   exact MM h1 h2 (hr _) (hr _) (hr _)
  ·exact cA
 ·exact cA
theorem PF (O:Okx S F k c X)(hr:∀ e,QE X e (r e))(ks:List (Option UO))(vs:List UO)(p:Wl):QE X (.Dict ks vs p) (xY r ks vs):=by
 unfold xY
 try split
 ·exact NG
 ·exact Oz O.room (hr _) (hr _)
 ·exact cA
theorem PH (O:Okx S F k c X)(hr:∀ e,QE X e (r e))(a b:UO)(p:Wl):QE X (.Subscript a b p) (xZ S r c a b):=by
 unfold xZ
 split
 ·exact Lo (hr _) (qL hr _) (qL hr _)
 ·exact M3 (hr _) (qL hr _) (qL hr _) (qL hr _)
 ·split
  ·rename_i h
   ·exact NT O.room (hr _) (hr _) h
  ·exact cA
theorem yD (hr:∀ e,QE X e (r e))(e:UO):QT X e (qK r e):=by
 unfold qK
 split
 ·rename_i h;exact Mp (hr _) h
 ·exact v8
theorem PJ (O:Okx S F k c X)(hr:∀ e,QE X e (r e))(a:UO)(ops:List X3)(bs:List UO)(p:Wl):QT X (.Compare a ops bs p) (yC S r a ops bs p):=by
 unfold yC
 split
 ·split
  ·exact Pz O (hr _) (hr _) _ _
  ·exact Pn O (hr _) (hr _) _ _
 ·split
  ·rename_i h1 h2
   exact MN h1 h2 (hr _) (hr _) (hr _)
  ·exact v8
 ·exact yD hr _
theorem PK (hr:∀ e,QE X e (r e))(es:List UO)(n:Nat)(p:Wl):QE X (.Tuple es n p) (x8 r es):=by
 unfold x8
 split
 ·rename_i h;exact Lj (iE hr _ h)
 ·exact cA
theorem PL (hr:∀ e,QE X e (r e))(es:List UO)(p:Wl):QE X (.List es p) (x9 r es):=by
 unfold x9
 split
 ·rename_i h;exact Lk (iE hr _ h)
 ·exact cA
theorem PM (O:Okx S F k c X)(hr:∀ e,QE X e (r e))(f:UO)(args:List UO)(kws:List XT)(p:Wl):QE X (.Call f args kws p) (yA S F r c f args p kws):=by
 unfold yA
 split
 ·exact Pw O hr _ _ _
 ·exact cA
end
theorem D1 {S:Sig}{F:Str->MF}{k:Nat}{rE:Cs->UO->ME}{rT:Cs->UO->MT}(hE:∀ c X,Okx S F k c X->∀ e,QE X e (rE c e))(hT:∀ c X,Okx S F k c X->∀ e,QT X e (rT c e))(c:Cs)(X:Cx)(O:Okx S F k c X) :
  (∀ e,QE X e (DQ S F rE rT c e))/\∀ e,QT X e (DR S rE rT c e):=by
 have hr:=hE c X O
 have ht:=hT c X O
 constructor
 ·intro e
  cases e with
  | Name x p=>exact Pk O _ _
  | Constant v n p=>exact PB v n p
  | BinOp a op b p=>exact Pl (hr _) (hr _) _ _
  | UnaryOp op a p=>exact PC hr op a p
  | Compare a ops bs p=>exact PD O hr a ops bs p
  | BoolOp op vs p=>exact DS hr _ _ _
  | IfExp t a b p=>exact Lg (ht _) (hr _) (hr _)
  | Tuple es n p=>exact PK hr es n p
  | List es p=>exact PL hr es p
  | Dict ks vs p=>exact PF O hr ks vs p
  | Subscript a b p=>exact PH O hr a b p
  | Call f args kws cpos=>exact PM O hr f args kws cpos
  | ListComp elt gs scope p=>
   show QE X _ (yB S rE rT c elt scope gs)
   unfold yB
   split
   ·exact Px hE hT c X O _ _ _ _ _ _
   ·exact cA
  | _=>exact cA
 ·intro e
  cases e with
  | BoolOp op vs p=>exact LJ (DT ht _ _ _)
  | UnaryOp op a p=>
   cases op
   case Not=>exact LB (ht _)
   all_goals exact yD hr _
  | Compare a ops bs p=>exact PJ O hr a ops bs p
  | _=>exact yD hr _
theorem yE {S:Sig}{F:Str->MF}{k:Nat}:∀ (n:Nat),(∀ c X,Okx S F k c X->∀ e,QE X e ((tr S F n).1 c e))/\∀ c X,Okx S F k c X->∀ e,QT X e ((tr S F n).2 c e)
 | 0=>⟨fun c X O e=>cA,fun c X O e=>v8⟩
 | n+1=>by
  have ih:=yE (S:=S) (F:=F) (k:=k) n
  exact ⟨fun c X O e=>(D1 ih.1 ih.2 c X O).1 e,fun c X O e=>(D1 ih.1 ih.2 c X O).2 e⟩
end L3
namespace L3
open PySem L2
noncomputable def tR:MG:=fun _ _ _=>none
noncomputable def qM (c:Cs):List UO->Option (List Nat)
 | []=>some []
 | .Name x _::r=>if mP c x then (lA x c.N).bind fun i=>(qM c r).map (i::·) else none
 | _=>none
noncomputable def qN (c:Cs):UO->MG
 | .Name x _=>if mP c x then (match lA x c.N with|some i=>cH i|none=>tR) else tR
 | .Tuple es _ _=>match qM c es with|some is=>c7 is|none=>tR
 | _=>tR
noncomputable def kE (r:Stmt->MS):List Stmt->MS
 | []=>bJ
 | [s]=>r s
 | s::t=>aH (r s) (kE r t)
noncomputable def yF (S:Sig)(E:Cs->UO->ME)(T:Cs->UO->MT)(c:Cs)(i:Nat):UO->MS
 | .ListComp elt [⟨tg,iter,ifs,0⟩] scope _=>match xH S c tg iter with
  | some j=>tF j (aV i (jH (mN (E c iter)) E T c elt tg iter ifs scope)) (aV i (jH (lE S (E c) c tg iter) E T c elt tg iter ifs scope))
  | none=>aV i (jH (lE S (E c) c tg iter) E T c elt tg iter ifs scope)
 | _=>gA
noncomputable def yG (S:Sig)(E:Cs->UO->ME)(T:Cs->UO->MT)(c:Cs)(tg e:UO):MS:=match tg with
 | .Name y _=>if mP c y then (match lA y c.N with
   | some i=>if jZ e then aV i (E c e) else yF S E T c i e
   | none=>gA) else gA
 | .Tuple es _ _=>if v7 e then (match qM c es with|some is=>fK (E c e) (c7 is)|none=>gA)
   else gA
 | .Subscript o i _=>if jZ e&&nO i then iA (E c o) (E c i) (E c e) else gA
 | _=>gA
noncomputable def qO:Nat:=1000000000
noncomputable def yH (S:Sig)(E:Cs->UO->ME)(T:Cs->UO->MT)(c:Cs)(r:Stmt->MS):Stmt->MS
 | .Return (some e) _=>aS (E c e)
 | .Return none _=>aS (mC .non)
 | .If t a b _=>bF (T c t) (kE r a) (kE r b)
 | .Assign [tg] e _=>yG S E T c tg e
 | .Expr e _=>if jZ e then dD (E c e) else gA
 | .For tg iter body [] _=>if fM iter then (match xH S c tg iter with
  | some j=>tF j (cB (mN (E c iter)) (qN c tg) (kE r body)) (cB (lE S (E c) c tg iter) (qN c tg) (kE r body))
  | none=>cB (lE S (E c) c tg iter) (qN c tg) (kE r body)) else gA
 | .While t body [] _=>pP qO (T c t) (kE r body)
 | .Pass _=>bJ
 | _=>gA
noncomputable def yI (S:Sig)(F:Str->MF)(m:Nat)(c:Cs):Nat->Stmt->MS
 | 0=>fun _=>gA
 | n+1=>yH S (tr S F m).1 (tr S F m).2 c (yI S F m c n)
section
variable {S:Sig}{F:Str->MF}{k:Nat}{c:Cs}{X:Cx}
theorem Okx.own (O:Okx S F k c X){x:Str}(h:mP c x=true):L2.Loc X.env.scope x:=by
 unfold mP at h
 rw [Xi] at h
 unfold L2.Loc
 rw [O.ks]
 exact h.imp of_decide_eq_true of_decide_eq_true
theorem yJ (O:Okx S F k c X)(hf:∀ x,X.fn x=true):∀ (es:List UO)(is:List Nat),qM c es=some is->QGs X es is
 | [],is,h=>by cases h;exact BP
 | e::es,is,h=>by
  cases e with
  | Name x p=>
   unfold qM at h
   split at h
   ·rename_i ho
    obtain ⟨i,h1,h⟩:=Uw.mp h
    obtain ⟨js,h2,h⟩:=UB.mp h
    subst h
    exact BQ i O.nd (yJ O hf es js h2) (by rw [O.N];exact qH h1) (O.own ho) (.inl (hf x))
   ·cases h
  | _=>cases h
theorem yK (O:Okx S F k c X)(hf:∀ x,X.fn x=true)(e:UO):QG X e (qN c e):=by
 unfold qN
 split
 ·split
  ·rename_i ho
   split
   ·rename_i i hi
    exact LV i O.nd (by rw [O.N];exact qH hi) (O.own ho) (.inl (hf _))
   ·exact sF fun _ _ _=>rfl
  ·exact sF fun _ _ _=>rfl
 ·split
  ·rename_i is hi
   exact vZ (yJ O hf _ is hi) O.calm
  ·exact sF fun _ _ _=>rfl
 ·exact sF fun _ _ _=>rfl
theorem lF {r:Stmt->MS}(hr:∀ s,QS X s (r s)):∀ ss:List Stmt,QB X ss (kE r ss)
 | []=>LM
 | [s]=>LO (hr s)
 | s::t::ts=>LN (hr s) (lF hr (t::ts))
theorem PN {elt tg iter:UO}{ifs:List UO}{scope:Xf}{pos py:Wl}{y:Str}{n:Nat}{env:ZZ} :
  ∃ b:Bool,Yx (.ListComp elt [⟨tg,iter,ifs,0⟩] scope pos) (some (.Name y py)) n env=pure b/\(b=true->env.kindOf y=some .local):=by
 refine ⟨env.blockKind == .function&&env.kindOf y == some .local&&py.line == pos.line&&!(scope.names.any fun (n,k)=>n == y&&(k == .local||k == .cell)),rfl,fun h=>?_⟩
 simp only [UL,beq_iff_eq] at h
 exact h.1.1.2
theorem yL (O:Okx S F k c X)(hf:∀ x,X.fn x=true){E:Cs->UO->ME}{T:Cs->UO->MT}(hE:∀ c X,Okx S F k c X->∀ e,QE X e (E c e))(hT:∀ c X,Okx S F k c X->∀ e,QT X e (T c e))
  {i:Nat}{y:Str}{py spos:Wl}(hi:X.N[i]? = some y)(hy:mP c y=true)(elt tg iter:UO)(ifs:List UO)(scope:Xf)(pos:Wl){mi:MI}(hmi:PI X tg iter (j0 X.K mi)):QS X (.Assign [.Name y py] (.ListComp elt [⟨tg,iter,ifs,0⟩] scope pos) spos) (aV i (jH mi E T c elt tg iter ifs scope)):=by
  obtain ⟨b,hb1,hb2⟩:=PN (elt:=elt) (tg:=tg) (iter:=iter) (ifs:=ifs) (scope:=scope) (pos:=pos) (py:=py) (y:=y) (n:=spos.line) (env:=X.env)
  cases b with
  | false=>exact ⟨Bk O.nd hi (O.own hy) (tQ hE hT c X O elt tg iter ifs scope pos hmi).h hb1 (.inl (hf y))⟩
  | true=>
   unfold jH
   split
   ·rename_i xs hx
    split
    ·rename_i h
     rw [UL] at h
     refine ⟨fun a5f s σ H D I q=>?_⟩
     exact L9 ((tN O h.1).1.ok I.ok) O.nd O.calm hmi (fun d μ z=>(tP O hx h.1 [] 0 s H []).2 d μ z) (fun C s₀ H₀ fp=>(tP O hx h.1 _ C s₀ H₀ fp).1) (fun C s₀ H₀ fp=>(DW (hT _ _ (O.comp h.1)) _).h) (fun C s₀ H₀ fp=>(hE _ _ (O.comp h.1) _).h) (DZ h.2) hi (hb2 rfl) hb1 a5f s σ H D I q
    ·exact CN
   ·exact CN
theorem PQ (O:Okx S F k c X)(hf:∀ x,X.fn x=true){E:Cs->UO->ME}{T:Cs->UO->MT}(hE:∀ c X,Okx S F k c X->∀ e,QE X e (E c e))(hT:∀ c X,Okx S F k c X->∀ e,QT X e (T c e))
  {i:Nat}{y:Str}{py spos:Wl}(hi:X.N[i]? = some y)(hy:mP c y=true)(e:UO):QS X (.Assign [.Name y py] e spos) (yF S E T c i e):=by
 unfold yF
 split
 ·split
  ·exact Ds (yL O hf hE hT hi hy _ _ _ _ _ _ ((xB (hE c X O _)).h _)) (yL O hf hE hT hi hy _ _ _ _ _ _ (oI O (hE c X O) _ _))
  ·exact yL O hf hE hT hi hy _ _ _ _ _ _ (oI O (hE c X O) _ _)
 ·exact iR
theorem PR (O:Okx S F k c X)(hf:∀ x,X.fn x=true){E:Cs->UO->ME}{T:Cs->UO->MT}(hE:∀ c X,Okx S F k c X->∀ e,QE X e (E c e))(hT:∀ c X,Okx S F k c X->∀ e,QT X e (T c e))(tg e:UO)(pos:Wl) :
  QS X (.Assign [tg] e pos) (yG S E T c tg e):=by
 unfold yG
 split
 ·split
  ·rename_i ho
   split
   ·rename_i i hi
    have hi':=qH hi
    rw [<- O.N] at hi'
    split
    ·rename_i hn
     exact LU i O.nd (hE c X O e) hn hi' (O.own ho) (.inl (hf _))
    ·exact PQ O hf hE hT hi' ho e
   ·exact iR
  ·exact iR
 ·split
  ·rename_i hn
   split
   ·rename_i is hi
    exact LX (hE c X O e) (vZ (yJ O hf _ is hi) O.calm) hn
   ·exact iR
  ·exact iR
 ·split
  ·rename_i h
   rw [UL] at h
   exact NY O.room (hE c X O _) (hE c X O _) (hE c X O _) h.1
  ·exact iR
 ·exact iR
theorem PU (O:Okx S F k c X)(hf:∀ x,X.fn x=true){E:Cs->UO->ME}{T:Cs->UO->MT}(hE:∀ c X,Okx S F k c X->∀ e,QE X e (E c e))(hT:∀ c X,Okx S F k c X->∀ e,QT X e (T c e)){r:Stmt->MS}(hr:∀ s,QS X s (r s))(st:Stmt) :
  QS X st (yH S E T c r st):=by
 unfold yH
 split
 ·exact LQ (hE c X O _)
 ·exact Ms
 ·exact LS (hT c X O _) (lF hr _) (lF hr _)
 ·exact PR O hf hE hT _ _ _
 ·split
  ·rename_i h;exact LR (hE c X O _) h
  ·exact iR
 ·split
  ·rename_i h
   split
   ·exact Ds (wX ((xB (hE c X O _)).h _) (yK O hf _) (lF hr _) O.never O.calm h) (wX (oI O (hE c X O) _ _) (yK O hf _) (lF hr _) O.never O.calm h)
   exact wX (oI O (hE c X O) _ _) (yK O hf _) (lF hr _) O.never O.calm h
  ·exact iR
 ·exact Mr _ (hT c X O _) (lF hr _) O.never
 ·exact LP
 ·exact iR
theorem D2 (O:Okx S F k c X)(hf:∀ x,X.fn x=true)(m:Nat):∀ (n:Nat)(st:Stmt),QS X st (yI S F m c n st)
 | 0,_=>iR
 | n+1,st=>PU O hf (yE m).1 (yE m).2 (D2 O hf m n) st
end
noncomputable def dX (st:Stmt):List Str:=(jU st).args.map (·.arg)
noncomputable def lG (st:Stmt):List Str:=dX st++(cN st).names.filterMap fun y=>if (y.2 == NameKind.local||y.2 == WQ)&&!(dX st).contains y.1 then some y.1 else none
noncomputable def mQ (st:Stmt):Bool:=
 decide ((cN st).kind=.function)&&!(cN st).isCoroutine&&!(cN st).isGenerator&&decide (lG st).Nodup &&
 ((dX st).all fun x=>decide ((cN st).names.lookup x=some .local)||decide ((cN st).names.lookup x=some .cell))&&((cN st).names.all fun y=>decide (y.2≠.free))
theorem PV {st:Stmt}(h:mQ st=true):FnScope (lG st) (dX st) (cN st):=by
 unfold mQ at h
 simp only [UL,decide_eq_true_eq,a2G,W7,Xi] at h
 obtain ⟨⟨⟨⟨⟨h1,h2⟩,h3⟩,h4⟩,h5⟩,h6⟩:=h
 exact ⟨h1,h2,h3,h4,by unfold lG;simp,h5,h6⟩
noncomputable def D4:Nat:=40
noncomputable def D5:Nat:=40
noncomputable def yM (S:Sig)(F:Str->MF)(st:Stmt):MF:=vJ (lG st).length (kE (yI S F D4 ⟨lG st,(cN st).names⟩ D5) (fV st))
noncomputable def jI (S:Sig)(ds:List (Str×Stmt)):Nat->Str->MF
 | 0,_=>fun _ _=>none
 | k+1,x=>match ds.lookup x with
  | none=>fun _ _=>none
  | some st=>yM S (jI S ds k) st
structure DefAt (K:Ux)(mg:Str->Option UC)(x:Str)(st:Stmt):Prop where
 ex:∃ f fd,Fun K x x st f fd/\mg x=some (.ref f)/\Binds K fd (dX st) []
structure TxtOk (P:Va)(w:Vu)(K:Ux)(mg:Str->Option UC)(S:Sig)(ds:List (Str×Stmt)):Prop where
 fns:∀ x n,S.fn.lookup x=some n->∃ st,ds.lookup x=some st/\(dX st).length=n
 defs:∀ x st,ds.lookup x=some st->DefAt K mg x st/\mQ st=true
 con:∀ x d,S.con.lookup x=some d->∃ v u,mg x=some u/\RelV v u/\∀ π n H,IsD K π n H v d
 tab:∀ x kvs,S.tab.lookup x=some kvs->∃ (p:Addr)(vs:List (bD×V))(ws:List (bD×UC)),mg x=some (.ref p)/\(∀ h:VL,K.In h->h.DictOf (lR P w) p ws)/\KV vs ws/\∀ π n H,IsKs K π n H vs kvs
 no:∀ x,S.no.contains x=true->mg x=none
theorem D6 {P:Va}{w:Vu}{K:Ux}{mg:Str->Option UC}{base:VL}{S:Sig}{ds:List (Str×Stmt)}(T:TxtOk P w K mg S ds):∀ (k:Nat)(x:Str)(st:Stmt)(f:Addr)(fd:WS),ds.lookup x=some st->Fun K x x st f fd->
  FnOk P w K mg base fG k f fd (dX st) (i9 K (dX st).length (jI S ds k x))
 | 0,x,st,f,fd,hl,hF=>⟨fun vs H Q E h=>h.1,fun A outer s H args us vs Q E hr he hb hv hs=>by
   obtain ⟨_,π,ds',μ,d,μ',R,i,hm,kc⟩:=hs
   cases hm⟩
 | k+1,x,st,f,fd,hl,hF=>by
  have ih:=D6 (base:=base) T k
  have e:jI S ds (k+1) x=yM S (jI S ds k) st:=by
   show (match ds.lookup x with|none=>fun _ _=>none|some st=>yM S (jI S ds k) st)=_
   rw [hl]
  rw [e]
  have Sc:=PV (T.defs x st hl).2
  refine LY hF Sc (by unfold lG;simp) rfl fun cdv A outer s H E hr=>?_
  have O:Okx S (jI S ds k) k ⟨lG st,(cN st).names⟩ (jS fG P w K mg base (lG st) x (cN st) f cdv A outer s H E).nox:=by
   refine ⟨rfl,Sc.nd,rfl,Sc.kind,rfl,hr,a1P,fun y n hy=>?_,T.con,fun y kvs q=>⟨T.tab y kvs q⟩,T.no⟩
   obtain ⟨st',h1,h2⟩:=T.fns y n hy
   obtain ⟨f',fd',F',m',b'⟩:=(T.defs y st' h1).1.ex
   subst h2
   exact ⟨f',fd',dX st',ih y st' f' fd' h1 F',m',F'.kp,b'⟩
  exact lF (D2 O (fun _=>rfl) D4 D5) (fV st)
theorem D7:∀ {ns:List Int}{b:Nat},Yz (ns.map Yq)<=b->∀ n∈ns,Vl n<=b
 | [],_,_,n,hn=>nomatch hn
 | m::ns,b,h,n,hn=>by
  have e:Yz ((m::ns).map Yq)=a0m (.int m)+1+Yz (ns.map Yq):=rfl
  have e2:a0m (.int m)=Vl m:=rfl
  rw [e,e2] at h
  rcases U6.mp hn with rfl|hn
  ·omega
  ·exact D7 (b:=b) (by omega) n hn
section
open PySem PySem.W PySem.Calls PyProof.Rows
theorem PX {l:a2f}{n:Nat}{q:Va}{loose:List Str}{XP:(Str->Option UC)->VL->Prop}{YP:Vu->VL->Prop}{d:DefRec}
  (hn:l.most=some n)(hdf:d.params.defaults=[])
  (call:∀ (w:Vu)(s₀ s₁:UE)(mg mb:Str->Option UC)(fa:Addr)(o:Wf)(pm cd doc:UC)(a:Addr)(vs:List UC)(ns:List Int),
   Ground q loose [] XP w s₀ mg mb s₁.heap->YP w s₁.heap->
   s₁.heap.get? fa=some o->o.data=.func (docDef d.name d.params d.body d.scope pm cd doc)->s₁.heap.CodeRec cd d.name->mg d.name=some (.ref fa)->
   s₁.heap.get? a=some { cls:=.type "list",data:=.seq vs.toArray }->Xe vs ns->ns.length<=n->(∀ m∈ns,Vl m<=2 ^ 20)->s₁.gens = #[]->
   X7 (U8 l.prog w) a0B (.call (.ref fa) ⟨[.ref a],[]⟩) (fun r s'=>r=.ok (.ret (.bool true))/\OldK s₁.heap s'.heap/\s'.os=s₁.os/\Z3 s'.gens) s₁) :
  a2J q loose XP YP l.row.toRowW d [] (fun f vs=>a4b f vs):=by
 intro w s₀ s₁ mg mb G Y fa o pm cd doc dV kV ho hd hcd hD hmg hg args vals as hpre hlay hrd hwl hlo
 obtain rfl:dV=.none:=Dflts.none hD hdf
 obtain rfl:kV=.none:=Dflts.noKw hD
 obtain ⟨a,vs,ns,rfl,rfl,hobj,hints,hlen⟩:=Att.script_of hn hpre hwl
 have hb:∀ m∈ns,Vl m<=2 ^ 20:=by
  have h1:a0e (.list (ns.map Yq))=true:=by
   have:=hlay
   unfold a4c at this
   simpa using this
  unfold a0e at h1
  rw [UL] at h1
  exact D7 (of_decide_eq_true h1.2)
 refine enter_call (a0A (call w s₀ s₁ mg mb fa o pm cd doc a vs ns G Y ho (fd_plain hd) hcd hmg hobj hints hlen hb hg) fun r s' hq=>?_)
 obtain ⟨rfl,h2,h3,h4⟩:=hq
 exact ⟨.inl ⟨.bool true,.bool true,[],rfl,fun _=>rfl,.bool true,Att.post_true l _,fun _=>⟨a0O,fun _ hm=>(nomatch hm)⟩⟩,h2,h3,h4⟩
end
theorem walkM {l:a2f}{q:Va}{loose:List Str}{XP:(Str->Option UC)->VL->Prop}{YP:Vu->VL->Prop}{d:DefRec}{K:Params->Ux}{S:Sig}{ds:List (Str×Stmt)}{k:Nat}{st:Stmt}{x:Str}(hn:l.most=some 63)(hdf:d.params.defaults=[])
  (hr:Room k a0B)(hY:∀ (w:Vu)(h:VL),YP w h->(K w.params).In h)(hl:ds.lookup d.name=some st)(hx:dX st=[x])
  (T:∀ (w:Vu)(mg:Str->Option UC)(h:VL),(K w.params).In h->h.Ns We mg->TxtOk l.prog w (K w.params) mg S ds/\∃ f fd,Fun (K w.params) d.name d.name st f fd/\mg d.name=some (.ref f)/\∀ (s:UE)(u:UC),a0I s fd ⟨[u],[]⟩ [(x,u)])
  (M:∀ ns:List Int,ns.length<=63->(∀ m∈ns,Vl m<=2 ^ 20)->∃ μ',jI S ds k d.name [.rol (ns.map D.int)] []=some (.bl true,μ')) :
  a2J q loose XP YP l.row.toRowW d [] (fun f vs=>a4b f vs):=by
 refine PX hn hdf fun w s₀ s₁ mg mb fa o pm cd doc a vs ns G Y ho hd hcd hmg hobj hints hlen hbd hg=>?_
 have KX:=hY w _ Y
 obtain ⟨hT,f,fd,hF,hm,hb⟩:=T w mg _ KX G.T.g
 rw [hmg] at hm
 cases hm
 refine L2.law_call (CX:=fG) (sp:=i9 (K w.params) 1 (jI S ds k d.name)) KX G.T.g G.T.b G.T.builtins G.T.nolimit hg hobj hints (VG hlen (by decide)) hr (fun base hb1 hb2=>?_) hb (fun H hO hS=>?_) fun H e s' z=>z
 ·have:=D6 (base:=base) hT k d.name st fa fd hl hF
  rw [hx] at this
  exact this
 ·refine ⟨rfl,fun _=>0,[.rol (ns.map D.int)],[],.bl true,?_⟩
  obtain ⟨μ',hM⟩:=M ns hlen hbd
  have hro:RoL (K w.params) H a (ns.map V.int):=by
   rcases hS with (h|h)|h
   ·rcases hO a with z|⟨o,xs,z⟩
    ·rw [z] at h;cases h
    ·rw [z] at h;cases h
   ·exact .inl h
   ·exact .inr h
  refine ⟨μ',⟨fun i j hi=>absurd hi (YA _),fun i hi=>absurd hi (YA _),fun i xs h=>(by cases h),fun i xs h=>(by cases h),fun i xs h=>(by cases h)
   ,fun i xs h=>(by cases h)
   ,fun i xs h=>(by cases h)
   ⟩,.cons (.rol hro ?_) .nil,hM,fun π' v H' _ _ hv=>?_⟩
  ·have:∀ ns:List Int,IsDs (K w.params) (fun _=>0) ([]:Hm).length H (ns.map V.int) (ns.map D.int):=fun ns=>by
    induction ns with
    | nil=>exact .nil
    | cons n r ih=>exact .cons (.int n) ih
   exact this ns
  ·cases hv
   rfl
end L3
namespace L3
open PySem L2
theorem tS {β:Type}:∀ {l:List (Str×β)}{x:Str}{b:β},l.lookup x=some b->(x,b)∈l:=fun h=>VQ h
theorem PY {S:Sig}{ds:List (Str×Stmt)}(h:(S.fn.all fun p=>match ds.lookup p.1 with|some st=>decide ((dX st).length=p.2)|none=>false)=true):∀ x n,S.fn.lookup x=some n->∃ st,ds.lookup x=some st/\(dX st).length=n:=by
 intro x n e
 have:=W7.mp h (x,n) (tS e)
 dsimp only at this
 split at this
 ·rename_i st hs
  exact ⟨st,hs,of_decide_eq_true this⟩
 ·cases this
theorem PZ {K:Ux}{mg:Str->Option UC}{ds:List (Str×Stmt)}(h:∀ p∈ds,DefAt K mg p.1 p.2/\mQ p.2=true):∀ x st,ds.lookup x=some st->DefAt K mg x st/\mQ st=true:=fun x st e=>h (x,st) (tS e)
theorem P0 {K:Ux}{mg:Str->Option UC}{cs:List (Str×D)}(h:∀ p∈cs,∃ v u,mg p.1=some u/\RelV v u/\∀ π n H,IsD K π n H v p.2):∀ x d,cs.lookup x=some d->∃ v u,mg x=some u/\RelV v u/\∀ π n H,IsD K π n H v d:=fun x d e=>h (x,d) (tS e)
inductive EntsOf (w:Vu):List VM->List (bD×UC)->Prop where
 | nil:EntsOf w [] []
 | cons {e:VM}{k:bD}{v:UC}{es:List VM}{kvs:List (bD×UC)}(h:uN k e.key=true)(hh:e.hash=Ad w k)(hv:e.val=v)(t:EntsOf w es kvs):EntsOf w (e::es) ((k,v)::kvs)
theorem EntsOf.keys {P:Va}{w:Vu}{es:List VM}{kvs:List (bD×UC)}(x:EntsOf w es kvs):∀ e∈es,∃ k,(lR P w).is k e.key=true/\e.hash=(lR P w).hash k:=by
 induction x with
 | nil=>intro e he;exact nomatch he
 | @cons e k v es kvs h hh hv _ ih=>
  intro e' he
  rcases U6.mp he with rfl|he
  ·exact ⟨k,h,hh⟩
  ·exact ih e' he
theorem P1 {mg:Str->Option UC}{ns:List Str}(h:∀ x∈ns,mg x=none):∀ x,ns.contains x=true->mg x=none:=fun x e=>h x (by simpa using e)
noncomputable def tT:Nat->(Nat->UC)->List UC
 | 0,_=>[]
 | n+1,u=>u 0::tT n fun i=>u (i+1)
theorem D8:∀ us:List UC,∃ u,us=tT us.length u
 | []=>⟨fun _=>.none,rfl⟩
 | v::us=>let ⟨u,hu⟩:=D8 us;⟨fun i=>match i with|0=>v|i+1=>u i,congrArg (v::·) hu⟩
noncomputable abbrev D9:Type:=UC->UC->UC->Option Addr->UC->UC->(Nat->UC)->a4q (List (Str×UC))
noncomputable def P2 (x:Str)(st:Stmt)(m:UC)(c:Addr):Wf:=⟨Wv "function",none,.func (WO x x (jU st) (fV st) (cN st) .none .none .none m none (.ref c) .none),#[]⟩
noncomputable def Ea (K:Ux)(d:(Str×Stmt)×UC×Addr×Addr):Option (Option UC)×Option Wf×Bool×Bool×Bool×D9:=(Y2 K We d.1.1,K.lookup d.2.2.2,Za K (.ref d.2.2.1) d.1.1,Wm K (.ref d.2.2.2),mQ d.1.2,fun kV doc pm an cdv ct u=>a1B (WO d.1.1 d.1.1 (jU d.1.2) (fV d.1.2) (cN d.1.2) .none kV doc pm an cdv ct) ⟨tT (dX d.1.2).length u,[]⟩)
noncomputable def Eb (d:(Str×Stmt)×UC×Addr×Addr):Option (Option UC)×Option Wf×Bool×Bool×Bool×D9:=(some (some (.ref d.2.2.2)),some (P2 d.1.1 d.1.2 d.2.1 d.2.2.1),true,true,true,fun _ _ _ _ _ _ u=>pure ((dX d.1.2).zip (tT (dX d.1.2).length u)))
noncomputable def tU (K:Ux)(d:Str×Stmt):(Str×Stmt)×UC×Addr×Addr:=(d,match Y2 K We d.1 with
 | some (some (.ref f))=>(match K.lookup f with
  | some ⟨_,_,.func fd,_⟩=>(match fd.code with
   | .ref c=>(fd.pyModule,c,f)
   | _=>(.none,0,0))
  | _=>(.none,0,0))
 | _=>(.none,0,0))
noncomputable def tV (K:Ux)(ds:List (Str×Stmt)):Prop:=ds.map (fun d=>Ea K (tU K d))=ds.map fun d=>Eb (tU K d)
theorem Ec {K:Ux}{h:VL}{mg:Str->Option UC}(X:K.In h)(G:h.Ns We mg){ds:List (Str×Stmt)}(q:tV K ds):∀ p∈ds,(DefAt K mg p.1 p.2/\mQ p.2=true)/\∃ f fd,Fun K p.1 p.1 p.2 f fd/\mg p.1=some (.ref f)/\∀ us:List UC,us.length=(dX p.2).length->a1B fd ⟨us,[]⟩=pure ((dX p.2).zip us):=by
 intro p0 hp
 have t:=a2D.mp q p0 hp
 have e:(tU K p0).1=p0:=rfl
 generalize tU K p0=d at t e
 obtain ⟨p,m,c,f⟩:=d
 cases e
 unfold Ea Eb at t
 obtain ⟨a,t⟩:=Ye t
 obtain ⟨l,t⟩:=Ye t
 obtain ⟨c,t⟩:=Ye t
 obtain ⟨k,t⟩:=Ye t
 obtain ⟨s,b⟩:=Ye t
 have F:=Jh (st:=p.2) l c k
 have D:=fun kV doc pm an cdv ct (us:List UC)(hl:us.length=(dX p.2).length)=>(by
  obtain ⟨u,hu⟩:=D8 us
  rw [hl] at hu
  rw [hu]
  exact congrFun (congrFun (congrFun (congrFun (congrFun (congrFun (congrFun b kV) doc) pm) an) cdv) ct) u:a1B (WO p.1 p.1 (jU p.2) (fV p.2) (cN p.2) .none kV doc pm an cdv ct) ⟨us,[]⟩=pure ((dX p.2).zip us))
 exact ⟨⟨⟨_,_,F,a0C X G a,F.binds D⟩,s⟩,_,_,F,a0C X G a,D _ _ _ _ _ _⟩
theorem P4 {K:Ux}{h:VL}{mg:Str->Option UC}(X:K.In h)(G:h.Ns We mg){ds:List (Str×Stmt)}(q:tV K ds){x y:Str}{st:Stmt}(hl:ds.lookup x=some st)(hp:dX st=[y]):∃ f fd,Fun K x x st f fd/\mg x=some (.ref f)/\∀ (s:UE)(u:UC),a0I s fd ⟨[u],[]⟩ [(y,u)]:=by
 obtain ⟨f,fd,F,m,b⟩:=(Ec X G q (x,st) (tS hl)).2
 dsimp only at b
 rw [hp] at b
 exact ⟨f,fd,F,m,fun s u=>.of_eq (b [u] rfl)⟩
theorem P5 {K:Ux}{h:VL}{mg:Str->Option UC}(X:K.In h)(G:h.Ns We mg){ns:List Str}(q:ns.map (Y2 K We)=ns.map fun _=>some none):∀ x∈ns,mg x=none:=fun x hx=>PySem.W.mg_none_of X G (a2D.mp q x hx)
noncomputable def qP {α β:Type}(f:α->β->Bool):List α->List β->Bool
 | [],[]=>true
 | a::as,b::bs=>f a b&&qP f as bs
 | _,_=>false
noncomputable def qQ (K:Ux):Nat->UC->D->Bool
 | 0,_,_=>false
 | k+1,u,d=>match d with
  | .non=>(match u with|.none=>true|_=>false)
  | .bl b=>(match u with|.bool c=>decide (b=c)|_=>false)
  | .int i=>(match u with|.int j _=>decide (i=j)|_=>false)
  | .str x=>(match u with|.str y _=>decide (x=y)|_=>false)
  | .tup ds=>(match u with
   | .ref p=>(match K.lookup p with
    | some ⟨.type t,none,.seq its _,_⟩=>decide (t = "tuple")&&decide (its.size<=1000)&&qP (qQ K k) its.toList ds
    | _=>false)
   | _=>false)
  | .rol ds=>(match u with
   | .ref p=>(match K.lookup p with
    | some ⟨.type t,none,.seq its _,_⟩=>decide (t = "list")&&decide (its.size<=1000)&&qP (qQ K k) its.toList ds
    | _=>false)
   | _=>false)
  | _=>false
theorem Ed {K:Ux}{f:UC->D->Bool}(h:∀ u d,f u d=true->∃ v,RelV v u/\∀ π n H,IsD K π n H v d):∀ us ds,qP f us ds=true->∃ vs,Vals vs us/\∀ π n H,IsDs K π n H vs ds
 | [],[],_=>⟨[],.nil,fun _ _ _=>.nil⟩
 | u::us,d::ds,e=>by
  obtain ⟨a,b⟩:=XA.mp e
  obtain ⟨v,r,q⟩:=h u d a
  obtain ⟨vs,rs,qs⟩:=Ed h us ds b
  exact ⟨v::vs,.cons r rs,fun _ _ _=>.cons (q _ _ _) (qs _ _ _)⟩
 | [],_::_,e=>nomatch e
 | _::_,[],e=>nomatch e
theorem Ee {K:Ux}:∀ (k:Nat)(u:UC)(d:D),qQ K k u d=true->∃ v,RelV v u/\∀ π n H,IsD K π n H v d
 | 0,_,_,e=>nomatch e
 | k+1,u,d,e=>by
  have seq:∀ {p:Addr}{ds:List D}{c:String},(match K.lookup p with|some ⟨.type t,none,.seq its _,_⟩=>decide (t=c)&&decide (its.size<=1000)&&qP (qQ K k) its.toList ds|_=>false)=true->∃ vs its n sl,K.lookup p=some ⟨.type c,none,.seq its n,sl⟩/\its.size<=UM/\Vals vs its.toList/\∀ π n H,IsDs K π n H vs ds:=fun {p ds c} e=>by
   split at e
   ·rename_i t its n sl hk
    obtain ⟨e,q⟩:=XA.mp e
    obtain ⟨a,b⟩:=XA.mp e
    cases of_decide_eq_true a
    obtain ⟨vs,r,i⟩:=Ed (Ee k) _ _ q
    exact ⟨vs,its,n,sl,hk,VG (of_decide_eq_true b) (by decide),r,i⟩
   ·cases e
  cases d with
  | non=>cases u with
   | none=>exact ⟨.non,rfl,fun _ _ _=>.non⟩
   | _=>cases e
  | bl b=>cases u with
   | bool c=>cases of_decide_eq_true e;exact ⟨.bl b,rfl,fun _ _ _=>.bl _⟩
   | _=>cases e
  | int b=>cases u with
   | int c=>cases of_decide_eq_true e;exact ⟨.int b,⟨_,rfl⟩,fun _ _ _=>.int _⟩
   | _=>cases e
  | str b=>cases u with
   | str c=>cases of_decide_eq_true e;exact ⟨.str b,⟨_,rfl⟩,fun _ _ _=>.str _⟩
   | _=>cases e
  | tup ds=>cases u with
   | ref p=>
    obtain ⟨vs,its,n,sl,hk,hs,r,i⟩:=seq e
    exact ⟨.ref p,rfl,fun _ _ _=>.tup (vs:=vs) (.inr ⟨_,its,n,hk,rfl,rfl,rfl,hs,r⟩) (i _ _ _)⟩
   | _=>cases e
  | rol ds=>cases u with
   | ref p=>
    obtain ⟨vs,its,n,sl,hk,hs,r,i⟩:=seq e
    exact ⟨.ref p,rfl,fun _ _ _=>.rol (vs:=vs) (.inr ⟨_,its,n,hk,rfl,rfl,rfl,hs,r⟩) (i _ _ _)⟩
   | _=>cases e
  | _=>cases e
noncomputable def Ef (K:Ux)(cs:List (Str×D)):Bool:=cs.all fun c=>match Y2 K We c.1 with|some (some u)=>qQ K 8 u c.2|_=>false
theorem P6 {K:Ux}{h:VL}{mg:Str->Option UC}(X:K.In h)(G:h.Ns We mg){cs:List (Str×D)}(q:Ef K cs=true):∀ p∈cs,∃ v u,mg p.1=some u/\RelV v u/\∀ π n H,IsD K π n H v p.2:=fun p hp=>by
 have t:=W7.mp q p hp
 split at t
 ·rename_i u hu
  obtain ⟨v,r,i⟩:=Ee _ _ _ t
  exact ⟨v,u,a0C X G hu,r,i⟩
 ·cases t
end L3
namespace L3
open PySem L2
noncomputable def W {α:Type}(o:Option α)(Q:α->Prop):Prop:=∃ r,o=some r/\Q r
section
variable {α β:Type}{o:Option α}{Q:α->Prop}
theorem W_some {r:α}{Q:α->Prop}:W (some r) Q↔Q r:=⟨fun ⟨_,h,q⟩=>by cases h;exact q,fun q=>⟨r,rfl,q⟩⟩
theorem W_none {Q:α->Prop}:W none Q↔False:=⟨fun ⟨_,h,_⟩=>(by cases h),fun h=>h.elim⟩
theorem W_bind {g:α->Option β}{Q:β->Prop}:W (o.bind g) Q↔W o fun r=>W (g r) Q:=by
 cases o with
 | none=>exact ⟨fun ⟨_,h,_⟩=>(by cases h),fun ⟨_,h,_⟩=>(by cases h)⟩
 | some a=>simp [W_some]
theorem jJ {g:α->β}{Q:β->Prop}:W (o.map g) Q↔W o fun r=>Q (g r):=by
 cases o with
 | none=>exact ⟨fun ⟨_,h,_⟩=>(by cases h),fun ⟨_,h,_⟩=>(by cases h)⟩
 | some a=>simp [W_some]
theorem bT {Q':α->Prop}(h:W o Q)(k:∀ r,Q r->Q' r):W o Q':=let ⟨r,e,q⟩:=h;⟨r,e,k r q⟩
theorem tW {c:Prop} [Decidable c] {a b:Option α}:W (if c then a else b) Q↔if c then W a Q else W b Q:=by split<;>rfl
end
noncomputable def fin:Option (Fl×aL×Hm)->Option (D×Hm):=fun o=>o.bind fun p=>match p.1 with|.rt d=>some (d,p.2.2)|.nx=>some (.non,p.2.2)|_=>none
theorem W_fin {o:Option (Fl×aL×Hm)}{Q:D×Hm->Prop}:W (fin o) Q↔W o fun p=>match p.1 with|.rt d=>Q (d,p.2.2)|.nx=>Q (.non,p.2.2)|_=>False:=by
 unfold fin
 rw [W_bind]
 constructor
 ·exact fun h=>bT h fun p q=>by
   obtain ⟨fl,ρ,μ⟩:=p
   cases fl<;>simpa [W_some,W_none] using q
 ·exact fun h=>bT h fun p q=>by
   obtain ⟨fl,ρ,μ⟩:=p
   cases fl<;>simpa [W_some,W_none] using q
theorem aN {μ μ':Hm}(h:μ <+: μ'){a:Nat}{c:C}(e:μ[a]? = some c):μ'[a]? = some c:=by
 obtain ⟨t,rfl⟩:=h
 have hl:=(UA.mp e).1
 rw [Vt hl]
 exact e
theorem aQ (μ:Hm)(c:C):μ <+: μ++[c]:=⟨[c],rfl⟩
theorem eA {μ μ':Hm}(h:μ <+: μ'){a:Nat}(ha:μ.length<=a)(c:C):μ <+: μ'.set a c:=by
 obtain ⟨t,rfl⟩:=h
 rw [Ze _ _ ha]
 exact ⟨_,rfl⟩
theorem bG {a b:MS}{ρ:aL}{μ:Hm} {Q}:W (aH a b ρ μ) Q↔W (a ρ μ) fun p=>match p.1 with|.nx=>W (b p.2.1 p.2.2) Q|_=>Q p:=by
 unfold aH
 rw [W_bind]
 constructor
 ·exact fun h=>bT h fun p q=>by
   obtain ⟨fl,ρ,μ⟩:=p
   cases fl<;>simpa [W_some,W_none] using q
 ·exact fun h=>bT h fun p q=>by
   obtain ⟨fl,ρ,μ⟩:=p
   cases fl<;>simpa [W_some,W_none] using q
theorem w_mRet {m:ME}{ρ:aL}{μ:Hm} {Q}:W (aS m ρ μ) Q↔W (m ρ μ) fun p=>Q (.rt p.1,ρ,p.2):=jJ
theorem gE {m:ME}{ρ:aL}{μ:Hm} {Q}:W (dD m ρ μ) Q↔W (m ρ μ) fun p=>Q (.nx,ρ,p.2):=jJ
theorem bU {i:Nat}{m:ME}{ρ:aL}{μ:Hm} {Q}:W (aV i m ρ μ) Q↔W (m ρ μ) fun p=>Q (.nx,ρ.set i (some p.1),p.2):=jJ
theorem cZ {ρ:aL}{μ:Hm} {Q}:W (bJ ρ μ) Q↔Q (.nx,ρ,μ):=W_some
theorem dJ {t:MT}{a b:MS}{ρ:aL}{μ:Hm} {Q}:W (bF t a b ρ μ) Q↔W (t ρ μ) fun p=>if p.1=true then W (a ρ p.2) Q else W (b ρ p.2) Q:=by
 unfold bF
 rw [W_bind]
 constructor<;>exact fun h=>bT h fun p q=>by
   obtain ⟨x,μ⟩:=p
   cases x<;>simpa using q
theorem yN {t:MT}{a b:ME}{ρ:aL}{μ:Hm} {Q}:W (jA t a b ρ μ) Q↔W (t ρ μ) fun p=>if p.1=true then W (a ρ p.2) Q else W (b ρ p.2) Q:=by
 unfold jA
 rw [W_bind]
 constructor<;>exact fun h=>bT h fun p q=>by
   obtain ⟨x,μ⟩:=p
   cases x<;>simpa using q
theorem yO {a b:MT}{ρ:aL}{μ:Hm} {Q}:W (iO a b ρ μ) Q↔W (a ρ μ) fun p=>if p.1=true then W (b ρ p.2) Q else Q (false,p.2):=by
 unfold iO
 rw [W_bind]
 constructor<;>exact fun h=>bT h fun p q=>by
   obtain ⟨x,μ⟩:=p
   cases x<;>simpa [W_some] using q
theorem oJ {a b:MT}{ρ:aL}{μ:Hm} {Q}:W (eE a b ρ μ) Q↔W (a ρ μ) fun p=>if p.1=true then Q (true,p.2) else W (b ρ p.2) Q:=by
 unfold eE
 rw [W_bind]
 constructor<;>exact fun h=>bT h fun p q=>by
   obtain ⟨x,μ⟩:=p
   cases x<;>simpa [W_some] using q
theorem tX {a:MT}{ρ:aL}{μ:Hm} {Q}:W (fW a ρ μ) Q↔W (a ρ μ) fun p=>Q (!p.1,p.2):=jJ
theorem aT {f:D->D->Hm->Option (D×Hm)}{a b:ME}{ρ:aL}{μ:Hm} {Q}:W (aB f a b ρ μ) Q↔W (a ρ μ) fun p=>W (b ρ p.2) fun q=>W (f p.1 q.1 q.2) Q:=by
 unfold aB
 rw [W_bind]
 simp only [W_bind]
theorem aX {d:D}{ρ:aL}{μ:Hm} {Q}:W (mC d ρ μ) Q↔Q (d,μ):=W_some
theorem aE {d:D}{ρ:aL}{μ:Hm} {Q}:W (aA 0 (some d::ρ) μ) Q↔Q (d,μ):=by
 show W (some (d,μ)) Q↔_
 exact W_some
theorem aF {i:Nat}{x:Option D}{ρ:aL}{μ:Hm} {Q}:W (aA (i+1) (x::ρ) μ) Q↔W (aA i ρ μ) Q:=by
 unfold aA
 rw [a1m]
theorem aJ {ρ:aL}{μ:Hm} {Q}:W (aD ρ μ) Q↔Q ([],μ):=W_some
theorem aM {a:ME}{r:MA}{ρ:aL}{μ:Hm} {Q}:W (aC a r ρ μ) Q↔W (a ρ μ) fun p=>W (r ρ p.2) fun q=>Q (p.1::q.1,q.2):=by
 unfold aC
 simp only [W_bind,W_some]
theorem eS {ms:MA}{ρ:aL}{μ:Hm} {Q}:W (bP ms ρ μ) Q↔W (ms ρ μ) fun p=>p.1.length<=UM/\Q (.tup p.1,p.2):=by
 unfold bP
 rw [W_bind]
 constructor<;>exact fun h=>bT h fun p q=>by
  first
  | (rw [tW] at q;split at q
     ·exact ⟨by assumption,W_some.mp q⟩
     ·exact (W_none.mp q).elim)
  | (rw [if_pos q.1];exact W_some.mpr q.2)
theorem dY {ms:MA}{ρ:aL}{μ:Hm} {Q}:W (b7 ms ρ μ) Q↔W (ms ρ μ) fun p=>p.1.length<=UM/\Q (.loc p.2.length,p.2++[.lst p.1]):=by
 unfold b7
 rw [W_bind]
 constructor<;>exact fun h=>bT h fun p q=>by
  first
  | (rw [tW] at q;split at q
     ·exact ⟨by assumption,W_some.mp q⟩
     ·exact (W_none.mp q).elim)
  | (rw [if_pos q.1];exact W_some.mpr q.2)
theorem aW {f:MF}{ms:MA}{ρ:aL}{μ:Hm} {Q}:W (aG f ms ρ μ) Q↔W (ms ρ μ) fun p=>W (f p.1 p.2) Q:=W_bind
theorem cQ {m:ME}{ρ:aL}{μ:Hm} {Q}:W (aR m ρ μ) Q↔W (m ρ μ) fun p=>match p.1 with|.bl b=>Q (b,p.2)|_=>False:=by
 unfold aR
 rw [W_bind]
 constructor<;>exact fun h=>bT h fun p q=>by
  obtain ⟨d,μ⟩:=p
  cases d<;>simpa [W_some,W_none] using q
theorem iS {m:ME}{ρ:aL}{μ:Hm} {Q}:W (dU m ρ μ) Q↔W (m ρ μ) fun p=>W (kU p.2 p.1) fun b=>Q (b,p.2):=by
 unfold dU
 simp only [W_bind,jJ]
theorem P7 {a:ME}{ρ:aL}{μ:Hm} {Q}:W (nB a ρ μ) Q↔W (a ρ μ) fun p=>match p.1 with|.bl b=>Q (.bl (!b),p.2)|_=>False:=by
 unfold nB
 rw [W_bind]
 constructor<;>exact fun h=>bT h fun p q=>by
  obtain ⟨d,μ⟩:=p
  cases d<;>simpa [W_some,W_none] using q
theorem mR {a b:ME}{ρ:aL}{μ:Hm} {Q}:W (fX a b ρ μ) Q↔W (a ρ μ) fun p=>match p.1 with|.bl c=>if c=true then W (b ρ p.2) Q else Q (.bl false,p.2)|_=>False:=by
 unfold fX
 rw [W_bind]
 constructor<;>exact fun h=>bT h fun p q=>by
  obtain ⟨d,μ⟩:=p
  cases d with
  | bl c=>cases c<;>simpa [W_some] using q
  | _=>simpa [W_none] using q
theorem qR {m:ME}{g:MG}{ρ:aL}{μ:Hm} {Q}:W (fK m g ρ μ) Q↔W (m ρ μ) fun p=>W (g p.1 ρ p.2) fun ρ'=>Q (.nx,ρ',p.2):=by
 unfold fK
 simp only [W_bind,jJ]
section
variable {i j:Int}{μ:Hm}{Q:D×Hm->Prop}{a b c d e g:D}
theorem c8:W (bK (.int i) (.int j) μ) Q↔Q (.int (i+j),μ):=W_some
theorem tY:W (cJ (.int i) (.int j) μ) Q↔Q (.int (i - j),μ):=W_some
theorem cF (h:0<j):W (aY (.int i) (.int j) μ) Q↔Q (.int (i % j),μ):=by
 show W ((if 0<j then some (i % j) else none).map fun z=>(D.int z,μ)) Q↔_
 rw [if_pos h]
 exact W_some
theorem P8:(1073741824:Int)<2 ^ 4000:=by decide +kernel
theorem P9 (h:0<j)(h2:j<2 ^ 4000):W (dS (.int i) (.int j) μ) Q↔Q (.int (i / j),μ):=by
 show W ((if 0<j/\j<2 ^ 4000 then some (i / j) else none).map fun z=>(D.int z,μ)) Q↔_
 rw [if_pos ⟨h,h2⟩]
 exact W_some
theorem gG (h:0<j)(h2:j<1073741824):W (dS (.int i) (.int j) μ) Q↔Q (.int (i / j),μ):=P9 h (Int.lt_trans h2 P8)
theorem dM (h:(-(2 ^ 64)<i/\i<2 ^ 64)\/(-(2 ^ 64)<j/\j<2 ^ 64)):W (bH (.int i) (.int j) μ) Q↔Q (.int (i * j),μ):=by
 show W ((if ((-(2 ^ 64)<i/\i<2 ^ 64)\/(-(2 ^ 64)<j/\j<2 ^ 64))\/(i.natAbs<2 ^ 4000/\j.natAbs<2 ^ 4000)\/Vl i+Vl j<=134217728 then some (i * j) else none).map fun z=>(D.int z,μ)) Q↔_
 rw [if_pos (.inl h)]
 exact W_some
theorem Qa (h:0<=j/\j<=1000000/\i.natAbs<2 ^ 64):W (nF (.int i) (.int j) μ) Q↔Q (.int (i ^ j.toNat),μ):=by
 show W ((if (0<=j/\j<=1000000/\i.natAbs<2 ^ 64)\/(0<=j/\j<=100/\i.natAbs<2 ^ 4000) then some (i ^ j.toNat) else none).map fun z=>(D.int z,μ)) Q↔_
 rw [if_pos (.inl h)]
 exact W_some
theorem fA:W (aZ false (.int i) (.int j) μ) Q↔Q (.bl (i == j),μ):=W_some
theorem Eg:W (aZ true (.int i) (.int j) μ) Q↔Q (.bl (!(i == j)),μ):=W_some
theorem Qb {x y:Bool}:W (aZ false (.bl x) (.bl y) μ) Q↔Q (.bl (x == y),μ):=W_some
theorem w_neP {x y x' y':Int}:W (aZ true (.tup [.int x,.int y]) (.tup [.int x',.int y']) μ) Q↔Q (.bl (!(x == x'&&(y == y'&&true))),μ):=W_some
theorem yP:W (iQ (.int i) (.int j) μ) Q↔Q (.bl (decide (i<j)),μ):=W_some
theorem Eh:W (nG (.int i) (.int j) μ) Q↔Q (.bl (decide (j<i)),μ):=W_some
theorem Qc:W (pL (.int i) (.int j) μ) Q↔Q (.bl (decide (j<=i)),μ):=W_some
theorem iF:W (aI (.tup [a,b]) (.int 0) μ) Q↔Q (a,μ):=W_some
theorem iT:W (aI (.tup [a,b]) (.int 1) μ) Q↔Q (b,μ):=W_some
theorem Qd:W (aI (.tup [a,b,c,d,e,g]) (.int 0) μ) Q↔Q (a,μ):=W_some
theorem Qe:W (aI (.tup [a,b,c,d,e,g]) (.int 1) μ) Q↔Q (b,μ):=W_some
theorem Qf:W (aI (.tup [a,b,c,d,e,g]) (.int 2) μ) Q↔Q (c,μ):=W_some
theorem Qg:W (aI (.tup [a,b,c,d,e,g]) (.int 3) μ) Q↔Q (d,μ):=W_some
theorem Qh:W (aI (.tup [a,b,c,d,e,g]) (.int 4) μ) Q↔Q (e,μ):=W_some
theorem Qi:W (aI (.tup [a,b,c,d,e,g]) (.int 5) μ) Q↔Q (g,μ):=W_some
theorem iU {b:Bool}{Q:Bool->Prop}:W (kU μ (.bl b)) Q↔Q b:=W_some
theorem Qj {ρ:aL}{i j:Nat}{Q:aL->Prop}:W (c7 [i,j] (.tup [a,b]) ρ μ) Q↔Q ((ρ.set i (some a)).set j (some b)):=W_some
end
theorem lH {μ:Hm}{a:Nat}{xs:List D}{i:Int}{d:D}{Q:D×Hm->Prop}(h:μ[a]? = some (.lst xs))(hi:atI xs i=some d):W (aI (.loc a) (.int i) μ) Q↔Q (d,μ):=by
 have:aI (.loc a) (.int i) μ=some (d,μ):=by
  simp only [aI,fH,bI,h,UZ,hi,U7]
 rw [this]
 exact W_some
theorem Ei {μ:Hm}{l:Nat}{a b:D}{ρ:aL}{i j:Nat}{Q:aL->Prop}(h:μ[l]? = some (.lst [a,b])):W (c7 [i,j] (.loc l) ρ μ) Q↔Q ((ρ.set i (some a)).set j (some b)):=by
 have:c7 [i,j] (.loc l) ρ μ=some ((ρ.set i (some a)).set j (some b)):=by
  simp only [c7,bI,h,UZ]
  rfl
 rw [this]
 exact W_some
end L3
namespace L3
open PySem L2
theorem w_iSeq {m:ME}{ρ:aL}{μ:Hm}{Q:f9×Nat×Hm->Prop}:W (b8 m ρ μ) Q↔W (m ρ μ) fun p=>W (j4 p.2 p.1) fun xs=>Q (hW p.1,xs.length+1,p.2):=by
 unfold b8
 simp only [W_bind,jJ]
theorem dQ {it:MI}{g:MG}{b:MS}{ρ:aL}{μ:Hm} {Q}:W (cB it g b ρ μ) Q↔W (it ρ μ) fun p=>W (eX p.1 g b p.2.1 0 ρ p.2.2) Q:=W_bind
theorem qS {j:Int}{ms:MA}{ρ:aL}{μ:Hm}{Q:f9×Nat×Hm->Prop}:W (j5 ms ρ μ) Q↔W (ms ρ μ) fun p=>match p.1 with|[.int j]=>(-(2 ^ 62)<=j/\j<2 ^ 62)/\Q (fZ 0 j.toNat,j.toNat+1,p.2)|_=>False:=by
 unfold j5
 rw [W_bind]
 constructor<;>exact fun h=>bT h fun p q=>by
  obtain ⟨l,μ⟩:=p
  match l,q with
  | [],q=>simpa [W_none] using q
  | [d],q=>
   cases d with
   | int j=>
    first
    | (dsimp only at q;rw [tW] at q;split at q
       ·rename_i hb;exact ⟨hb,W_some.mp q⟩
       ·exact (W_none.mp q).elim)
    | (dsimp only;rw [if_pos q.1];exact W_some.mpr q.2)
   | _=>simpa [W_none] using q
  | a::b::l,q=>simpa [W_none] using q
theorem tZ {ms:MA}{ρ:aL}{μ:Hm}{Q:f9×Nat×Hm->Prop}:W (kQ ms ρ μ) Q↔W (ms ρ μ) fun p=>match p.1 with|[.int i,.int j]=>(-(2 ^ 62)<=i/\i<2 ^ 62/\-(2 ^ 62)<=j/\j<2 ^ 62)/\Q (fZ i (j - i).toNat,(j - i).toNat+1,p.2)|_=>False:=by
 unfold kQ
 rw [W_bind]
 constructor<;>exact fun h=>bT h fun p q=>by
  split at q
  ·rename_i e
   try rw [e]
   first
   | (rw [tW] at q;split at q
      ·rename_i hb;exact ⟨hb,W_some.mp q⟩
      ·exact (W_none.mp q).elim)
   | ((try dsimp only);rw [if_pos q.1];exact W_some.mpr q.2)
  ·first
   | exact (W_none.mp q).elim
   | exact q.elim
theorem qT {src:f9}{g:MG}{b:MS}{N:Nat}{Q:Fl×aL×Hm->Prop}(I:Nat->aL->Hm->Prop)
  (go:∀ i ρ μ,i<N->I i ρ μ->∃ d ρ1,src μ i=some (some d)/\g d ρ μ=some ρ1/\W (b ρ1 μ) fun p=>match p.1 with|.nx=>I (i+1) p.2.1 p.2.2|.ct=>I (i+1) p.2.1 p.2.2|.bk=>Q (.nx,p.2.1,p.2.2)|.rt d=>Q (.rt d,p.2.1,p.2.2))
  (stop:∀ ρ μ,I N ρ μ->src μ N=some none/\Q (.nx,ρ,μ)):∀ (m i:Nat)(ρ:aL)(μ:Hm),i+m=N->I i ρ μ->W (eX src g b (m+1) i ρ μ) Q
 | 0,i,ρ,μ,h,hI=>by
  have:i=N:=by omega
  subst this
  obtain ⟨h1,h2⟩:=stop ρ μ hI
  unfold eX
  rw [h1]
  exact W_some.mpr h2
 | m+1,i,ρ,μ,h,hI=>by
  obtain ⟨d,ρ1,h1,h2,h3⟩:=go i ρ μ (by omega) hI
  unfold eX
  rw [h1]
  simp only [UZ,h2]
  rw [W_bind]
  refine bT h3 fun p q=>?_
  obtain ⟨fl,ρ2,μ2⟩:=p
  cases fl with
  | nx=>exact qT I go stop m (i+1) ρ2 μ2 (by omega) q
  | ct=>exact qT I go stop m (i+1) ρ2 μ2 (by omega) q
  | bk=>exact W_some.mpr q
  | rt d=>exact W_some.mpr q
theorem fQ {a:Nat}{xs:List D}{g:MG}{b:MS}{ρ:aL}{μ:Hm}{Q:Fl×aL×Hm->Prop}(I:Nat->aL->Hm->Prop)(h0:I 0 ρ μ)(hl:∀ i ρ μ,I i ρ μ->μ[a]? = some (.lst xs))
  (go:∀ i d ρ μ,xs[i]? = some d->I i ρ μ->∃ ρ1,g d ρ μ=some ρ1/\W (b ρ1 μ) fun p=>match p.1 with|.nx=>I (i+1) p.2.1 p.2.2|.ct=>I (i+1) p.2.1 p.2.2|.bk=>Q (.nx,p.2.1,p.2.2)|.rt d=>Q (.rt d,p.2.1,p.2.2))
  (stop:∀ ρ μ,I xs.length ρ μ->Q (.nx,ρ,μ)):W (eX (hW (.loc a)) g b (xs.length+1) 0 ρ μ) Q:=by
 refine qT (N:=xs.length) I (fun i ρ μ hi hI=>?_) (fun ρ μ hI=>⟨?_,stop ρ μ hI⟩) xs.length 0 ρ μ (by omega) h0
 ·have e:xs[i]? = some xs[i]:=UW hi
  obtain ⟨ρ1,h1,h2⟩:=go i xs[i] ρ μ e hI
  refine ⟨xs[i],ρ1,?_,h1,h2⟩
  simp only [hW,j4,bI,hl i ρ μ hI,U7,e]
 ·simp only [hW,j4,bI,hl _ ρ μ hI,U7]
  simp
theorem qU {lo:Int}{n:Nat}{g:MG}{b:MS}{ρ:aL}{μ:Hm}{Q:Fl×aL×Hm->Prop}(I:Nat->aL->Hm->Prop)(h0:I 0 ρ μ)
  (go:∀ (i:Nat) ρ μ,i<n->I i ρ μ->∃ ρ1,g (.int (lo+i)) ρ μ=some ρ1/\W (b ρ1 μ) fun p=>match p.1 with|.nx=>I (i+1) p.2.1 p.2.2|.ct=>I (i+1) p.2.1 p.2.2|.bk=>Q (.nx,p.2.1,p.2.2)|.rt d=>Q (.rt d,p.2.1,p.2.2))
  (stop:∀ ρ μ,I n ρ μ->Q (.nx,ρ,μ)):W (eX (fZ lo n) g b (n+1) 0 ρ μ) Q:=by
 refine qT (N:=n) I (fun i ρ μ hi hI=>?_) (fun ρ μ hI=>⟨?_,stop ρ μ hI⟩) n 0 ρ μ (by omega) h0
 ·obtain ⟨ρ1,h1,h2⟩:=go i ρ μ hi hI
  exact ⟨_,ρ1,by simp only [fZ,if_pos hi],h1,h2⟩
 ·simp only [fZ,WJ,if_false]
theorem yQ {μ:Hm}{a:Nat}{ys:List D}{y:D}(h:μ[a]? = some (.lst ys))(hl:ys.length<UM):nI μ a y=some (μ.set a (.lst (ys++[y]))):=by
 unfold nI
 rw [h]
 exact if_pos hl
theorem yR {src:f9}{c:MT}{e:ME}{ρ:aL}{μ0:Hm}{xs:List D}{p:D->Bool}{v:D->D}{Q:Hm->Prop}(hs:∀ μ i,μ0 <+: μ->src μ i=some xs[i]?)(hl:xs.length<=UM)
  (hc:∀ d μ,d∈xs->μ0 <+: μ->W (c (ρ++[some d]) μ) fun r=>r.1=p d/\μ <+: r.2)
  (he:∀ d μ,d∈xs->p d=true->μ0 <+: μ->W (e (ρ++[some d]) μ) fun r=>r.1=v d/\μ <+: r.2)
  (fin:∀ μ,μ0 <+: μ->μ[μ0.length]? = some (.lst ((xs.filter p).map v))->Q μ) :
  ∀ (m i:Nat)(μ:Hm),i+m=xs.length->μ0 <+: μ->μ[μ0.length]? = some (.lst (((xs.take i).filter p).map v))->W (f6 src pN c e ρ μ0.length (m+1) i μ) Q
 | 0,i,μ,hi,hp,ha=>by
  have:i=xs.length:=by omega
  subst this
  unfold f6
  rw [hs μ _ hp]
  rw [WN (UJ _)]
  simp only [UZ]
  refine W_some.mpr (fin μ hp ?_)
  simpa using ha
 | m+1,i,μ,hi,hp,ha=>by
  have hlt:i<xs.length:=by omega
  have hx:xs[i]? = some xs[i]:=UW hlt
  have hmem:xs[i]∈xs:=Yh hlt
  unfold f6
  rw [hs μ _ hp,hx]
  simp only [UZ,pN]
  rw [W_bind]
  refine bT (hc _ μ hmem hp) fun r q=>?_
  obtain ⟨b,μ1⟩:=r
  obtain ⟨q1,q2⟩:=q
  dsimp only at q1 q2 ⊢
  subst q1
  have htake:xs.take (i+1)=xs.take i++[xs[i]]:=by rw [YF,hx];rfl
  have ha1:=aN q2 ha
  cases hpd:p xs[i] with
  | false=>
   refine yR hs hl hc he fin m (i+1) μ1 (by omega) (hp.trans q2) ?_
   rw [ha1,htake,WK]
   simp [hpd]
  | true=>
   dsimp only
   rw [W_bind]
   refine bT (he _ μ1 hmem hpd (hp.trans q2)) fun r q=>?_
   obtain ⟨y,μ2⟩:=r
   obtain ⟨q3,q4⟩:=q
   dsimp only at q3 q4 ⊢
   subst q3
   have ha2:=aN q4 ha1
   have hlen:(((xs.take i).filter p).map v).length<UM:=by
    have h1:=VS p (xs.take i)
    rw [Uz]
    rw [W5] at h1
    omega
   rw [yQ ha2 hlen,UZ]
   have hp2:μ0 <+: μ2:=(hp.trans q2).trans q4
   refine yR hs hl hc he fin m (i+1) _ (by omega) (eA hp2 (UJ _) _) ?_
   rw [VC (UA.mp ha2).1,htake,WK]
   simp [hpd]
theorem fB {it:MI}{c:MT}{e:ME}{ρ:aL}{μ:Hm}{xs:List D}{p:D->Bool}{v:D->D}{Q:D×Hm->Prop}
  (hit:W (it ρ μ) fun r=>(∀ μ' i,r.2.2 <+: μ'->r.1 μ' i=some xs[i]?)/\r.2.1=xs.length+1/\xs.length<=UM /\
   (∀ d μ',d∈xs->r.2.2 <+: μ'->W (c (ρ++[some d]) μ') fun s=>s.1=p d/\μ' <+: s.2)/\(∀ d μ',d∈xs->p d=true->r.2.2 <+: μ'->W (e (ρ++[some d]) μ') fun s=>s.1=v d/\μ' <+: s.2) /\
   ∀ μ',r.2.2 <+: μ'->μ'[r.2.2.length]? = some (.lst ((xs.filter p).map v))->Q (.loc r.2.2.length,μ')):W (d5 it c e ρ μ) Q:=by
 unfold d5 j6
 rw [W_bind]
 refine bT hit fun r q=>?_
 obtain ⟨src,n,μ1⟩:=r
 obtain ⟨h1,h2,h3,h4,h5,h6⟩:=q
 dsimp only at h1 h2 h3 h4 h5 h6 ⊢
 subst h2
 rw [jJ]
 exact yR h1 h3 h4 h5 h6 xs.length 0 (μ1++[.lst []]) (by omega) (aQ _ _) (by simp)
theorem iV {μ:Hm}{a:Nat}{xs:List D}(h:μ[a]? = some (.lst xs)):∀ μ' i,μ <+: μ'->hW (.loc a) μ' i=some xs[i]?:=fun μ' i hp=>by
 simp only [hW,j4,bI,aN hp h,U7]
theorem Ej {xs:List D}{μ:Hm}:∀ μ' i,μ <+: μ'->hW (.tup xs) μ' i=some xs[i]?:=fun μ' i hp=>rfl
noncomputable def gH (lo:Int)(n:Nat):List D:=(Vv n).map fun (i:Nat)=>.int (lo+(i:Int))
theorem Ek {lo:Int}{n:Nat}{μ:Hm}:∀ μ' i,μ <+: μ'->fZ lo n μ' i=some (gH lo n)[i]?:=fun μ' i _=>by
 unfold fZ gH
 rw [Vd]
 by_cases h:i<n
 ·rw [if_pos h,List.getElem?_range h];rfl
 ·rw [if_neg h,WN (by simpa using XC.mp h)];rfl
noncomputable abbrev P (x y:Int):D:=.tup [.int x,.int y]
noncomputable abbrev PP (p:Int×Int):D:=P p.1 p.2
theorem yS (n:Nat)(μ:Hm)(p q:Int×Int):b9 (n+2) μ (PP p) (PP q)=some (p == q):=by
 obtain ⟨a,b⟩:=p
 obtain ⟨c,d⟩:=q
 show some (a == c&&(b == d&&true))=some ((a,b) == (c,d))
 rw [a1h]
 rfl
theorem Em (n:Nat)(μ:Hm):∀ ps qs:List (Int×Int),gZ (b9 (n+2) μ) (ps.map PP) (qs.map PP)=some (ps == qs)
 | [],[]=>rfl
 | [],_::_=>rfl
 | _::_,[]=>rfl
 | p::ps,q::qs=>by
  rw [UQ,UQ]
  show (b9 (n+2) μ (PP p) (PP q)).bind (fun b=>(gZ (b9 (n+2) μ) (ps.map PP) (qs.map PP)).map fun c=>b&&c)=_
  rw [yS,Em n μ ps qs]
  rfl
theorem Qk {μ:Hm}{a b:Nat}{ps qs:List (Int×Int)}(ha:μ[a]? = some (.lst (ps.map PP)))(hb:μ[b]? = some (.lst (qs.map PP))):b9 8 μ (.loc a) (.loc b)=some (ps == qs):=by
 have h1:eW μ (.loc a)=some (.lst (ps.map PP)):=by simp only [eW,ha]
 have h2:eW μ (.loc b)=some (.lst (qs.map PP)):=by simp only [eW,hb]
 show (eW μ (.loc a)).bind (fun x=>(eW μ (.loc b)).bind fun y=>jB (b9 7 μ) x y)=_
 rw [h1,h2]
 exact Em 5 μ ps qs
theorem Eo {μ:Hm}{a b:Nat}{ps qs:List (Int×Int)}{ne:Bool}{Q:D×Hm->Prop}(ha:μ[a]? = some (.lst (ps.map PP)))(hb:μ[b]? = some (.lst (qs.map PP))):W (aZ ne (.loc a) (.loc b) μ) Q↔Q (.bl (if ne then !(ps == qs) else ps == qs),μ):=by
 unfold aZ
 rw [Qk ha hb]
 exact W_some
theorem Ep (n:Nat)(μ:Hm):∀ ps qs:List Int,gZ (b9 (n+1) μ) (ps.map D.int) (qs.map D.int)=some (ps == qs)
 | [],[]=>rfl
 | [],_::_=>rfl
 | _::_,[]=>rfl
 | p::ps,q::qs=>by
  rw [UQ,UQ]
  show (b9 (n+1) μ (.int p) (.int q)).bind (fun b=>(gZ (b9 (n+1) μ) (ps.map D.int) (qs.map D.int)).map fun c=>b&&c)=_
  rw [Ep n μ ps qs]
  rfl
theorem qV {μ:Hm}{a b:Nat}{xs ys:List D}{Q:D×Hm->Prop}(ha:μ[a]? = some (.lst xs))(hb:μ[b]? = some (.lst ys))(hl:xs.length+ys.length<=UM):W (bK (.loc a) (.loc b) μ) Q↔Q (.loc μ.length,μ++[.lst (xs++ys)]):=by
 simp only [bK,ha,hb,if_pos hl]
 exact W_some
theorem gJ {f:D->List D->Hm->Option (D×Hm)}{mo:ME}{ms:MA}{ρ:aL}{μ:Hm}{Q:D×Hm->Prop}(h:W (mo ρ μ) fun p=>mB p.2 p.1=true/\W (ms ρ p.2) fun q=>W (f p.1 q.1 q.2) Q):W (cT f mo ms ρ μ) Q:=by
 unfold cT
 rw [W_bind]
 refine bT h fun p q=>?_
 rw [q.1]
 exact W_bind.mpr q.2
theorem gM {μ:Hm}{a:Nat}{xs:List D}(h:μ[a]? = some (.lst xs)):mB μ (.loc a)=true:=by
 simp only [mB,h]
theorem jK {μ:Hm}{a:Nat}{xs:List D}{y:D}{Q:D×Hm->Prop}(h:μ[a]? = some (.lst xs))(hl:xs.length<UM):W (dN (.loc a) [y] μ) Q↔Q (.non,μ.set a (.lst (xs++[y]))):=by
 simp only [dN,yQ h hl,U7]
 exact W_some
theorem Ql {μ:Hm}{a b:Nat}{xs ys:List D}{Q:D×Hm->Prop}(h:μ[a]? = some (.lst xs))(h2:μ[b]? = some (.lst ys))(hl:xs.length+ys.length<=UM):W (nR (.loc a) [.loc b] μ) Q↔Q (.non,μ.set a (.lst (xs++ys))):=by
 simp only [nR,h,h2,if_pos hl]
 exact W_some
theorem Qm {μ:Hm}{i:Int}{Q:D×Hm->Prop}:W (eN [.int i,.ty "bool"] μ) Q↔Q (.bl false,μ):=W_some
theorem Qn {μ:Hm}{i:Int}{Q:D×Hm->Prop}:W (eN [.int i,.ty "int"] μ) Q↔Q (.bl true,μ):=W_some
theorem Qo {μ:Hm}{a:Nat}{xs:List D}{Q:D×Hm->Prop}(h:μ[a]? = some (.lst xs)):W (eN [.loc a,.ty "list"] μ) Q↔Q (.bl true,μ):=by
 have:eN [.loc a,.ty "list"] μ=some (.bl true,μ):=by
  simp only [eN,pM,h,UZ]
  rfl
 rw [this]
 exact W_some
theorem mS {μ:Hm}{a:Nat}{xs:List D}{Q:D×Hm->Prop}(h:μ[a]? = some (.lst xs)):W (d9 [.loc a] μ) Q↔Q (.int xs.length,μ):=by
 simp only [d9,pO,bI,h,U7]
 exact W_some
theorem Er {μ:Hm}{xs:List D}{Q:D×Hm->Prop}:W (d9 [.rol xs] μ) Q↔Q (.int xs.length,μ):=W_some
theorem c4 {μ:Hm}{a:Nat}{xs:List D}{Q:List D->Prop}(h:μ[a]? = some (.lst xs)):W (j4 μ (.loc a)) Q↔Q xs:=by
 simp only [j4,bI,h]
 exact W_some
theorem w_seqT {μ:Hm}{xs:List D}{Q:List D->Prop}:W (j4 μ (.tup xs)) Q↔Q xs:=W_some
theorem oK {ρ:aL}{μ:Hm}{Q:Option Int×Hm->Prop}:W (iP ρ μ) Q↔Q (none,μ):=W_some
theorem oM {m:ME}{ρ:aL}{μ:Hm}{Q:Option Int×Hm->Prop}:W (gY m ρ μ) Q↔W (m ρ μ) fun p=>match p.1 with|.int i=>Q (some i,p.2)|_=>False:=by
 unfold gY
 rw [W_bind]
 constructor<;>exact fun h=>bT h fun p q=>by
  obtain ⟨d,μ⟩:=p
  cases d<;>simpa [W_some,W_none] using q
theorem t8 {a:ME}{lo hi:MO}{ρ:aL}{μ:Hm}{Q:D×Hm->Prop}(h:W (a ρ μ) fun p=>∃ l,p.1=.loc l/\W (lo ρ p.2) fun q=>W (hi ρ q.2) fun r=>∃ xs,r.2[l]? = some (.lst xs)/\Q (.loc r.2.length,r.2++[.lst (fI xs q.1 r.1)])):W (jV a lo hi ρ μ) Q:=by
 unfold jV
 rw [W_bind]
 refine bT h fun p q=>?_
 obtain ⟨d,μ1⟩:=p
 obtain ⟨l,q1,q2⟩:=q
 dsimp only at q1 q2 ⊢
 subst q1
 rw [W_bind]
 refine bT q2 fun s q=>?_
 rw [W_bind]
 refine bT q fun r q=>?_
 obtain ⟨xs,q3,q4⟩:=q
 simp only [bI,q3,UZ]
 exact W_some.mpr q4
theorem bB (μ:Hm)(c:C):(μ++[c])[μ.length]? = some c:=by simp
end L3
namespace L3
open PySem L2
theorem Qp {f g:D->D->Hm->Option (D×Hm)}{a b c:ME}{ρ:aL}{μ:Hm} {Q}:W (j9 f g a b c ρ μ) Q↔W (a ρ μ) fun p=>W (b ρ p.2) fun q=>W (f p.1 q.1 q.2) fun r=>match r.1 with|.bl k=>if k=true then W (c ρ r.2) fun t=>W (g q.1 t.1 t.2) Q else Q (.bl false,r.2)|_=>False:=by
 unfold j9
 simp only [W_bind]
 constructor<;>exact fun h=>bT h fun p q=>bT q fun q1 h1=>bT h1 fun r h2=>by
  obtain ⟨d,μ⟩:=r
  cases d with
  | bl k=>cases k<;>simpa [W_some,W_bind] using h2
  | _=>simpa [W_none] using h2
section
variable {i j:Int}{μ:Hm}{Q:D×Hm->Prop}
theorem Es:W (hX true .non .non μ) Q↔Q (.bl false,μ):=W_some
theorem Qq {xs:List D}:W (hX true (.tup xs) .non μ) Q↔Q (.bl true,μ):=W_some
theorem yT:∀ is:List Int,kR (is.map D.int)=some is
 | []=>rfl
 | i::is=>by
  show (kR (is.map D.int)).map (i::·)=_
  rw [yT is];rfl
theorem Et {a:Nat}{is:List Int}(h:μ[a]? = some (.lst (is.map D.int))):W (mH [.loc a] μ) Q↔Q (.int is.sum,μ):=by
 simp only [mH,bI,h,UZ,yT,U7]
 exact W_some
theorem Eu {a:Nat}{bs:List Bool}(h:μ[a]? = some (.lst (bs.map D.bl))):W (pQ [.loc a] μ) Q↔Q (.bl (bs.all id),μ):=by
 have e:∀ bs:List Bool,nS (bs.map D.bl)=some bs:=fun bs=>by
  induction bs with
  | nil=>rfl
  | cons b bs ih=>
   show (nS (bs.map D.bl)).map (b::·)=_
   rw [ih];rfl
 simp only [pQ,bI,h,UZ,e,U7]
 exact W_some
end
theorem Ew {a:ME}{lo hi st:MO}{ρ:aL}{μ:Hm}{Q:D×Hm->Prop}(h:W (a ρ μ) fun p=>∃ l,p.1=.loc l/\W (lo ρ p.2) fun q=>W (hi ρ q.2) fun r=>W (st ρ r.2) fun t=>t.1≠some 0/\∃ xs,t.2[l]? = some (.lst xs)/\(d7 xs q.1 r.1 t.1).length<=UM/\Q (.loc t.2.length,t.2++[.lst (d7 xs q.1 r.1 t.1)])):W (nW a lo hi st ρ μ) Q:=by
 unfold nW
 rw [W_bind]
 refine bT h fun p q=>?_
 obtain ⟨d,μ1⟩:=p
 obtain ⟨l,q1,q2⟩:=q
 dsimp only at q1 q2 ⊢
 subst q1
 rw [W_bind]
 refine bT q2 fun s q=>?_
 rw [W_bind]
 refine bT q fun r q=>?_
 rw [W_bind]
 refine bT q fun t q=>?_
 obtain ⟨h0,xs,q3,q4,q5⟩:=q
 rw [if_pos h0]
 simp only [dW,q3,UZ]
 rw [if_pos q4]
 exact W_some.mpr q5
theorem Ex {ms:MA}{ρ:aL}{μ:Hm}{Q:f9×Nat×Hm->Prop}(h:W (ms ρ μ) fun p=>∃ a xs,p.1=[.loc a]/\p.2[a]? = some (.lst xs)/\Q (nX (.loc a),xs.length+1,p.2)):W (mI ms ρ μ) Q:=by
 unfold mI
 rw [W_bind]
 refine bT h fun p q=>?_
 obtain ⟨l,μ1⟩:=p
 obtain ⟨a,xs,q1,q2,q3⟩:=q
 dsimp only at q1 q2 q3 ⊢
 subst q1
 dsimp only
 simp only [dW,q2,U7]
 exact W_some.mpr q3
theorem yU {a:Nat}{xs:List D}{g:MG}{b:MS}{ρ:aL}{μ:Hm}{Q:Fl×aL×Hm->Prop}(I:Nat->aL->Hm->Prop)(h0:I 0 ρ μ)(hl:∀ i ρ μ,I i ρ μ->μ[a]? = some (.lst xs))
  (go:∀ (i:Nat) d ρ μ,xs[i]? = some d->I i ρ μ->∃ ρ1,g (.tup [.int i,d]) ρ μ=some ρ1/\W (b ρ1 μ) fun p=>match p.1 with|.nx=>I (i+1) p.2.1 p.2.2|.ct=>I (i+1) p.2.1 p.2.2|.bk=>Q (.nx,p.2.1,p.2.2)|.rt d=>Q (.rt d,p.2.1,p.2.2))
  (stop:∀ ρ μ,I xs.length ρ μ->Q (.nx,ρ,μ)):W (eX (nX (.loc a)) g b (xs.length+1) 0 ρ μ) Q:=by
 refine qT (N:=xs.length) I (fun i ρ μ hi hI=>?_) (fun ρ μ hI=>⟨?_,stop ρ μ hI⟩) xs.length 0 ρ μ (by omega) h0
 ·have e:xs[i]? = some xs[i]:=UW hi
  obtain ⟨ρ1,h1,h2⟩:=go i xs[i] ρ μ e hI
  refine ⟨_,ρ1,?_,h1,h2⟩
  simp only [nX,bI,hl i ρ μ hI,U7,e]
 ·simp only [nX,bI,hl _ ρ μ hI,U7]
  simp
theorem yV {src:f9}{bd:BD}{c:MT}{e:ME}{ρ:aL}{a N:Nat}{Q:Hm->Prop}(I:Nat->List D->Hm->Prop)(hN:N<=UM)(hlen:∀ i ys μ,I i ys μ->ys.length<=i)
  (go:∀ i ys μ,i<N->I i ys μ->μ[a]? = some (.lst ys)->∃ d x,src μ i=some (some d)/\bd d μ=some x/\W (c (ρ++x) μ) fun r=>(r.1=false->r.2[a]? = some (.lst ys)/\I (i+1) ys r.2) /\
   (r.1=true->W (e (ρ++x) r.2) fun s=>s.2[a]? = some (.lst ys)/\I (i+1) (ys++[s.1]) (s.2.set a (.lst (ys++[s.1])))))
  (stop:∀ ys μ,I N ys μ->μ[a]? = some (.lst ys)->src μ N=some none/\Q μ):∀ (m i:Nat)(ys:List D)(μ:Hm),i+m=N->I i ys μ->μ[a]? = some (.lst ys)->W (f6 src bd c e ρ a (m+1) i μ) Q
 | 0,i,ys,μ,h,hI,hg=>by
  have:i=N:=by omega
  subst this
  obtain ⟨h1,h2⟩:=stop ys μ hI hg
  unfold f6
  rw [h1]
  exact W_some.mpr h2
 | m+1,i,ys,μ,h,hI,hg=>by
  obtain ⟨d,x,h1,h2,h3⟩:=go i ys μ (by omega) hI hg
  unfold f6
  rw [h1]
  simp only [UZ,h2]
  rw [W_bind]
  refine bT h3 fun r q=>?_
  obtain ⟨b,μ1⟩:=r
  cases b with
  | false=>
   obtain ⟨q1,q2⟩:=q.1 rfl
   exact yV I hN hlen go stop m (i+1) ys μ1 (by omega) q2 q1
  | true=>
   dsimp only
   rw [W_bind]
   refine bT (q.2 rfl) fun s q=>?_
   obtain ⟨y,μ2⟩:=s
   obtain ⟨q1,q2⟩:=q
   dsimp only at q1 q2 ⊢
   have hl:=hlen i ys μ hI
   rw [yQ q1 (by omega),UZ]
   refine yV I hN hlen go stop m (i+1) _ _ (by omega) q2 ?_
   rw [VC (UA.mp q1).1]
theorem Qr {src:f9}{bd:BD}{c:MT}{e:ME}{ρ:aL}{μ0:Hm}{xs:List D}{x:D->aL}{p:D->Bool}{v:D->D}{Q:Hm->Prop}(hs:∀ μ i,μ0 <+: μ->src μ i=some xs[i]?)(hl:xs.length<=UM)(hb:∀ d μ,d∈xs->bd d μ=some (x d))
  (hc:∀ d μ,d∈xs->μ0 <+: μ->W (c (ρ++x d) μ) fun r=>r.1=p d/\μ <+: r.2)
  (he:∀ d μ,d∈xs->p d=true->μ0 <+: μ->W (e (ρ++x d) μ) fun r=>r.1=v d/\μ <+: r.2)
  (fin:∀ μ,μ0 <+: μ->μ[μ0.length]? = some (.lst ((xs.filter p).map v))->Q μ):W (f6 src bd c e ρ μ0.length (xs.length+1) 0 (μ0++[.lst []])) Q:=by
 refine yV (N:=xs.length) (fun i ys μ=>ys=((xs.take i).filter p).map v/\μ0 <+: μ) hl ?_ ?_ ?_ xs.length 0 [] _ (by omega) ⟨by simp,aQ _ _⟩ (by simp)
 ·rintro i ys μ ⟨rfl,_⟩
  rw [Uz]
  refine VG (VS _ _) ?_
  rw [W5];omega
 ·rintro i ys μ hi ⟨rfl,hp⟩ hg
  have hx:xs[i]? = some xs[i]:=UW hi
  have hmem:xs[i]∈xs:=Yh hi
  have htake:xs.take (i+1)=xs.take i++[xs[i]]:=by rw [YF,hx];rfl
  refine ⟨xs[i],x xs[i],by rw [hs μ i hp,hx],hb _ _ hmem,bT (hc _ μ hmem hp) fun r q=>?_⟩
  obtain ⟨b,μ1⟩:=r
  obtain ⟨q1,q2⟩:=q
  dsimp only at q1 q2 ⊢
  refine ⟨fun hb'=>⟨aN q2 hg,?_,hp.trans q2⟩,fun hb'=>?_⟩
  ·rw [htake,WK]
   rw [hb'] at q1
   simp [<- q1]
  ·rw [hb'] at q1
   refine bT (he _ μ1 hmem q1.symm (hp.trans q2)) fun s q=>?_
   obtain ⟨y,μ2⟩:=s
   obtain ⟨q3,q4⟩:=q
   dsimp only at q3 q4 ⊢
   subst q3
   refine ⟨aN (q2.trans q4) hg,?_,eA ((hp.trans q2).trans q4) (UJ _) _⟩
   rw [htake,WK,Vb]
   simp [<- q1]
 ·rintro ys μ ⟨rfl,hp⟩ hg
  refine ⟨by rw [hs μ _ hp];simp,fin μ hp ?_⟩
  rw [V6] at hg
  exact hg
theorem Qs {bd:BD}{it:MI}{c:MT}{e:ME}{ρ:aL}{μ:Hm}{xs:List D}{x:D->aL}{p:D->Bool}{v:D->D}{Q:D×Hm->Prop}
  (hit:W (it ρ μ) fun r=>(∀ μ' i,r.2.2 <+: μ'->r.1 μ' i=some xs[i]?)/\r.2.1=xs.length+1/\xs.length<=UM/\(∀ d μ',d∈xs->bd d μ'=some (x d)) /\
   (∀ d μ',d∈xs->r.2.2 <+: μ'->W (c (ρ++x d) μ') fun s=>s.1=p d/\μ' <+: s.2)/\(∀ d μ',d∈xs->p d=true->r.2.2 <+: μ'->W (e (ρ++x d) μ') fun s=>s.1=v d/\μ' <+: s.2) /\
   ∀ μ',r.2.2 <+: μ'->μ'[r.2.2.length]? = some (.lst ((xs.filter p).map v))->Q (.loc r.2.2.length,μ')):W (j6 bd it c e ρ μ) Q:=by
 unfold j6
 rw [W_bind]
 refine bT hit fun r q=>?_
 obtain ⟨src,n,μ1⟩:=r
 obtain ⟨h1,h2,h3,h4,h5,h6,h7⟩:=q
 dsimp only at h1 h2 h3 h4 h5 h6 h7 ⊢
 subst h2
 rw [jJ]
 exact Qr h1 h3 h4 h5 h6 h7
theorem w_mTrue {ρ:aL}{μ:Hm}{Q:Bool×Hm->Prop}:W (f7 ρ μ) Q↔Q (true,μ):=W_some
theorem oN {o i v:ME}{ρ:aL}{μ:Hm} {Q}:W (iA o i v ρ μ) Q↔W (v ρ μ) fun p=>W (o ρ p.2) fun q=>W (i ρ q.2) fun r=>W (mK q.1 r.1 p.1 r.2) fun μ'=>Q (.nx,ρ,μ'):=by
 unfold iA mJ
 simp only [W_bind,jJ]
theorem Qt {ms:MA}{ρ:aL}{μ:Hm}{Q:f9×Nat×Hm->Prop}(h:W (ms ρ μ) fun p=>∃ a b xs ys,p.1=[.loc a,.loc b]/\p.2[a]? = some (.lst xs)/\p.2[b]? = some (.lst ys)/\Q (qC (.loc a) (.loc b),min xs.length ys.length+1,p.2)):W (qD ms ρ μ) Q:=by
 unfold qD
 rw [W_bind]
 refine bT h fun p q=>?_
 obtain ⟨a,b,xs,ys,e,ha,hb,q⟩:=q
 rw [e]
 simp only [dW,ha,hb,UZ,U7]
 exact W_some.mpr q
theorem Ey {μ:Hm}{a:Nat}{xs:List D}{Q:D×Hm->Prop}(h:μ[a]? = some (.lst xs)):W (oF [.loc a] μ) Q↔Q (.tup xs,μ):=by
 simp only [oF,bI,h,U7]
 exact W_some
section
variable {μ:Hm}{a:Nat}{kvs:List (List Int×D)}{k:List Int}{d y:D}{ρ:aL}{Q:D×Hm->Prop}
theorem lI:W (eZ ρ μ) Q↔Q (.loc μ.length,μ++[.dT []]):=W_some
theorem fC (h:μ[a]? = some (.dT kvs))(hk:cS y=some k)(hv:bC kvs k=some d):W (aI (.loc a) y μ) Q↔Q (d,μ):=by
 simp only [aI,h,hk,UZ,hv,U7]
 exact W_some
theorem yW {neg:Bool}(h:μ[a]? = some (.dT kvs))(hk:cS y=some k):W (dG neg y (.loc a) μ) Q↔Q (.bl (if neg then !(bC kvs k).isSome else (bC kvs k).isSome),μ):=by
 have:dG neg y (.loc a) μ=some (.bl (if neg then !(bC kvs k).isSome else (bC kvs k).isSome),μ):=by
  simp only [dG,h,hk,U7]
 rw [this]
 exact W_some
theorem oO {Q:Hm->Prop}(h:μ[a]? = some (.dT kvs))(hk:cS y=some k)(hl:kvs.length<UM):W (mK (.loc a) y d μ) Q↔Q (μ.set a (.dT (cC kvs k d))):=by
 simp only [mK,pW,h,hk,UZ,if_pos hl]
 exact W_some
theorem Qu (h:μ[a]? = some (.dT kvs)):W (d9 [.loc a] μ) Q↔Q (.int kvs.length,μ):=by
 simp only [d9,h]
 exact W_some
theorem yX (h:μ[a]? = some (.dT kvs)):W (lC [.loc a] μ) Q↔Q (.loc μ.length,μ++[.lst (kvs.map fun k=>D.tup (k.1.map D.int))]):=by
 simp only [lC,h]
 exact W_some
end
theorem Qv {μ:Hm}{a:Nat}{is:List Int}{Q:D×Hm->Prop}(h:μ[a]? = some (.lst (is.map D.int)))(hl:is.length<64):W (jG [.loc a] μ) Q↔Q (.loc μ.length,μ++[.lst ((fN is).map D.int)]):=by
 have:mL [.loc a] μ=some (.loc μ.length,μ++[.lst ((fN is).map D.int)]):=by
  simp only [mL,dW,h,UZ,yT]
  rw [if_pos hl]
 simp only [jG,this]
 exact W_some
theorem Qw {μ:Hm}{a:Nat}{xs:List D}{Q:D×Hm->Prop}(h:μ[a]? = some (.lst xs)):W (kX [.loc a] μ) Q↔Q (.loc μ.length,μ++[.lst xs.reverse]):=by
 simp only [kX,h]
 exact W_some
theorem Qx {z:Str}{i:Int}{c:Nat}{μ:Hm}{Q:D×Hm->Prop}(hz:z.length<=UM)(h:atI z.cps.toList i=some c):W (aI (.str z) (.int i) μ) Q↔Q (.str ⟨#[c]⟩,μ):=by
 have:aI (.str z) (.int i) μ=some (.str ⟨#[c]⟩,μ):=by
  simp only [aI,fH]
  rw [if_pos hz,h];rfl
 rw [this]
 exact W_some
theorem Qy {μ:Hm}{b:Bool}{Q:D×Hm->Prop}:W (nK [.bl b] μ) Q↔Q (.int (if b then 1 else 0),μ):=by
 cases b<;>exact W_some
end L3
namespace Lw
open PySem L2 L3
noncomputable def ds:List (Str×Stmt):=(("is_whole",aP 6)::("is_corner",aP 7)::("is_edge",aP 8)::("is_quarter",aP 9)::("line_of",aP 10)::("beside",aP 11)::("sides_of",aP 12)::("edges_of",aP 13)::("moved_by",aP 14)::("edges_round",aP 15)::("number_by",aP 16)::("mirrored",aP 17)::("is_within",aP 19)::("places_within",aP 20)::("quarters_in",aP 21)::("edges_in",aP 22)::("corners_in",aP 23)::("neighbours_in",aP 24)::("marks_in",aP 25)::("is_good",aP 27)::("creases_at",aP 29)::("gaps_at",aP 30)::("barred",aP 31)::("check_corners",aP 32)::("laying_by",aP 35)::("mirror_in",aP 36)::("led",aP 37)::("then",aP 38)::("laid",aP 40)::("stacks",aP 41)::("edges_laid",aP 42)::("_law_cell",aP 44)::("_law_inner",aP 45)::("_law_line",aP 46)::("_law_beside",aP 47)::("_law_quarters",aP 48)::("_law_led",aP 49)::("_law_over",aP 50)::("_law_value",aP 51)::("_law_grown",aP 52)::("_law_by_lines",aP 53)::("_law_creased",aP 54)::("_law_sheet",aP 55)::("_law_by_place",aP 56)::("_law_spoil",aP 57)::("_law_led_on",aP 58)::("law",aP 59)::[])
noncomputable def Ez:D:=(.tup [(.tup [(.int 2),(.int 0)]),(.tup [(.int 1),(.int 1)]),(.tup [(.int 0),(.int 2)]),(.tup [(.int (-1)),(.int 1)]),(.tup [(.int (-2)),(.int 0)]),(.tup [(.int (-1)),(.int (-1))]),(.tup [(.int 0),(.int (-2))]),(.tup [(.int 1),(.int (-1))])])
noncomputable def EA:D:=(.tup [(.tup [(.int 1),(.int 1)]),(.tup [(.int (-1)),(.int 1)]),(.tup [(.int (-1)),(.int (-1))]),(.tup [(.int 1),(.int (-1))])])
noncomputable def yY:D:=(.tup [(.int 1),(.int 0),(.int 0),(.int 1),(.int 0),(.int 0)])
noncomputable def S:Sig:=⟨(("is_whole",1)::("is_corner",1)::("is_edge",1)::("is_quarter",1)::("line_of",1)::("beside",1)::("sides_of",1)::("edges_of",1)::("moved_by",2)::("edges_round",1)::("number_by",2)::("mirrored",2)::("is_within",3)::("places_within",2)::("quarters_in",2)::("edges_in",2)::("corners_in",2)::("neighbours_in",3)::("marks_in",1)::("is_good",1)::("creases_at",2)::("gaps_at",2)::("barred",1)::("check_corners",1)::("laying_by",3)::("mirror_in",1)::("led",2)::("then",2)::("laid",1)::("stacks",1)::("edges_laid",2)::("_law_cell",2)::("_law_inner",2)::("_law_line",1)::("_law_beside",1)::("_law_quarters",2)::("_law_led",2)::("_law_over",2)::("_law_value",2)::("_law_grown",3)::("_law_by_lines",2)::("_law_creased",4)::("_law_sheet",3)::("_law_by_place",2)::("_law_spoil",1)::("_law_led_on",3)::("law",1)::[]),[("EIGHT_EDGES",Ez),("FOUR_EDGES",EA),("STILL",yY)],[],["all","bool","dict","enumerate","int","isinstance","len","list","range","reversed","sorted","sum","tuple","zip"],["_law_due"],["_law_kept","{}"],["layings","_law_found","_law_due","_law_layings"]⟩
@[irreducible] noncomputable def f (k:Nat)(x:Str):MF:=jI S ds k x
end Lw
namespace Lw
open PySem L2 L3
theorem Qz (k:Nat)(d0:D)(μ:Hm):f (k+1) "is_whole" [d0] μ=fin ((aS (fX (aG eN (aC (aA 0) (aC (mC (.ty "int")) aD))) (nB (aG eN (aC (aA 0) (aC (mC (.ty "bool")) aD)))))) [some d0] μ):=by
 kernel_rfl
theorem QC (k:Nat)(d0:D)(μ:Hm):f (k+1) "is_corner" [d0] μ=fin ((aS (fX (aB (aZ false) (aB aY (aB aI (aA 0) (mC (.int 0))) (mC (.int 2))) (mC (.int 0))) (aB (aZ false) (aB aY (aB aI (aA 0) (mC (.int 0))) (mC (.int 4))) (aB aY (aB aI (aA 0) (mC (.int 1))) (mC (.int 4)))))) [some d0] μ):=by
 kernel_rfl
theorem QD (k:Nat)(d0:D)(μ:Hm):f (k+1) "is_edge" [d0] μ=fin ((aH (bF (aR (aB (aZ false) (aB aY (aB aI (aA 0) (mC (.int 0))) (mC (.int 2))) (mC (.int 1)))) (aS (aB (aZ false) (aB aY (aB aI (aA 0) (mC (.int 1))) (mC (.int 2))) (mC (.int 1)))) bJ) (aS (fX (aB (aZ false) (aB aY (aB aI (aA 0) (mC (.int 1))) (mC (.int 2))) (mC (.int 0))) (aB (aZ true) (aB aY (aB aI (aA 0) (mC (.int 0))) (mC (.int 4))) (aB aY (aB aI (aA 0) (mC (.int 1))) (mC (.int 4))))))) [some d0] μ):=by
 kernel_rfl
theorem QF (k:Nat)(d0:D)(μ:Hm):f (k+1) "is_quarter" [d0] μ=fin ((aH (bF (aR (aB (aZ false) (aB aY (aB aI (aA 0) (mC (.int 0))) (mC (.int 2))) (mC (.int 1)))) (aS (aB (aZ false) (aB aY (aB aI (aA 0) (mC (.int 1))) (mC (.int 4))) (mC (.int 2)))) bJ) (aS (fX (aB (aZ false) (aB aY (aB aI (aA 0) (mC (.int 0))) (mC (.int 4))) (mC (.int 2))) (aB (aZ false) (aB aY (aB aI (aA 0) (mC (.int 1))) (mC (.int 2))) (mC (.int 1)))))) [some d0] μ):=by
 kernel_rfl
theorem QH (k:Nat)(d0:D)(μ:Hm):f (k+1) "line_of" [d0] μ=fin ((aH (bF (aR (aB (aZ false) (aB aY (aB aI (aA 0) (mC (.int 0))) (mC (.int 2))) (mC (.int 1)))) (aS (jA (aR (aB (aZ false) (aB aY (aB aI (aA 0) (mC (.int 0))) (mC (.int 4))) (aB aY (aB aI (aA 0) (mC (.int 1))) (mC (.int 4))))) (mC (.str "falling")) (mC (.str "rising")))) bJ) (aS (jA (aR (aB (aZ false) (aB aY (aB aI (aA 0) (mC (.int 1))) (mC (.int 4))) (mC (.int 0)))) (mC (.str "level")) (mC (.str "upright"))))) [some d0] μ):=by
 kernel_rfl
theorem QK (k:Nat)(d0:D)(μ:Hm):f (k+1) "beside" [d0] μ=fin ((aH (aV 1 (aB aI (aA 0) (mC (.int 0)))) (aH (aV 2 (aB aI (aA 0) (mC (.int 1)))) (aS (b7 (aC (bP (aC (aB cJ (aA 1) (mC (.int 1))) (aC (aA 2) aD))) (aC (bP (aC (aA 1) (aC (aB cJ (aA 2) (mC (.int 1))) aD))) (aC (bP (aC (aA 1) (aC (aB bK (aA 2) (mC (.int 1))) aD))) (aC (bP (aC (aB bK (aA 1) (mC (.int 1))) (aC (aA 2) aD))) aD)))))))) [some d0,none,none] μ):=by
 kernel_rfl
theorem QL (k:Nat)(d0:D)(μ:Hm):f (k+1) "sides_of" [d0] μ=fin ((aS (d5 (b8 (aG (f k "beside") (aC (aA 0) aD))) (dU (aG (f k "is_quarter") (aC (aA 1) aD))) (aA 1))) [some d0] μ):=by
 kernel_rfl
theorem QM (k:Nat)(d0:D)(μ:Hm):f (k+1) "edges_of" [d0] μ=fin ((aS (d5 (b8 (aG (f k "beside") (aC (aA 0) aD))) (dU (aG (f k "is_edge") (aC (aA 1) aD))) (aA 1))) [some d0] μ):=by
 kernel_rfl
theorem QN (k:Nat)(d0 d1:D)(μ:Hm):f (k+1) "moved_by" [d0,d1] μ=fin ((aS (d5 (b8 (aA 1)) f7 (bP (aC (aB bK (aB aI (aA 0) (mC (.int 0))) (aB aI (aA 2) (mC (.int 0)))) (aC (aB bK (aB aI (aA 0) (mC (.int 1))) (aB aI (aA 2) (mC (.int 1)))) aD))))) [some d0,some d1] μ):=by
 kernel_rfl
theorem QR (k:Nat)(d0:D)(μ:Hm):f (k+1) "edges_round" [d0] μ=fin ((aS (aG (f k "moved_by") (aC (aA 0) (aC (jA (aR (aB (aZ false) (aB aY (aB aI (aA 0) (mC (.int 0))) (mC (.int 4))) (mC (.int 0)))) (mC Ez) (mC EA)) aD)))) [some d0] μ):=by
 kernel_rfl
theorem QU (k:Nat)(d0 d1:D)(μ:Hm):f (k+1) "number_by" [d0,d1] μ=fin ((aH (bF (aR (aB (aZ false) (aA 0) (mC (.str "level")))) (aS (aB aI (aA 1) (mC (.int 1)))) bJ) (aH (bF (aR (aB (aZ false) (aA 0) (mC (.str "upright")))) (aS (aB aI (aA 1) (mC (.int 0)))) bJ) (aH (bF (aR (aB (aZ false) (aA 0) (mC (.str "falling")))) (aS (aB cJ (aB aI (aA 1) (mC (.int 0))) (aB aI (aA 1) (mC (.int 1))))) bJ) (aS (aB bK (aB aI (aA 1) (mC (.int 0))) (aB aI (aA 1) (mC (.int 1)))))))) [some d0,some d1] μ):=by
 kernel_rfl
theorem QV (k:Nat)(d0 d1:D)(μ:Hm):f (k+1) "mirrored" [d0,d1] μ=fin ((aH (aV 2 (aB aI (aA 0) (mC (.int 0)))) (aH (aV 3 (aB aI (aA 0) (mC (.int 1)))) (aH (aV 4 (aG (f k "line_of") (aC (aA 1) aD))) (aH (aV 5 (aG (f k "number_by") (aC (aA 4) (aC (aA 1) aD)))) (aH (bF (aR (aB (aZ false) (aA 4) (mC (.str "level")))) (aS (bP (aC (aA 2) (aC (aB cJ (aB bH (mC (.int 2)) (aA 5)) (aA 3)) aD)))) bJ) (aH (bF (aR (aB (aZ false) (aA 4) (mC (.str "upright")))) (aS (bP (aC (aB cJ (aB bH (mC (.int 2)) (aA 5)) (aA 2)) (aC (aA 3) aD)))) bJ) (aH (bF (aR (aB (aZ false) (aA 4) (mC (.str "falling")))) (aS (bP (aC (aB bK (aA 3) (aA 5)) (aC (aB cJ (aA 2) (aA 5)) aD)))) bJ) (aS (bP (aC (aB cJ (aA 5) (aA 3)) (aC (aB cJ (aA 5) (aA 2)) aD))))))))))) [some d0,some d1,none,none,none,none] μ):=by
 kernel_rfl
theorem QX (k:Nat)(d0 d1 d2:D)(μ:Hm):f (k+1) "is_within" [d0,d1,d2] μ=fin ((aS (fX (j9 iQ iQ (mC (.int 0)) (aB aI (aA 2) (mC (.int 0))) (aB bH (mC (.int 4)) (aA 0))) (j9 iQ iQ (mC (.int 0)) (aB aI (aA 2) (mC (.int 1))) (aB bH (mC (.int 4)) (aA 1))))) [some d0,some d1,some d2] μ):=by
 kernel_rfl
theorem QY (k:Nat)(d0 d1:D)(μ:Hm):f (k+1) "places_within" [d0,d1] μ=fin ((aH (aV 2 (b7 aD)) (aH (cB (kQ (aC (mC (.int 1)) (aC (aB bH (mC (.int 4)) (aA 0)) aD))) (cH 3) (dD (cT nR (aA 2) (aC (d5 (kQ (aC (mC (.int 1)) (aC (aB bH (mC (.int 4)) (aA 1)) aD))) f7 (bP (aC (aA 3) (aC (aA 4) aD)))) aD)))) (aS (aA 2)))) [some d0,some d1,none,none] μ):=by
 kernel_rfl
theorem QZ (k:Nat)(d0 d1:D)(μ:Hm):f (k+1) "quarters_in" [d0,d1] μ=fin ((aS (d5 (b8 (aG (f k "places_within") (aC (aA 0) (aC (aA 1) aD)))) (dU (aG (f k "is_quarter") (aC (aA 2) aD))) (aA 2))) [some d0,some d1] μ):=by
 kernel_rfl
theorem Q0 (k:Nat)(d0 d1:D)(μ:Hm):f (k+1) "edges_in" [d0,d1] μ=fin ((aS (d5 (b8 (aG (f k "places_within") (aC (aA 0) (aC (aA 1) aD)))) (dU (aG (f k "is_edge") (aC (aA 2) aD))) (aA 2))) [some d0,some d1] μ):=by
 kernel_rfl
theorem Q1 (k:Nat)(d0 d1:D)(μ:Hm):f (k+1) "corners_in" [d0,d1] μ=fin ((aS (d5 (b8 (aG (f k "places_within") (aC (aA 0) (aC (aA 1) aD)))) (dU (aG (f k "is_corner") (aC (aA 2) aD))) (aA 2))) [some d0,some d1] μ):=by
 kernel_rfl
theorem Q2 (k:Nat)(d0 d1 d2:D)(μ:Hm):f (k+1) "neighbours_in" [d0,d1,d2] μ=fin ((aS (d5 (b8 (aG (f k "edges_of") (aC (aA 2) aD))) (dU (aG (f k "is_within") (aC (aA 0) (aC (aA 1) (aC (aA 3) aD))))) (bP (aC (aA 3) (aC (aG (f k "mirrored") (aC (aA 2) (aC (aA 3) aD))) aD))))) [some d0,some d1,some d2] μ):=by
 kernel_rfl
theorem EB (k:Nat)(d0:D)(μ:Hm):f (k+1) "marks_in" [d0] μ=fin ((aS (aG mM (aC (aB aI (aA 0) (mC (.int 2))) aD))) [some d0] μ):=by
 kernel_rfl
theorem Q3 (k:Nat)(d0:D)(μ:Hm):f (k+1) "is_good" [d0] μ=fin ((aH (bF (eE (aR (aB nG (aG d9 (aC (aA 0) aD)) (mC (.int 8)))) (aR (aB (aZ false) (aB aY (aG d9 (aC (aA 0) aD)) (mC (.int 2))) (mC (.int 1))))) (aS (mC (.bl false))) bJ) (aH (bF (fW (dU (aG pQ (aC (d5 (b8 (aA 0)) f7 (fX (aG (f k "is_whole") (aC (aA 1) aD)) (aB pL (aA 1) (mC (.int 1))))) aD)))) (aS (mC (.bl false))) bJ) (aS (aB (aZ false) (aG mH (aC (nW (aA 0) iP iP (gY (mC (.int 2)))) aD)) (aG mH (aC (nW (aA 0) (gY (mC (.int 1))) iP (gY (mC (.int 2)))) aD)))))) [some d0] μ):=by
 kernel_rfl
theorem Q4 (k:Nat)(d0 d1:D)(μ:Hm):f (k+1) "creases_at" [d0,d1] μ=fin ((aH (aV 2 (aG (f k "marks_in") (aC (aA 0) aD))) (aS (d5 (b8 (aG (f k "edges_round") (aC (aA 1) aD))) (aR (aB (dG false) (aA 3) (aA 2))) (aA 3)))) [some d0,some d1,none] μ):=by
 kernel_rfl
theorem Q5 (k:Nat)(d0 d1:D)(μ:Hm):f (k+1) "gaps_at" [d0,d1] μ=fin ((aH (aV 2 (aG (f k "edges_round") (aC (aA 1) aD))) (aH (aV 3 (aG (f k "creases_at") (aC (aA 0) (aC (aA 1) aD)))) (aH (aV 4 (d5 (b8 (aA 3)) f7 (cT nY (aA 2) (aC (aA 7) aD)))) (aH (aV 5 (aB bK (jV (aA 4) (gY (mC (.int 1))) iP) (d5 (b8 (jV (aA 4) iP (gY (mC (.int 1))))) f7 (aB bK (aA 7) (aG d9 (aC (aA 2) aD)))))) (aH (aV 6 (aB dS (mC (.int 8)) (aG d9 (aC (aA 2) aD)))) (aS (j6 (vV 2) (qD (aC (aA 4) (aC (aA 5) aD))) f7 (aB bH (aB cJ (aA 8) (aA 7)) (aA 6))))))))) [some d0,some d1,none,none,none,none,none] μ):=by
 kernel_rfl
theorem Q6 (k:Nat)(d0:D)(μ:Hm):f (k+1) "barred" [d0] μ=fin ((aH (cB (b8 (aG (f k "corners_in") (aC (aB aI (aA 0) (mC (.int 0))) (aC (aB aI (aA 0) (mC (.int 1))) aD)))) (cH 1) (bF (fW (dU (aG (f k "is_good") (aC (aG (f k "gaps_at") (aC (aA 0) (aC (aA 1) aD))) aD)))) (aS (aA 1)) bJ)) (aS (mC .non))) [some d0,none] μ):=by
 kernel_rfl
theorem Q7 (k:Nat)(d0:D)(μ:Hm):f (k+1) "check_corners" [d0] μ=fin ((aH (aV 1 (aG (f k "barred") (aC (aA 0) aD))) (bF (aR (aB (hX true) (aA 1) (mC .non))) gA bJ)) [some d0,none] μ):=by
 kernel_rfl
theorem Q8 (k:Nat)(d0 d1 d2:D)(μ:Hm):f (k+1) "laying_by" [d0,d1,d2] μ=fin ((aS (bP (aC (aB cJ (aB aI (aA 1) (mC (.int 0))) (aB aI (aA 0) (mC (.int 0)))) (aC (aB cJ (aB aI (aA 2) (mC (.int 0))) (aB aI (aA 0) (mC (.int 0)))) (aC (aB cJ (aB aI (aA 1) (mC (.int 1))) (aB aI (aA 0) (mC (.int 1)))) (aC (aB cJ (aB aI (aA 2) (mC (.int 1))) (aB aI (aA 0) (mC (.int 1)))) (aC (aB aI (aA 0) (mC (.int 0))) (aC (aB aI (aA 0) (mC (.int 1))) aD)))))))) [some d0,some d1,some d2] μ):=by
 kernel_rfl
theorem Q9 (k:Nat)(d0:D)(μ:Hm):f (k+1) "mirror_in" [d0] μ=fin ((aS (aG (f k "laying_by") (aC (aG (f k "mirrored") (aC (bP (aC (mC (.int 0)) (aC (mC (.int 0)) aD))) (aC (aA 0) aD))) (aC (aG (f k "mirrored") (aC (bP (aC (mC (.int 1)) (aC (mC (.int 0)) aD))) (aC (aA 0) aD))) (aC (aG (f k "mirrored") (aC (bP (aC (mC (.int 0)) (aC (mC (.int 1)) aD))) (aC (aA 0) aD))) aD))))) [some d0] μ):=by
 kernel_rfl
theorem Ra (k:Nat)(d0 d1:D)(μ:Hm):f (k+1) "led" [d0,d1] μ=fin ((aH (aV 2 (aB aI (aA 1) (mC (.int 0)))) (aH (aV 3 (aB aI (aA 1) (mC (.int 1)))) (aS (bP (aC (aB bK (aB bK (aB bH (aB aI (aA 0) (mC (.int 0))) (aA 2)) (aB bH (aB aI (aA 0) (mC (.int 1))) (aA 3))) (aB aI (aA 0) (mC (.int 4)))) (aC (aB bK (aB bK (aB bH (aB aI (aA 0) (mC (.int 2))) (aA 2)) (aB bH (aB aI (aA 0) (mC (.int 3))) (aA 3))) (aB aI (aA 0) (mC (.int 5)))) aD)))))) [some d0,some d1,none,none] μ):=by
 kernel_rfl
theorem Rb (k:Nat)(d0 d1:D)(μ:Hm):f (k+1) "then" [d0,d1] μ=fin ((aS (aG (f k "laying_by") (aC (aG (f k "led") (aC (aA 1) (aC (aG (f k "led") (aC (aA 0) (aC (bP (aC (mC (.int 0)) (aC (mC (.int 0)) aD))) aD))) aD))) (aC (aG (f k "led") (aC (aA 1) (aC (aG (f k "led") (aC (aA 0) (aC (bP (aC (mC (.int 1)) (aC (mC (.int 0)) aD))) aD))) aD))) (aC (aG (f k "led") (aC (aA 1) (aC (aG (f k "led") (aC (aA 0) (aC (bP (aC (mC (.int 0)) (aC (mC (.int 1)) aD))) aD))) aD))) aD))))) [some d0,some d1] μ):=by
 kernel_rfl
theorem Rc (k:Nat)(d0:D)(μ:Hm):f (k+1) "laid" [d0] μ=fin ((aH (dD (aG (f k "check_corners") (aC (aA 0) aD))) (aH (aV 1 (aG (f k "marks_in") (aC (aA 0) aD))) (aH (aV 2 (aB aI (aG (f k "quarters_in") (aC (aB aI (aA 0) (mC (.int 0))) (aC (aB aI (aA 0) (mC (.int 1))) aD))) (mC (.int 0)))) (aH (aV 3 (n9 (aA 2) (mC yY))) (aH (aV 4 (b7 (aC (aA 2) aD))) (aH (pP qO (dU (aA 4)) (aH (aV 5 (cT mD (aA 4) aD)) (cB (b8 (aG (f k "neighbours_in") (aC (aB aI (aA 0) (mC (.int 0))) (aC (aB aI (aA 0) (mC (.int 1))) (aC (aA 5) aD))))) (c7 [6,7]) (bF (aR (aB (dG true) (aA 7) (aA 3))) (aH (iA (aA 3) (aA 7) (jA (aR (aB (dG false) (aA 6) (aA 1))) (aG (f k "then") (aC (aG (f k "mirror_in") (aC (aA 6) aD)) (aC (aB aI (aA 3) (aA 5)) aD))) (aB aI (aA 3) (aA 5)))) (dD (cT dN (aA 4) (aC (aA 7) aD)))) bJ)))) (aS (n8 (aA 3))))))))) [some d0,none,none,none,none,none,none,none] μ):=by
 kernel_rfl
theorem Rf (k:Nat)(d0:D)(μ:Hm):f (k+1) "stacks" [d0] μ=fin ((aH (aV 1 eZ) (aH (cB (b8 (aG lD (aC (aA 0) aD))) (cH 2) (dD (cT dN (iD k9 (aA 1) (aC (aG (f k "led") (aC (aB aI (aA 0) (aA 2)) (aC (aA 2) aD))) (aC (b7 aD) aD))) (aC (aA 2) aD)))) (aS (aA 1)))) [some d0,none,none] μ):=by
 kernel_rfl
theorem Rg (k:Nat)(d0 d1:D)(μ:Hm):f (k+1) "edges_laid" [d0,d1] μ=fin ((aH (aV 2 eZ) (aH (cB (b8 (aG (f k "edges_in") (aC (aB aI (aA 0) (mC (.int 0))) (aC (aB aI (aA 0) (mC (.int 1))) aD)))) (cH 3) (dD (cT dN (iD k9 (aA 2) (aC (aG (f k "led") (aC (aB aI (aA 1) (aB aI (aG (f k "sides_of") (aC (aA 3) aD)) (mC (.int 0)))) (aC (aA 3) aD))) (aC (b7 aD) aD))) (aC (aA 3) aD)))) (aS (aA 2)))) [some d0,some d1,none,none] μ):=by
 kernel_rfl
theorem Rh (k:Nat)(d0 d1:D)(μ:Hm):f (k+1) "_law_cell" [d0,d1] μ=fin ((aH (bF (aR (aB iQ (aA 1) (aG d9 (aC (aA 0) aD)))) (aS (aB aI (aA 0) (aA 1))) bJ) (aH (bF (aR (aB (aZ false) (aA 0) (b7 aD))) (aS (aB aY (aB bH (aB bH (aA 1) (aA 1)) (mC (.int 48271))) (mC (.int 2147483647)))) bJ) (aH (aV 2 (aB aY (aB bH (aB bK (aB aY (aB aI (aA 0) (aB aY (aA 1) (aG d9 (aC (aA 0) aD)))) (mC (.int 2147483629))) (aB bH (aB bH (aA 1) (aA 1)) (mC (.int 69623)))) (mC (.int 48271))) (mC (.int 2147483647)))) (aS (aB aY (aB bH (aA 2) (aA 2)) (mC (.int 2147483629))))))) [some d0,some d1,none] μ):=by
 kernel_rfl
theorem Ri (k:Nat)(d0 d1:D)(μ:Hm):f (k+1) "_law_inner" [d0,d1] μ=fin ((aH (aV 2 (b7 aD)) (aH (cB (kQ (aC (mC (.int 1)) (aC (aB bH (mC (.int 4)) (aA 0)) aD))) (cH 3) (cB (kQ (aC (mC (.int 1)) (aC (aB bH (mC (.int 4)) (aA 1)) aD))) (cH 4) (bF (eE (iO (aR (aB (aZ false) (aB aY (aA 3) (mC (.int 2))) (mC (.int 1)))) (aR (aB (aZ false) (aB aY (aA 4) (mC (.int 2))) (mC (.int 1))))) (iO (aR (aB (aZ false) (aB aY (aA 3) (mC (.int 2))) (mC (.int 0)))) (aR (aB (aZ false) (aB bK (aB aY (aA 3) (mC (.int 4))) (aB aY (aA 4) (mC (.int 4)))) (mC (.int 2)))))) (dD (cT dN (aA 2) (aC (bP (aC (aA 3) (aC (aA 4) aD))) aD))) bJ))) (aS (aA 2)))) [some d0,some d1,none,none,none] μ):=by
 kernel_rfl
theorem Rj (k:Nat)(d0:D)(μ:Hm):f (k+1) "_law_line" [d0] μ=fin ((aH (fK (aA 0) (c7 [1,2])) (aH (bF (aR (aB (aZ false) (aB aY (aA 2) (mC (.int 4))) (mC (.int 0)))) (aS (bP (aC (mC (.int 0)) (aC (aA 2) aD)))) bJ) (aH (bF (aR (aB (aZ false) (aB aY (aA 1) (mC (.int 4))) (mC (.int 0)))) (aS (bP (aC (mC (.int 1)) (aC (aA 1) aD)))) bJ) (aH (bF (aR (aB (aZ false) (aB aY (aA 1) (mC (.int 4))) (aB aY (aA 2) (mC (.int 4))))) (aS (bP (aC (mC (.int 2)) (aC (aB cJ (aA 1) (aA 2)) aD)))) bJ) (aS (bP (aC (mC (.int 3)) (aC (aB bK (aA 1) (aA 2)) aD)))))))) [some d0,none,none] μ):=by
 kernel_rfl
theorem Rk (k:Nat)(d0:D)(μ:Hm):f (k+1) "_law_beside" [d0] μ=fin ((aH (fK (aA 0) (c7 [1,2])) (aH (bF (aR (aB (aZ false) (aB aY (aA 2) (mC (.int 4))) (mC (.int 0)))) (aS (b7 (aC (bP (aC (aA 1) (aC (aB cJ (aA 2) (mC (.int 1))) aD))) (aC (bP (aC (aA 1) (aC (aB bK (aA 2) (mC (.int 1))) aD))) aD)))) bJ) (aH (bF (aR (aB (aZ false) (aB aY (aA 1) (mC (.int 4))) (mC (.int 0)))) (aS (b7 (aC (bP (aC (aB cJ (aA 1) (mC (.int 1))) (aC (aA 2) aD))) (aC (bP (aC (aB bK (aA 1) (mC (.int 1))) (aC (aA 2) aD))) aD)))) bJ) (aS (aG jG (aC (b7 (aC (bP (aC (aB cJ (aB bK (aA 1) (mC (.int 2))) (aB aY (aA 1) (mC (.int 4)))) (aC (aA 2) aD))) (aC (bP (aC (aA 1) (aC (aB cJ (aB bK (aA 2) (mC (.int 2))) (aB aY (aA 2) (mC (.int 4)))) aD))) aD))) aD)))))) [some d0,none,none] μ):=by
 kernel_rfl
theorem Rl (k:Nat)(d0 d1:D)(μ:Hm):f (k+1) "_law_quarters" [d0,d1] μ=fin ((aH (aV 2 (b7 aD)) (aH (cB (j5 (aC (aB bH (mC (.int 4)) (aA 0)) aD)) (cH 3) (cB (j5 (aC (aB bH (mC (.int 4)) (aA 1)) aD)) (cH 4) (bF (eE (iO (aR (aB (aZ false) (aB aY (aA 3) (mC (.int 4))) (mC (.int 2)))) (aR (aB (aZ false) (aB aY (aA 4) (mC (.int 2))) (mC (.int 1))))) (iO (aR (aB (aZ false) (aB aY (aA 3) (mC (.int 2))) (mC (.int 1)))) (aR (aB (aZ false) (aB aY (aA 4) (mC (.int 4))) (mC (.int 2)))))) (dD (cT dN (aA 2) (aC (bP (aC (aA 3) (aC (aA 4) aD))) aD))) bJ))) (aS (aA 2)))) [some d0,some d1,none,none,none] μ):=by
 kernel_rfl
theorem EC (k:Nat)(d0 d1:D)(μ:Hm):f (k+1) "_law_led" [d0,d1] μ=fin ((aH (fK (aA 0) (c7 [2,3,4,5,6,7])) (aS (bP (aC (aB bK (aB bK (aB bH (aA 2) (aB aI (aA 1) (mC (.int 0)))) (aB bH (aA 3) (aB aI (aA 1) (mC (.int 1))))) (aA 6)) (aC (aB bK (aB bK (aB bH (aA 4) (aB aI (aA 1) (mC (.int 0)))) (aB bH (aA 5) (aB aI (aA 1) (mC (.int 1))))) (aA 7)) aD))))) [some d0,some d1,none,none,none,none,none,none] μ):=by
 kernel_rfl
theorem ED (k:Nat)(d0 d1:D)(μ:Hm):f (k+1) "_law_over" [d0,d1] μ=fin ((aH (fK (aA 0) (c7 [2,3,4,5,6,7])) (aH (fK (aA 1) (c7 [8,9])) (aH (bF (aR (aB (aZ false) (aA 8) (mC (.int 0)))) (aS (bP (aC (aA 2) (aC (aA 3) (aC (jD (aA 4)) (aC (jD (aA 5)) (aC (aA 6) (aC (aB cJ (aB bH (mC (.int 2)) (aA 9)) (aA 7)) aD)))))))) bJ) (aH (bF (aR (aB (aZ false) (aA 8) (mC (.int 1)))) (aS (bP (aC (jD (aA 2)) (aC (jD (aA 3)) (aC (aA 4) (aC (aA 5) (aC (aB cJ (aB bH (mC (.int 2)) (aA 9)) (aA 6)) (aC (aA 7) aD)))))))) bJ) (aH (bF (aR (aB (aZ false) (aA 8) (mC (.int 2)))) (aS (bP (aC (aA 4) (aC (aA 5) (aC (aA 2) (aC (aA 3) (aC (aB bK (aA 7) (aA 9)) (aC (aB cJ (aA 6) (aA 9)) aD)))))))) bJ) (aS (bP (aC (jD (aA 4)) (aC (jD (aA 5)) (aC (jD (aA 2)) (aC (jD (aA 3)) (aC (aB cJ (aA 9) (aA 7)) (aC (aB cJ (aA 9) (aA 6)) aD))))))))))))) [some d0,some d1,none,none,none,none,none,none,none,none] μ):=by
 kernel_rfl
theorem Rm (k:Nat)(d0 d1:D)(μ:Hm):f (k+1) "_law_value" [d0,d1] μ=fin ((aS (aB aI (b7 (aC (aB aI (aA 0) (mC (.int 1))) (aC (aB aI (aA 0) (mC (.int 0))) (aC (aB cJ (aB aI (aA 0) (mC (.int 0))) (aB aI (aA 0) (mC (.int 1)))) (aC (aB bK (aB aI (aA 0) (mC (.int 0))) (aB aI (aA 0) (mC (.int 1)))) aD))))) (aA 1))) [some d0,some d1] μ):=by
 kernel_rfl
theorem Rn (k:Nat)(d0 d1 d2:D)(μ:Hm):f (k+1) "_law_grown" [d0,d1,d2] μ=fin ((aH (aV 3 eZ) (aH (cB (b8 (aG (f k "_law_quarters") (aC (aA 0) (aC (aA 1) aD)))) (cH 4) (iA (aA 3) (aA 4) (bP (aC (mC (.int 1)) (aC (mC (.int 0)) (aC (mC (.int 0)) (aC (mC (.int 1)) (aC (mC (.int 0)) (aC (mC (.int 0)) aD))))))))) (aH (cB (b8 (aA 2)) (cH 5) (aH (aV 6 (aB aY (aA 5) (mC (.int 4)))) (aH (aV 7 (aB aI (aG lC (aC (aA 3) aD)) (aB aY (aB dS (aA 5) (mC (.int 16))) (aG d9 (aC (aA 3) aD))))) (aH (aV 8 (aB bK (aB bH (aB dS (aG (f k "_law_value") (aC (aG (f k "_law_led") (aC (aB aI (aA 3) (aA 7)) (aC (aA 7) aD))) (aC (aA 6) aD))) (mC (.int 4))) (mC (.int 4))) (aB bH (aB aY (aB dS (aA 5) (mC (.int 4))) (mC (.int 2))) (mC (.int 4))))) (cB (b8 (aG lC (aC (aA 3) aD))) (cH 4) (aH (aV 9 (aB nG (aG (f k "_law_value") (aC (aG (f k "_law_led") (aC (aB aI (aA 3) (aA 4)) (aC (aA 4) aD))) (aC (aA 6) aD))) (aA 8))) (bF (aR (aB (aZ false) (aA 9) (aB (aZ false) (aB aY (aB dS (aA 5) (mC (.int 8))) (mC (.int 2))) (mC (.int 1))))) (iA (aA 3) (aA 4) (aG (f k "_law_over") (aC (aB aI (aA 3) (aA 4)) (aC (bP (aC (aA 6) (aC (aA 8) aD))) aD)))) bJ))))))) (aS (aA 3))))) [some d0,some d1,some d2,none,none,none,none,none,none,none] μ):=by
 kernel_rfl
theorem Ro (k:Nat)(d0 d1:D)(μ:Hm):f (k+1) "_law_by_lines" [d0,d1] μ=fin ((aH (aV 2 (b7 aD)) (aH (cB (b8 (aA 0)) (cH 3) (aH (fK (aG (f k "_law_line") (aC (aA 3) aD)) (c7 [4,5])) (bF (aR (aB (aZ false) (aB aY (aB dS (aA 1) (aB bK (aB bK (aB bH (mC (.int 5)) (aA 4)) (aB aY (aB dS (aA 5) (mC (.int 4))) (mC (.int 5)))) (mC (.int 2)))) (aB aI (b7 (aC (mC (.int 3)) (aC (mC (.int 3)) (aC (mC (.int 4)) (aC (mC (.int 4)) aD))))) (aA 4))) (mC (.int 0)))) (dD (cT dN (aA 2) (aC (aA 3) aD))) bJ))) (aS (aA 2)))) [some d0,some d1,none,none,none,none] μ):=by
 kernel_rfl
theorem Rq (k:Nat)(d0 d1 d2 d3:D)(μ:Hm):f (k+1) "_law_creased" [d0,d1,d2,d3] μ=fin ((aH (aV 4 (aG (f k "_law_inner") (aC (aA 1) (aC (aA 2) aD)))) (aH (aV 5 (aB aI (aA 3) (aB aY (aG (f k "_law_cell") (aC (aA 0) (aC (mC (.int 1)) aD))) (aG d9 (aC (aA 3) aD))))) (aH (aV 6 (aG (f k "_law_cell") (aC (aA 0) (aC (mC (.int 2)) aD)))) (aH (bF (aR (aB (aZ false) (aA 5) (mC (.int 3)))) (aS (aG (f k "_law_by_lines") (aC (aA 4) (aC (aA 6) aD)))) bJ) (aH (bF (aR (aB (aZ false) (aA 5) (mC (.int 4)))) (aH (aV 7 (b7 aD)) (aH (cB (mI (aC (aA 4) aD)) (c7 [8,9]) (aH (aV 10 (aB bK (aB bH (aA 6) (aB bK (aB bH (mC (.int 2)) (aA 8)) (mC (.int 1)))) (aB bH (aG (f k "_law_cell") (aC (aA 0) (aC (aB bK (mC (.int 3)) (aB aY (aA 8) (mC (.int 5)))) aD))) (aB bK (aB bH (aA 8) (aA 8)) (mC (.int 5)))))) (bF (aR (aB iQ (aB aY (aB aY (aA 10) (mC (.int 10007))) (mC (.int 7))) (aB aY (aB dS (aG (f k "_law_cell") (aC (aA 0) (aC (mC (.int 1)) aD))) (mC (.int 5))) (mC (.int 8))))) (dD (cT dN (aA 7) (aC (aA 9) aD))) bJ))) (aS (aA 7)))) bJ) (aH (aV 11 (aG (f k "_law_grown") (aC (aA 1) (aC (aA 2) (aC (d5 (j5 (aC (aB aY (aA 6) (mC (.int 6))) aD)) f7 (aG (f k "_law_cell") (aC (aA 0) (aC (aB bK (mC (.int 3)) (aA 15)) aD)))) aD))))) (aH (aV 12 (b7 aD)) (aH (cB (b8 (aA 4)) (cH 9) (aH (fK (aG (f k "_law_beside") (aC (aA 9) aD)) (c7 [13,14])) (bF (aR (aB (aZ true) (aB aI (aA 11) (aA 13)) (aB aI (aA 11) (aA 14)))) (dD (cT dN (aA 12) (aC (aA 9) aD))) bJ))) (aH (bF (iO (aR (aB (aZ false) (aA 5) (mC (.int 1)))) (aR (aB (aZ true) (aA 4) (b7 aD)))) (aH (aV 9 (aB aI (aA 4) (aB aY (aB dS (aA 6) (mC (.int 6))) (aG d9 (aC (aA 4) aD))))) (aV 12 (aG jG (aC (aB bK (d5 (b8 (aA 12)) (aR (aB (aZ true) (aA 15) (aA 9))) (aA 15)) (aB bH (b7 (aC (aA 9) aD)) (aG nK (aC (aB (dG true) (aA 9) (aA 12)) aD)))) aD)))) bJ) (aS (aA 12))))))))))) [some d0,some d1,some d2,some d3,none,none,none,none,none,none,none,none,none,none,none] μ):=by
 kernel_rfl
theorem Rt (k:Nat)(d0 d1 d2:D)(μ:Hm):f (k+1) "_law_sheet" [d0,d1,d2] μ=fin ((aH (aV 3 (aB bK (mC (.int 1)) (aB aY (aG (f k "_law_cell") (aC (aA 0) (aC (mC (.int 0)) aD))) (aA 1)))) (aH (aV 4 (aB bK (mC (.int 1)) (aB aY (aB dS (aG (f k "_law_cell") (aC (aA 0) (aC (mC (.int 0)) aD))) (aA 1)) (aA 1)))) (aH (aV 5 (b7 aD)) (aH (cB (mI (aC (aG (f k "_law_creased") (aC (aA 0) (aC (aA 3) (aC (aA 4) (aC (aA 2) aD))))) aD)) (c7 [6,7]) (aH (aV 8 (aB bK (aB bH (aG (f k "_law_cell") (aC (aA 0) (aC (aB bK (mC (.int 9)) (aB aY (aA 6) (mC (.int 9)))) aD))) (aB bK (aB bH (mC (.int 2)) (aA 6)) (mC (.int 3)))) (aB bH (aA 6) (aA 6)))) (dD (cT dN (aA 5) (aC (bP (aC (aA 7) (aC (aB aI (mC (.str "hvo")) (aB aY (aB aY (aA 8) (mC (.int 10007))) (mC (.int 3)))) aD))) aD))))) (aS (bP (aC (aA 3) (aC (aA 4) (aC (aG oF (aC (aA 5) aD)) aD))))))))) [some d0,some d1,some d2,none,none,none,none,none,none] μ):=by
 kernel_rfl
theorem Ru (k:Nat)(d0 d1:D)(μ:Hm):f (k+1) "_law_by_place" [d0,d1] μ=fin ((aH (bF (eE (fW (dU (aG eN (aC (aA 0) (aC (mC (.ty "dict")) aD))))) (aR (aB (aZ true) (aG lD (aC (aA 0) aD)) (aG lD (aC (aA 1) aD))))) (aS (mC (.bl false))) bJ) (aS (aG pQ (aC (oB 1 (d5 (mN (aA 1)) f7 (fX (aG eN (aC (aB aI (aA 0) (aA 2)) (aC (mC (.ty "list")) aD))) (aB (aZ false) (aB aI (aA 0) (aA 2)) (aB aI (aA 1) (aA 2))))) (d5 (b8 (aA 1)) f7 (fX (aG eN (aC (aB aI (aA 0) (aA 2)) (aC (mC (.ty "list")) aD))) (aB (aZ false) (aB aI (aA 0) (aA 2)) (aB aI (aA 1) (aA 2)))))) aD)))) [some d0,some d1] μ):=by
 kernel_rfl
theorem Rv (k:Nat)(d0:D)(μ:Hm):f (k+1) "_law_spoil" [d0] μ=fin ((aH (cB (b8 (aG lC (aC (aA 0) aD))) (cH 1) (dD (cT dN (aB aI (aA 0) (aA 1)) (aC (mC (.int 0)) aD)))) (aH (dD (iD oD (aA 0) aD)) (aS (aA 0)))) [some d0,none] μ):=by
 kernel_rfl
theorem Rw (k:Nat)(d0 d1 d2:D)(μ:Hm):f (k+1) "_law_led_on" [d0,d1,d2] μ=fin ((aH (aV 3 (b7 aD)) (aH (cB (j5 (aC (aB aY (aG (f k "_law_cell") (aC (aA 0) (aC (mC (.int 18)) aD))) (mC (.int 4))) aD)) (cH 4) (aH (aV 5 (aG (f k "_law_cell") (aC (aA 0) (aC (aB bK (mC (.int 19)) (aA 4)) aD)))) (dD (cT dN (aA 3) (aC (bP (aC (aB aY (aA 5) (mC (.int 4))) (aC (aB bH (mC (.int 4)) (aB cJ (aB aY (aB dS (aA 5) (mC (.int 4))) (aB aI (b7 (aC (mC (.int 9)) (aC (aB bH (mC (.int 2)) (aB nF (mC (.int 10)) (mC (.int 50)))) aD))) (aB aY (aB dS (aA 5) (mC (.int 8))) (mC (.int 2))))) (mC (.int 4)))) aD))) aD))))) (aH (aV 6 (aB aY (aB dS (aG (f k "_law_cell") (aC (aA 0) (aC (mC (.int 22)) aD))) (mC (.int 2))) (aG d9 (aC (aA 2) aD)))) (aH (aV 7 eZ) (aH (aV 8 (aB bK (jV (aA 2) (gY (aA 6)) iP) (jV (aA 2) iP (gY (aA 6))))) (aH (bF (aR (aB (aZ false) (aB aY (aG (f k "_law_cell") (aC (aA 0) (aC (mC (.int 22)) aD))) (mC (.int 2))) (mC (.int 1)))) (aV 8 (aG kX (aC (aA 8) aD))) bJ) (aH (cB (b8 (aA 8)) (cH 9) (aH (aV 10 (aB aI (aA 1) (aA 9))) (aH (cB (b8 (aA 3)) (cH 11) (aV 10 (aG (f k "_law_over") (aC (aA 10) (aC (aA 11) aD))))) (iA (aA 7) (aA 9) (aA 10))))) (aS (aA 7))))))))) [some d0,some d1,some d2,none,none,none,none,none,none,none,none,none] μ):=by
 kernel_rfl
theorem Ry (k:Nat)(d0:D)(μ:Hm):f (k+1) "law" [d0] μ=fin ((aH (aV 1 (aG (f k "_law_sheet") (aC (aA 0) (aC (mC (.int 3)) (aC (b7 (aC (mC (.int 0)) (aC (mC (.int 0)) (aC (mC (.int 0)) (aC (mC (.int 3)) aD))))) aD))))) (aH (bF (aR (aB (hX true) (aG (f k "barred") (aC (aA 1) aD)) (mC .non))) (aS (mC (.bl true))) bJ) (aH (aV 2 (aG (f k "_law_led_on") (aC (aA 0) (aC (aG (f k "laid") (aC (aA 1) aD)) (aC (aG (f k "_law_quarters") (aC (aB aI (aA 1) (mC (.int 0))) (aC (aB aI (aA 1) (mC (.int 1))) aD))) aD))))) (aH (aV 3 (aG oG (aC (aA 2) aD))) (aH (aV 4 eZ) (aH (cB (b8 (aG (f k "_law_quarters") (aC (aB aI (aA 1) (mC (.int 0))) (aC (aB aI (aA 1) (mC (.int 1))) aD)))) (cH 5) (aH (aV 6 (aG (f k "_law_led") (aC (aB aI (aA 3) (aA 5)) (aC (aA 5) aD)))) (iA (aA 4) (aA 6) (aB bK (iD k8 (aA 4) (aC (aA 6) (aC (b7 aD) aD))) (b7 (aC (aA 5) aD)))))) (aH (aV 7 eZ) (aH (cB (b8 (aG (f k "_law_inner") (aC (aB aI (aA 1) (mC (.int 0))) (aC (aB aI (aA 1) (mC (.int 1))) aD)))) (cH 8) (aH (fK (aG (f k "_law_beside") (aC (aA 8) aD)) (c7 [9,10])) (aH (aV 6 (aG (f k "_law_led") (aC (aB aI (aA 3) (aA 9)) (aC (aA 8) aD)))) (aH (bF (aR (aB (aZ true) (aA 6) (aG (f k "_law_led") (aC (aB aI (aA 3) (aA 10)) (aC (aA 8) aD))))) (aS (mC (.bl false))) bJ) (iA (aA 7) (aA 6) (aB bK (iD k8 (aA 7) (aC (aA 6) (aC (b7 aD) aD))) (b7 (aC (aA 8) aD)))))))) (aH (cB (j5 (aC (mC (.int 2)) aD)) (cH 11) (aH (aV 12 (aG (f k "stacks") (aC (aA 2) aD))) (aH (aV 13 (aG (f k "edges_laid") (aC (aA 1) (aC (aA 2) aD)))) (aH (bF (eE (fW (dU (aG (f k "_law_by_place") (aC (aA 12) (aC (aA 4) aD))))) (fW (dU (aG (f k "_law_by_place") (aC (aA 13) (aC (aA 7) aD)))))) (aS (mC (.bl false))) bJ) (bF (eE (aR (aB (dH true) (aG (f k "_law_spoil") (aC (aA 12) aD)) eZ)) (eE (aR (aB (dH true) (aG (f k "_law_spoil") (aC (aA 13) aD)) eZ)) (aR (aB (dH true) (aA 2) (aA 3))))) (aS (mC (.bl false))) bJ))))) (aS (mC (.bl true)))))))))))) [some d0,none,none,none,none,none,none,none,none,none,none,none,none,none] μ):=by
 kernel_rfl
end Lw
namespace Lw
open PySem L2 L3
theorem EE {z:Int}{μ:Hm}{Q:D×Hm->Prop}:W (bH (.int 2) (.int z) μ) Q↔Q (.int (2 * z),μ):=dM (.inl ⟨by decide,by decide⟩)
theorem mT {z:Int}{μ:Hm}{Q:D×Hm->Prop}:W (bH (.int 4) (.int z) μ) Q↔Q (.int (4 * z),μ):=dM (.inl ⟨by decide,by decide⟩)
theorem oP {z:Int}{μ:Hm}{Q:D×Hm->Prop}:W (aY (.int z) (.int 2) μ) Q↔Q (.int (z % 2),μ):=cF (by decide)
theorem mU {z:Int}{μ:Hm}{Q:D×Hm->Prop}:W (aY (.int z) (.int 4) μ) Q↔Q (.int (z % 4),μ):=cF (by decide)
theorem Rz {z:Int}{μ:Hm}{Q:D×Hm->Prop}:W (aY (.int z) (.int 6) μ) Q↔Q (.int (z % 6),μ):=cF (by decide)
theorem RA:(2:Nat)<=UM:=by decide
theorem gO {a b:D}:([a,b]:List D).length<=UM:=RA
theorem EF {z:Int}{μ:Hm}{Q:D×Hm->Prop}:W (aY (.int z) (.int 5) μ) Q↔Q (.int (z % 5),μ):=cF (by decide)
theorem RB {z:Int}{μ:Hm}{Q:D×Hm->Prop}:W (aY (.int z) (.int 9) μ) Q↔Q (.int (z % 9),μ):=cF (by decide)
noncomputable def kJ:D->Int
 | .int i=>i
 | _=>0
theorem EG {lo:Int}{n:Nat}{d:D}(h:d∈gH lo n):∃ j:Nat,j<n/\d=.int (lo+(j:Int)):=by
 unfold gH at h
 obtain ⟨j,h1,rfl⟩:=UR.mp h
 exact ⟨j,VU.mp h1,rfl⟩
theorem iW {t:MT}{A B C:MS}{ρ:aL}{μ μ':Hm}{b:Bool}{Q:D×Hm->Prop}(h:t ρ μ=some (b,μ'))(h1:b=true->W (fin (aH A C ρ μ')) Q)(h2:b=false->W (fin (aH B C ρ μ')) Q):W (fin (aH (bF t A B) C ρ μ)) Q:=by
 cases b
 ·have e:aH (bF t A B) C ρ μ=aH B C ρ μ':=by unfold aH bF;rw [h];rfl
  rw [e];exact h2 rfl
 ·have e:aH (bF t A B) C ρ μ=aH A C ρ μ':=by unfold aH bF;rw [h];rfl
  rw [e];exact h1 rfl
theorem jL {a C:MS}{ρ ρ':aL}{μ μ':Hm}{Q:D×Hm->Prop}(h:a ρ μ=some (.nx,ρ',μ'))(k:W (fin (C ρ' μ')) Q):W (fin (aH a C ρ μ)) Q:=by
 unfold aH
 rw [h]
 exact k
theorem EH {i:Nat}{m:ME}{ρ:aL}{μ μ':Hm}{d:D}(h:m ρ μ=some (d,μ')):aV i m ρ μ=some (.nx,ρ.set i (some d),μ'):=by
 unfold aV
 rw [h]
 rfl
theorem yZ {α:Type}{o:Option α}{r:α}{Q:α->Prop}(h:W o fun x=>x=r):W o Q↔Q r:=by
 obtain ⟨_,h,rfl⟩:=h
 rw [h]
 exact W_some
theorem EI {α:Type}{o:Option α}{r:α}(h:∀ Q:α->Prop,W o Q↔Q r):o=some r:=by
 obtain ⟨_,e,h1⟩:=(h fun x=>x=r).mpr rfl
 rw [e,h1]
theorem y8 {g:MF}{ms:MA}{ρ:aL}{μ μ':Hm}{ds:List D}{Q:D×Hm->Prop}(h:ms ρ μ=some (ds,μ'))(k:W (g ds μ') Q):W (aG g ms ρ μ) Q:=by
 unfold aG
 rw [h]
 exact k
noncomputable def qW (x y:Int):Str:=if x % 2=1 then (if x % 4=y % 4 then "falling" else "rising") else if y % 4=0 then "level" else "upright"
theorem RC (k:Nat)(x y:Int)(μ:Hm)(Q:D×Hm->Prop):W (f (k+1) "line_of" [P x y] μ) Q↔Q (.str (qW x y),μ):=by
 rw [QH,W_fin]
 simp only [bG,w_mRet,cZ,dJ,yN,aT,aX,aE,cQ,iF,iT,fA,cF (show (0:Int)<2 by decide),cF (show (0:Int)<4 by decide)]
 unfold qW
 split<;>split<;>simp_all
noncomputable def y9 (x y:Int)(a b:Int):Int:=if x % 2=1 then (if x % 4=y % 4 then a - b else a+b) else if y % 4=0 then b else a
theorem RE (k:Nat)(x y a b:Int)(μ:Hm)(Q:D×Hm->Prop):W (f (k+1) "number_by" [.str (qW x y),P a b] μ) Q↔Q (.int (y9 x y a b),μ):=by
 refine yZ ?_
 rw [QU]
 unfold qW y9
 split<;>split<;>exact ⟨_,rfl,rfl⟩
noncomputable def bY (p e:Int×Int):Int×Int:=
 if e.1 % 2=1 then (if e.1 % 4=e.2 % 4 then (p.2+(e.1 - e.2),p.1 - (e.1 - e.2)) else (e.1+e.2 - p.2,e.1+e.2 - p.1)) else if e.2 % 4=0 then (p.1,2 * e.2 - p.2) else (2 * e.1 - p.1,p.2)
theorem EJ (k:Nat)(x y a b:Int)(μ:Hm)(Q:D×Hm->Prop):W (f (k+2) "mirrored" [P x y,P a b] μ) Q↔Q (PP (bY (x,y) (a,b)),μ):=by
 refine yZ ?_
 rw [QV]
 refine jL rfl (jL rfl (jL (EH (EI (RC k a b μ))) (jL (EH (EI (RE k a b a b μ))) ?_)))
 unfold qW y9 bY
 split<;>split<;>exact ⟨_,rfl,rfl⟩
theorem EK (p:Int×Int)(a b:Int):bY (bY p (a,b)) (a,b)=p:=by
 obtain ⟨x,y⟩:=p
 unfold bY
 dsimp only
 split<;>split<;>(refine VT ?_ ?_<;>dsimp only<;>omega)
noncomputable def dR:D->Int×Int
 | .tup [.int x,.int y]=>(x,y)
 | _=>(0,0)
theorem lJ (p:Int×Int->Bool)(l:List (Int×Int)):((l.map PP).filter fun d=>p (dR d)).map (fun d=>d)=(l.filter p).map PP:=by
 rw [a3S]
 induction l with
 | nil=>rfl
 | cons a l ih=>
  have e:(a3m PP (a::l)).filter (fun d=>p (dR d))=if p a then PP a::(l.map PP).filter (fun d=>p (dR d)) else (l.map PP).filter fun d=>p (dR d):=by
   rw [UQ,Y4];rfl
  rw [e,ih,Y4]
  split<;>rfl
theorem jM {d:D}{l:List (Int×Int)}(h:d∈l.map PP):∃ x y,d=P x y:=by
 obtain ⟨p,_,rfl⟩:=UR.mp h
 exact ⟨p.1,p.2,rfl⟩
theorem qX {n:Nat}{i:Int}(h0:0<=i)(h:i<n):jT n i=some i.toNat:=by
 unfold jT;rw [if_pos h0,if_pos h]
theorem zA {gs:List Int}{i:Int}(h0:0<=i)(h:i<gs.length):atI (gs.map D.int) i=some (.int (gs.getD i.toNat 0)):=by
 unfold atI
 rw [Uz,qX h0 h,UZ,Vd]
 have hi:i.toNat<gs.length:=by omega
 simp [VA,hi]
theorem EL {xs:List D}{i:Int}{d:D}{μ:Hm}{Q:D×Hm->Prop}(h:atI xs i=some d):W (aI (.rol xs) (.int i) μ) Q↔Q (d,μ):=by
 have:aI (.rol xs) (.int i) μ=some (d,μ):=by
  simp only [aI,fH,bI,UZ,h,U7]
 rw [this]
 exact W_some
noncomputable def mV:List Int->Int
 | []=>0
 | g::r=>g - mV r
noncomputable def iG (gs:List Int):Bool:=decide (gs.length<=8)&&decide (gs.length % 2=0)&&gs.all (fun g=>decide (1<=g))&&mV gs == 0
theorem RF (k:Nat)(i:Int)(μ:Hm)(Q:D×Hm->Prop):W (f (k+1) "is_whole" [.int i] μ) Q↔Q (.bl true,μ):=by
 rw [Qz,W_fin]
 simp only [w_mRet,mR,P7,aW,aM,aJ,aE,aX,Qm,Qn]
 simp
theorem RG:∀ gs:List Int,gs.length<=8->gs.length % 2=0->∃ es os:List Int,d7 (gs.map D.int) none none (some 2)=es.map D.int/\d7 (gs.map D.int) (some 1) none (some 2)=os.map D.int/\es.sum - os.sum=mV gs/\es.length<=8/\os.length<=8
 | [],_,_=>⟨[],[],rfl,rfl,rfl,by decide,by decide⟩
 | [_],_,h=>by simp at h
 | [a,b],_,_=>⟨[a],[b],by kernel_rfl,by kernel_rfl,by simp [mV]<;>omega,by simp,by simp⟩
 | [_,_,_],_,h=>by simp at h
 | [a,b,c,d],_,_=>⟨[a,c],[b,d],by kernel_rfl,by kernel_rfl,by simp [mV]<;>omega,by simp,by simp⟩
 | [_,_,_,_,_],_,h=>by simp at h
 | [a,b,c,d,e,g],_,_=>⟨[a,c,e],[b,d,g],by kernel_rfl,by kernel_rfl,by simp [mV]<;>omega,by simp,by simp⟩
 | [_,_,_,_,_,_,_],_,h=>by simp at h
 | [a,b,c,d,e,g,x,y],_,_=>⟨[a,c,e,x],[b,d,g,y],by kernel_rfl,by kernel_rfl,by simp [mV]<;>omega,by simp,by simp⟩
 | _::_::_::_::_::_::_::_::_::_,h,_=>absurd h (by simp)
theorem zB {d:D}{gs:List Int}(h:d∈gs.map D.int):∃ g∈gs,d=.int g:=by
 obtain ⟨g,h1,rfl⟩:=UR.mp h
 exact ⟨g,h1,rfl⟩
theorem oQ {α:Type}(l:List α):l.filter (fun _=>true)=l:=by simp
theorem RI (k:Nat)(a:Nat)(gs:List Int)(hz:gs.length<=1000)(μ:Hm)(Q:D×Hm->Prop)(ha:μ[a]? = some (.lst (gs.map D.int)))(H:∀ μ',μ <+: μ'->Q (.bl (iG gs),μ')):W (f (k+2) "is_good" [.loc a] μ) Q:=by
 rw [Q3,W_fin]
 simp only [bG,dJ,oJ,cQ,aT,aW,aM,aJ,aE,aX]
 refine (mS ha).mpr ?_
 simp only [Eh,Uz]
 by_cases h8:(8:Int)<gs.length
 ·have e:iG gs=false:=by
   unfold iG;rw [decide_eq_false (show ¬ gs.length<=8 by omega)];rfl
  simp only [h8,decide_true,if_true,w_mRet,aX]
  rw [<- e]
  exact H _ (U0 _)
 ·simp only [h8,decide_false,UN,if_false]
  refine (mS ha).mpr ?_
  simp only [oP,fA,Uz]
  by_cases ho:(gs.length:Int) % 2=1
  ·have e:iG gs=false:=by
    unfold iG;rw [decide_eq_false (show ¬ gs.length % 2=0 by omega)];simp
   simp only [ho,beq_self_eq_true,if_true,w_mRet,aX]
   rw [<- e]
   exact H _ (U0 _)
  ·have e1:((gs.length:Int) % 2 == 1)=false:=by simpa using ho
   simp only [e1,UN,if_false,cZ,tX,iS,aW,aM,aJ]
   refine fB (xs:=gs.map D.int) (p:=fun _=>true) (v:=fun d=>.bl (decide (1<=kJ d))) ?_
   simp only [w_iSeq,aE]
   refine (c4 ha).mpr ?_
   refine ⟨iV ha,rfl,by rw [Uz,U4];omega,fun d μ' hd hp=>w_mTrue.mpr ⟨rfl,U0 _⟩,fun d μ' hd _ hp=>?_,fun μ1 hp1 hg1=>?_⟩
   ·obtain ⟨g,_,rfl⟩:=zB hd
    simp only [Vc,Vf,mR,aW,aM,aJ,aE,aF,RF,if_true,aT,aX,Qc]
    exact ⟨rfl,U0 _⟩
   ·have hg1':μ1[μ.length]? = some (.lst ((gs.map fun g=>decide (1<=g)).map D.bl)):=by
     rw [hg1,oQ,UU,UU]
     rfl
    refine (Eu hg1').mpr ?_
    have hall:(gs.map fun g=>decide (1<=g)).all id=gs.all fun g=>decide (1<=g):=by
     rw [a1u];rfl
    rw [hall]
    simp only [iU]
    cases hb:gs.all fun g=>decide (1<=g) with
    | false=>
     have e:iG gs=false:=by
      unfold iG;rw [hb];simp
     simp only [W8,if_true,w_mRet,aX]
     rw [<- e]
     exact H _ hp1
    | true=>
     simp only [WI,UN,if_false,cZ,w_mRet,aT,aW,aM,aJ]
     obtain ⟨es,os,he,ho',hs,l1,l2⟩:=RG gs (by omega) (by omega)
     have ha1:=aN hp1 ha
     refine Ew ?_
     simp only [aE]
     refine ⟨a,rfl,?_⟩
     simp only [oK,oM,aX]
     refine ⟨by decide,_,ha1,?_,?_⟩
     ·rw [he,Uz,U4];omega
     rw [he]
     refine (Et (bB _ _)).mpr ?_
     refine Ew ?_
     simp only [aE]
     refine ⟨a,rfl,?_⟩
     simp only [oK,oM,aX]
     refine ⟨by decide,_,aN (aQ _ _) ha1,?_,?_⟩
     ·rw [ho',Uz,U4];omega
     rw [ho']
     refine (Et (bB _ _)).mpr ?_
     refine (fA).mpr ?_
     have e:iG gs=(es.sum == os.sum):=by
      unfold iG
      rw [hb,decide_eq_true (show gs.length<=8 by omega),decide_eq_true (show gs.length % 2=0 by omega)]
      simp only [a3C]
      rw [Yw,beq_iff_eq,beq_iff_eq]
      omega
     rw [<- e]
     exact H _ (hp1.trans ((aQ _ _).trans (aQ _ _)))
noncomputable def mW (h:Int)(x:Int):List (Int×Int):=(Vv (4 * h - 1).toNat).map fun (j:Nat)=>(x,1+(j:Int))
noncomputable def lK (h:Int)(n:Nat):List (Int×Int):=(Vv n).flatMap fun (i:Nat)=>mW h (1+(i:Int))
noncomputable def c9 (w h:Int):List (Int×Int):=lK h (4 * w - 1).toNat
theorem EM (h:Int)(n:Nat):lK h (n+1)=lK h n++mW h (1+(n:Int)):=by
 unfold lK;rw [a0r,a1W];simp
theorem EO (h x:Int):(mW h x).length=(4 * h - 1).toNat:=by unfold mW;simp
theorem zC (h:Int):∀ n:Nat,(lK h n).length=n * (4 * h - 1).toNat
 | 0=>by simp [lK]
 | n+1=>by rw [EM,U5,zC h n,EO,Z9]
theorem ER {h:Int}(hh:h<=6){n:Nat}(hn:n<=23):n * (4 * h - 1).toNat<=529:=by
 have:n * (4 * h - 1).toNat<=23 * 23:=a0Y hn (by omega)
 omega
theorem RJ (h x:Int):((gH 1 (4 * h - 1).toNat).filter fun _=>true).map (fun d=>P x (kJ d))=(mW h x).map PP:=by
 unfold gH mW
 rw [show ∀ l:List D,l.filter (fun _=>true)=l from fun l=>by simp,UU,UU]
 rfl
theorem zD (k:Nat)(w h:Int)(hw:1<=w/\w<=6)(hh:1<=h/\h<=6)(μ:Hm)(Q:D×Hm->Prop)(H:∀ a μ',μ <+: μ'->μ'[a]? = some (.lst ((c9 w h).map PP))->μ.length<=a->Q (.loc a,μ')):W (f (k+1) "places_within" [.int w,.int h] μ) Q:=by
 rw [QY,W_fin]
 simp only [bG,bU,dY,aJ]
 refine ⟨Vk _,?_⟩
 simp only [UH,UI,dQ,tZ,aM,aJ,aX,aT,aE,aF,mT]
 refine ⟨by omega,?_⟩
 refine qU (lo:=1) (fun i ρ μ'=>μ <+: μ'/\μ'[μ.length]? = some (.lst ((lK h i).map PP))/\∃ o,ρ=[some (.int w),some (.int h),some (.loc μ.length),o]) ⟨aQ _ _,bB _ _,none,rfl⟩ ?_ ?_
 ·rintro i ρ μ1 hi ⟨hp,hg,o,rfl⟩
  refine ⟨_,rfl,?_⟩
  simp only [UH,UI,gE]
  refine gJ ?_
  simp only [aE,aF]
  refine ⟨gM hg,?_⟩
  simp only [aM,aJ]
  refine fB (xs:=gH 1 (4 * h - 1).toNat) (p:=fun _=>true) (v:=fun d=>P (1+(i:Int)) (kJ d)) ?_
  simp only [tZ,aM,aJ,aX,aT,aE,aF,mT]
  refine ⟨by omega,Ek,by simp [gH],by rw [U4];simp [gH];omega,?_,?_,?_⟩
  ·intro d μ' hd hp
   exact w_mTrue.mpr ⟨rfl,U0 _⟩
  ·intro d μ' hd _ hp
   obtain ⟨j,hj,rfl⟩:=EG hd
   simp only [Vc,Vf,eS,aM,aJ,aE,aF,gO,true_and]
   exact ⟨rfl,U0 _⟩
  ·intro μ2 hp2 hg2
   rw [RJ] at hg2
   have hlen:((lK h i).map PP).length+((mW h (1+(i:Int))).map PP).length<=UM:=by
    have h1:=ER (h:=h) hh.2 (n:=i+1) (by omega)
    rw [Z9] at h1
    rw [Uz,Uz,zC,EO,U4]
    omega
   refine (Ql (aN hp2 hg) hg2 hlen).mpr ?_
   refine ⟨eA (hp.trans hp2) (UJ _) _,?_,_,rfl⟩
   rw [VC (UA.mp (aN hp2 hg)).1,EM,Vb]
 ·rintro ρ μ1 ⟨hp,hg,o,rfl⟩
  simp only [w_mRet,aE,aF]
  exact H _ _ hp hg (UJ _)
theorem zE {w h:Int}(hw:w<=6)(hh:h<=6):(c9 w h).length<=529:=by
 unfold c9
 rw [zC]
 exact ER hh (by omega)
noncomputable def mv (x y:Int)(l:List (Int×Int)):List (Int×Int):=l.map fun s=>(x+s.1,y+s.2)
theorem ES (k:Nat)(x y:Int)(l:List (Int×Int))(hl:l.length<=63)(μ:Hm)(Q:D×Hm->Prop)(h:∀ a μ',μ <+: μ'->μ'[a]? = some (.lst ((mv x y l).map PP))->μ.length<=a->Q (.loc a,μ')):W (f (k+1) "moved_by" [P x y,.tup (l.map PP)] μ) Q:=by
 rw [QN,W_fin]
 simp only [w_mRet]
 refine fB (xs:=l.map PP) (p:=fun _=>true) (v:=fun d=>PP (x+(dR d).1,y+(dR d).2)) ?_
 simp only [w_iSeq,aE,aF]
 refine w_seqT.mpr ?_
 refine ⟨Ej,rfl,by rw [Uz,U4];omega,fun d μ' hd hp=>W_some.mpr ⟨rfl,U0 _⟩,fun d μ' hd _ hp=>?_,fun μ' hp hg=>?_⟩
 ·obtain ⟨u,v,rfl⟩:=jM hd
  simp only [Vc,Vf,eS,aT,aX,aM,aJ,aE,aF,iF,iT,c8,gO,true_and]
  exact ⟨rfl,U0 _⟩
 ·refine h _ _ hp ?_ (UJ _)
  rw [hg,List.filter_eq_self.mpr (fun _ _=>rfl),UU]
  unfold mv
  rw [UU]
  rfl
noncomputable def E8:List (Int×Int):=[(2,0),(1,1),(0,2),(-1,1),(-2,0),(-1,-1),(0,-2),(1,-1)]
noncomputable def F4:List (Int×Int):=[(1,1),(-1,1),(-1,-1),(1,-1)]
noncomputable def cK (x:Int):List (Int×Int):=if x % 4=0 then E8 else F4
theorem ET (k:Nat)(x y:Int)(μ:Hm)(Q:D×Hm->Prop)(h:∀ a μ',μ <+: μ'->μ'[a]? = some (.lst ((mv x y (cK x)).map PP))->μ.length<=a->Q (.loc a,μ')):W (f (k+2) "edges_round" [P x y] μ) Q:=by
 rw [QR,W_fin]
 simp only [w_mRet,aW,aM,aJ,aE,yN,cQ,aT,aX,iF,mU,fA]
 unfold cK at h
 by_cases e:x % 4=0
 ·rw [if_pos e] at h
  rw [e]
  exact ES k x y E8 (by decide) μ _ h
 ·rw [if_neg e] at h
  rw [if_neg (by simpa using e)]
  exact ES k x y F4 (by decide) μ _ h
theorem EU (μ:Hm)(q:Int×Int):∀ ps:List (Int×Int),j7 μ (PP q) (ps.map PP)=some (ps.any fun p=>p == q)
 | []=>rfl
 | p::ps=>by
  rw [UQ]
  show (b9 8 μ (PP p) (PP q)).bind (fun b=>(j7 μ (PP q) (ps.map PP)).map fun c=>b||c)=_
  rw [yS 6,EU μ q ps]
  rfl
theorem RK {μ:Hm}{b:Nat}{ns:List Int}{Q:D×Hm->Prop}(hb:μ[b]? = some (.lst [])):W (aZ false (.rol (ns.map D.int)) (.loc b) μ) Q↔Q (.bl (ns == []),μ):=by
 have h1:eW μ (.rol (ns.map D.int))=some (.lst (ns.map D.int)):=rfl
 have h2:eW μ (.loc b)=some (.lst (([]:List Int).map D.int)):=by simp only [eW,hb];rfl
 have:b9 8 μ (.rol (ns.map D.int)) (.loc b)=some (ns == []):=by
  show (eW μ (.rol (ns.map D.int))).bind (fun x=>(eW μ (.loc b)).bind fun y=>jB (b9 7 μ) x y)=_
  rw [h1,h2]
  exact Ep 6 μ ns []
 unfold aZ
 rw [this]
 exact W_some
noncomputable def cL (ns:List Int)(i:Int):Int:=if i<ns.length then ns.getD i.toNat 0 else if ns=[] then i * i * 48271 % 2147483647 else
 ((ns.getD (i % ns.length).toNat 0 % 2147483629+i * i * 69623) * 48271 % 2147483647) * ((ns.getD (i % ns.length).toNat 0 % 2147483629+i * i * 69623) * 48271 % 2147483647) % 2147483629
theorem EV {i:Int}(hi:0<=i/\i<=100):0<=i * i/\i * i<=10000:=by
 refine ⟨Int.mul_nonneg hi.1 hi.1,?_⟩
 have:=a3B hi.2 hi.2 hi.1 (by decide)
 omega
theorem iH (k:Nat)(ns:List Int)(i:Int)(hi:0<=i/\i<=100)(μ:Hm)(Q:D×Hm->Prop)(H:∀ μ',μ <+: μ'->Q (.int (cL ns i),μ')):W (f (k+1) "_law_cell" [.rol (ns.map D.int),.int i] μ) Q:=by
 rw [Rh,W_fin]
 have hs:=EV hi
 simp only [bG,dJ,cQ,aT,aW,aM,aJ,aE,aF,aX,Er,yP,Uz]
 by_cases h:i<ns.length
 ·simp only [h,decide_true,if_true,w_mRet,aT,aE,aF]
  rw [EL (zA hi.1 h)]
  have e:cL ns i=ns.getD i.toNat 0:=by unfold cL;rw [if_pos h]
  rw [<- e]
  exact H _ (U0 _)
 ·simp only [h,decide_false,UN,if_false,cZ,bG,dJ,cQ,aT,aE,dY,aJ]
  refine ⟨Vk _,?_⟩
  refine (RK (bB _ _)).mpr ?_
  by_cases h0:ns=[]
  ·have e:(ns == [])=true:=by rw [h0];rfl
   simp only [e,if_true,w_mRet,aT,aE,aF,aX]
   refine (dM (.inl (by omega))).mpr ((dM (.inr (by omega))).mpr ((cF (by decide)).mpr ?_))
   have e:cL ns i=i * i * 48271 % 2147483647:=by unfold cL;rw [if_neg h,if_pos h0]
   rw [<- e]
   exact H _ (aQ _ _)
  ·have e:(ns == [])=false:=by
    cases ns with
    | nil=>exact absurd rfl h0
    | cons=>rfl
   have hl:0<ns.length:=V8.mpr h0
   simp only [e,UN,if_false,cZ,bG,bU,w_mRet,aT,aE,aF,aX,aW,aM,aJ,Er,Uz]
   refine (cF (by omega)).mpr ?_
   have hm:0<=i % (ns.length:Int)/\i % (ns.length:Int)<ns.length:=⟨VI _ (by omega),VB _ (by omega)⟩
   rw [EL (zA hm.1 hm.2)]
   have e:cL ns i=((ns.getD (i % ns.length).toNat 0 % 2147483629+i * i * 69623) * 48271 % 2147483647) * ((ns.getD (i % ns.length).toNat 0 % 2147483629+i * i * 69623) * 48271 % 2147483647) % 2147483629:=by
    unfold cL;rw [if_neg h,if_neg h0]
   refine (cF (by decide)).mpr ((dM (.inl (by omega))).mpr ((dM (.inr (by omega))).mpr ?_))
   simp only [c8]
   refine (dM (.inr (by omega))).mpr ((cF (by decide)).mpr ?_)
   simp only [UH,UI,aE,aF]
   generalize hy:(ns.getD (i % ns.length).toNat 0 % 2147483629+i * i * 69623) * 48271 % 2147483647=y at e
   have hy1:0<=y/\y<2147483647:=by
    rw [<- hy];exact ⟨VI _ (by decide),VB _ (by decide)⟩
   refine (dM (.inl (by omega))).mpr ((cF (by decide)).mpr ?_)
   rw [<- e]
   exact H _ (aQ _ _)
noncomputable def gP (lo:Int)(n m:Nat):List (Int×Int):=(Vv n).flatMap fun (i:Nat)=>(Vv m).map fun (j:Nat)=>(lo+(i:Int),lo+(j:Int))
noncomputable def iX (lo x:Int)(m:Nat):List (Int×Int):=(Vv m).map fun (j:Nat)=>(x,lo+(j:Int))
theorem EW (lo:Int)(n m:Nat):gP lo (n+1) m=gP lo n m++iX lo (lo+(n:Int)) m:=by
 unfold gP iX;rw [a0r,a1W];simp
theorem EX (lo x:Int)(m:Nat):iX lo x (m+1)=iX lo x m++[(x,lo+(m:Int))]:=by
 unfold iX;rw [a0r,Vb];rfl
theorem EY (lo x:Int)(m:Nat):(iX lo x m).length=m:=by unfold iX;simp
theorem EZ (lo:Int)(m:Nat):∀ n:Nat,(gP lo n m).length=n * m
 | 0=>by simp [gP]
 | n+1=>by rw [EW,U5,EZ lo m n,EY,Z9]
theorem E4 {μ:Hm}{a:Nat}{c c':C}:(μ.set a c).set a c'=μ.set a c':=a3R ..
theorem dZ {μ:Hm}{a:Nat}{c c':C}(h:μ[a]? = some c):(μ.set a c')[a]? = some c':=by
 rw [VC (UA.mp h).1]
theorem zF (μ:Hm)(c c':C):(μ++[c]).set μ.length c'=μ++[c']:=by
 rw [Ze _ _ (UJ _)];simp
theorem E6 {μ:Hm}{a:Nat}{c:C}(h:μ[a]? = some c):μ.set a c=μ:=by
 obtain ⟨hl,rfl⟩:=UA.mp h
 exact List.set_getElem_self hl
noncomputable abbrev E7:MS:=dD (cT dN (aA 2) (aC (bP (aC (aA 3) (aC (aA 4) aD))) aD))
theorem RM (T:MT)(pr:Int->Int->Bool)(d0 d1:D)(a:Nat)(x:Int)(hT:∀ y μ Q,W (T [some d0,some d1,some (.loc a),some (.int x),some (.int y)] μ) Q↔Q (pr x y,μ))(lo:Int)(m:Nat)(ps:List (Int×Int))(hl:ps.length+m<=1000)(μ:Hm)(ha:μ[a]? = some (.lst (ps.map PP)))(o:Option D)(Q:Fl×aL×Hm->Prop)
  (stop:∀ o,Q (.nx,[some d0,some d1,some (.loc a),some (.int x),o],μ.set a (.lst ((ps++(iX lo x m).filter fun p=>pr p.1 p.2).map PP)))):W (eX (fZ lo m) (cH 4) (bF T E7 bJ) (m+1) 0 [some d0,some d1,some (.loc a),some (.int x),o] μ) Q:=by
 refine qU (fun i ρ μ'=>i<=m/\μ'=μ.set a (.lst ((ps++(iX lo x i).filter fun p=>pr p.1 p.2).map PP))/\∃ o,ρ=[some d0,some d1,some (.loc a),some (.int x),o]) ⟨Vk _,?_,o,rfl⟩ ?_ ?_
 ·simp only [iX,a3b,XD,a3d,a0u]
  exact (E6 ha).symm
 ·rintro i ρ μ1 hi ⟨_,rfl,o,rfl⟩
  refine ⟨_,rfl,?_⟩
  simp only [UH,UI,dJ]
  rw [hT]
  cases hb:pr x (lo+(i:Int)) with
  | false=>
   simp only [UN,if_false,cZ]
   refine ⟨hi,?_,_,rfl⟩
   rw [EX,WK]
   simp [hb]
  | true=>
   simp only [if_true,gE]
   refine gJ ?_
   simp only [aE,aF]
   refine ⟨gM (dZ ha),?_⟩
   simp only [aM,aJ,eS,aE,aF,gO,true_and]
   refine (jK (dZ ha) ?_).mpr ?_
   ·have:=VS (fun p=>pr p.1 p.2) (iX lo x i)
    rw [EY] at this
    rw [Uz,U5,U4]
    omega
   refine ⟨hi,?_,_,rfl⟩
   rw [E4,EX,WK]
   simp [hb,PP,P]
 ·rintro ρ μ1 ⟨_,rfl,o,rfl⟩
  exact stop o
theorem Fb (T:MT)(pr:Int->Int->Bool)(d0 d1:D)(a:Nat)(it:MI)(lo:Int)(m:Nat)(hit:∀ o1 o2 μ Q,W (it [some d0,some d1,some (.loc a),o1,o2] μ) Q↔Q (fZ lo m,m+1,μ))(hT:∀ x y μ Q,W (T [some d0,some d1,some (.loc a),some (.int x),some (.int y)] μ) Q↔Q (pr x y,μ))(n:Nat)(hl:n * m+m<=900)(μ:Hm)(ha:μ[a]? = some (.lst []))(Q:Fl×aL×Hm->Prop)
  (stop:∀ o1 o2,Q (.nx,[some d0,some d1,some (.loc a),o1,o2],μ.set a (.lst (((gP lo n m).filter fun p=>pr p.1 p.2).map PP)))):W (eX (fZ lo n) (cH 3) (cB it (cH 4) (bF T E7 bJ)) (n+1) 0 [some d0,some d1,some (.loc a),none,none] μ) Q:=by
 refine qU (fun i ρ μ'=>i<=n/\μ'=μ.set a (.lst (((gP lo i m).filter fun p=>pr p.1 p.2).map PP))/\∃ o1 o2,ρ=[some d0,some d1,some (.loc a),o1,o2]) ⟨Vk _,?_,none,none,rfl⟩ ?_ ?_
 ·simp only [gP,a3b,List.flatMap_nil,a3d,XD]
  exact (E6 ha).symm
 ·rintro i ρ μ1 hi ⟨_,rfl,o1,o2,rfl⟩
  refine ⟨_,rfl,?_⟩
  simp only [UH,UI,dQ]
  rw [hit]
  refine RM T pr d0 d1 a _ (hT _) lo m _ ?_ _ (dZ ha) _ _ fun o=>?_
  ·have h1:=VS (fun p=>pr p.1 p.2) (gP lo i m)
   rw [EZ] at h1
   have h2:i * m<=n * m:=Nat.mul_le_mul_right _ (YD hi)
   omega
  ·refine ⟨hi,?_,_,_,rfl⟩
   rw [E4,EW,WK]
 ·rintro ρ μ1 ⟨_,rfl,o1,o2,rfl⟩
  exact stop o1 o2
noncomputable def iI (x y:Int):Bool:=(x % 2 == 1&&y % 2 == 1)||(x % 2 == 0&&x % 4+y % 4 == 2)
noncomputable def zG (x y:Int):Bool:=(x % 4 == 2&&y % 2 == 1)||(x % 2 == 1&&y % 4 == 2)
noncomputable def bZ (w h:Int):List (Int×Int):=(gP 1 (4 * w - 1).toNat (4 * h - 1).toNat).filter fun p=>iI p.1 p.2
noncomputable def bV (w h:Int):List (Int×Int):=(gP 0 (4 * w).toNat (4 * h).toNat).filter fun p=>zG p.1 p.2
theorem Fc {w h:Int}(hw:1<=w/\w<=3)(hh:1<=h/\h<=3):(4 * w).toNat * (4 * h).toNat+(4 * h).toNat<=900/\(4 * w - 1).toNat * (4 * h - 1).toNat+(4 * h - 1).toNat<=900:=by
 have h1:(4 * w).toNat<=12:=by omega
 have h2:(4 * h).toNat<=12:=by omega
 have h3:=a0Y h1 h2
 have h4:(4 * w - 1).toNat * (4 * h - 1).toNat<=12 * 12:=a0Y (by omega) (by omega)
 omega
theorem Fd (k:Nat)(w h:Int)(hw:1<=w/\w<=3)(hh:1<=h/\h<=3)(μ:Hm)(Q:D×Hm->Prop)(H:Q (.loc μ.length,μ++[.lst ((bZ w h).map PP)])):W (f (k+1) "_law_inner" [.int w,.int h] μ) Q:=by
 rw [Ri,W_fin]
 simp only [bG,bU,dY,aJ]
 refine ⟨Vk _,?_⟩
 simp only [UH,UI,dQ,tZ,aM,aJ,aX,aT,aE,aF,mT]
 refine ⟨by omega,?_⟩
 refine Fb _ iI _ _ _ _ 1 (4 * h - 1).toNat (fun o1 o2 μ Q=>?_) (fun x y μ Q=>?_) (4 * w - 1).toNat (Fc hw hh).2 _ (bB _ _) _ fun o1 o2=>?_
 ·simp only [tZ,aM,aJ,aX,aT,aE,aF,mT]
  exact and_iff_right (by omega)
 ·simp only [oJ,yO,cQ,aT,aE,aF,aX,oP,mU,fA,c8]
  unfold iI
  cases x % 2 == 1<;>cases y % 2 == 1<;>cases x % 2 == 0<;>cases x % 4+y % 4 == 2<;>simp
 ·simp only [w_mRet,aE,aF]
  rw [zF]
  exact H
theorem zH (k:Nat)(w h:Int)(hw:1<=w/\w<=3)(hh:1<=h/\h<=3)(μ:Hm)(Q:D×Hm->Prop)(H:Q (.loc μ.length,μ++[.lst ((bV w h).map PP)])):W (f (k+1) "_law_quarters" [.int w,.int h] μ) Q:=by
 rw [Rl,W_fin]
 simp only [bG,bU,dY,aJ]
 refine ⟨Vk _,?_⟩
 simp only [UH,UI,dQ]
 rw [qS (j:=0)]
 simp only [aM,aJ,aX,aT,aE,aF,mT]
 refine ⟨by omega,?_⟩
 refine Fb _ zG _ _ _ _ 0 (4 * h).toNat (fun o1 o2 μ Q=>?_) (fun x y μ Q=>?_) (4 * w).toNat (Fc hw hh).1 _ (bB _ _) _ fun o1 o2=>?_
 ·rw [qS (j:=0)]
  simp only [aM,aJ,aX,aT,aE,aF,mT]
  exact and_iff_right (by omega)
 ·simp only [oJ,yO,cQ,aT,aE,aF,aX,oP,mU,fA,c8]
  unfold zG
  cases x % 4 == 2<;>cases y % 2 == 1<;>cases x % 2 == 1<;>cases y % 4 == 2<;>simp
 ·simp only [w_mRet,aE,aF]
  rw [zF]
  exact H
theorem RN:(6:Nat)<=UM:=by decide
theorem Fe {ρ:aL}{i1 i2 i3 i4 i5 i6:Nat}{a b c d e g:D}{μ:Hm}{Q:aL->Prop}:W (c7 [i1,i2,i3,i4,i5,i6] (.tup [a,b,c,d,e,g]) ρ μ) Q↔Q ((((((ρ.set i1 (some a)).set i2 (some b)).set i3 (some c)).set i4 (some d)).set i5 (some e)).set i6 (some g)):=W_some
noncomputable def fD (x y:Int):Int×Int:=if y % 4=0 then (0,y) else if x % 4=0 then (1,x) else if x % 4=y % 4 then (2,x - y) else (3,x+y)
theorem RP (k:Nat)(x y:Int)(μ:Hm)(Q:D×Hm->Prop):W (f (k+1) "_law_line" [P x y] μ) Q↔Q (PP (fD x y),μ):=by
 refine yZ ?_
 rw [Rj]
 unfold fD
 refine jL rfl (iW rfl (fun h=>?_) fun h=>iW rfl (fun h2=>?_) fun h2=>iW rfl (fun h3=>?_) fun h3=>?_)
 ·rw [if_pos (by simpa using h)];exact ⟨_,rfl,rfl⟩
 ·rw [if_neg (by simpa using h),if_pos (by simpa using h2)];exact ⟨_,rfl,rfl⟩
 ·rw [if_neg (by simpa using h),if_neg (by simpa using h2),if_pos (by simpa using h3)];exact ⟨_,rfl,rfl⟩
 ·rw [if_neg (by simpa using h),if_neg (by simpa using h2),if_neg (by simpa using h3)];exact ⟨_,rfl,rfl⟩
noncomputable def kH (d:D):Prop:=∃ a b c d' e g:Int,d=.tup [.int a,.int b,.int c,.int d',.int e,.int g]
theorem RQ (k:Nat)(d:D)(hd:kH d)(x y:Int)(hx:0<=x/\x<=100)(hy:0<=y/\y<=100)(μ:Hm)(Q:D×Hm->Prop)(H:∀ u v,Q (P u v,μ)):W (f (k+1) "_law_led" [d,P x y] μ) Q:=by
 obtain ⟨a,b,c,d',e,g,rfl⟩:=hd
 rw [EC,W_fin]
 simp only [bG,qR,aE,Fe,UH,UI,w_mRet,eS,aM,aJ,aT,aF,aX,iF,iT]
 refine (dM (.inr (by omega))).mpr ((dM (.inr (by omega))).mpr ?_)
 simp only [c8]
 refine (dM (.inr (by omega))).mpr ((dM (.inr (by omega))).mpr ?_)
 simp only [c8,gO,true_and]
 exact H _ _
theorem RR (k:Nat)(d:D)(hd:kH d)(u n:Int)(μ:Hm)(Q:D×Hm->Prop)(H:∀ d',kH d'->Q (d',μ)):W (f (k+1) "_law_over" [d,P u n] μ) Q:=by
 obtain ⟨a,b,c,d',e,g,rfl⟩:=hd
 rw [ED]
 refine jL rfl (jL rfl (iW rfl (fun _=>⟨_,rfl,?_⟩) fun _=>iW rfl (fun _=>⟨_,rfl,?_⟩) fun _=>iW rfl (fun _=>⟨_,rfl,?_⟩) fun _=>⟨_,rfl,?_⟩))<;>exact H _ ⟨_,_,_,_,_,_,rfl⟩
theorem RS {a b c d:Int}{i:Int}(h:0<=i/\i<4):∃ v:Int,atI [D.int a,.int b,.int c,.int d] i=some (.int v):=by
 have:i=0\/i=1\/i=2\/i=3:=by omega
 rcases this with rfl|rfl|rfl|rfl
 ·exact ⟨a,rfl⟩
 ·exact ⟨b,rfl⟩
 ·exact ⟨c,rfl⟩
 ·exact ⟨d,rfl⟩
theorem RT (k:Nat)(x y u:Int)(hu:0<=u/\u<4)(μ:Hm)(Q:D×Hm->Prop)(H:∀ (v:Int) μ',μ <+: μ'->Q (.int v,μ')):W (f (k+1) "_law_value" [P x y,.int u] μ) Q:=by
 rw [Rm,W_fin]
 simp only [w_mRet,aT,dY,aM,aJ,aE,aF,aX,iF,iT,tY,c8]
 refine ⟨by show (4:Nat)<=UM;decide,?_⟩
 obtain ⟨v,hv⟩:=RS (a:=y) (b:=x) (c:=x - y) (d:=x+y) hu
 refine (lH (bB _ _) hv).mpr ?_
 exact H _ _ (aQ _ _)
noncomputable def jN (p l:Int×Int):Int×Int:=if l.1=0 then (p.1,2 * l.2 - p.2) else if l.1=1 then (2 * l.2 - p.1,p.2) else if l.1=2 then (p.2+l.2,p.1 - l.2) else (l.2 - p.2,l.2 - p.1)
noncomputable def a8 (p:Int×Int):List Int:=[p.1,p.2]
theorem Ff:∀ ps:List (Int×Int),pR (ps.map PP)=some (ps.map a8)
 | []=>rfl
 | p::ps=>by
  rw [UQ]
  show (cS (PP p)).bind (fun k=>(pR (ps.map PP)).map (k::·))=_
  rw [Ff ps]
  rfl
theorem RU {ps:List (Int×Int)}(h:ps≠[]):kR (ps.map PP)=none:=by
 cases ps with
 | nil=>exact absurd rfl h
 | cons p ps=>rfl
theorem t9 {α:Type}(l:List α)(d:α):(Vv l.length).map (fun i=>l.getD i d)=l:=by
 refine a2N (by simp) fun i h1 h2=>?_
 simp [VA,h2]
theorem Fg {μ:Hm}{a:Nat}{ps:List (Int×Int)}{Q:D×Hm->Prop}(h:μ[a]? = some (.lst (ps.map PP)))(hl:ps.length<64)(H:∀ qs:List (Int×Int),qs.Perm ps->Q (.loc μ.length,μ++[.lst (qs.map PP)])):W (jG [.loc a] μ) Q:=by
 by_cases h0:ps=[]
 ·subst h0
  have e:fN []=[]:=by simp [fN]
  refine (Qv (is:=[]) h (by decide)).mpr ?_
  rw [e]
  exact H [] (.refl _)
 have hp:0<ps.length:=V8.mpr h0
 have e1:mL [.loc a] μ=none:=by
  simp only [mL,dW,h,UZ]
  rw [RU h0];rfl
 have pm:=gD (nT (ps.map a8)) hp
 have e2:(cE (nT (ps.map a8)) ps.length).map (fun i=>(ps.map PP).getD i .non)=((cE (nT (ps.map a8)) ps.length).map fun i=>ps.getD i (0,0)).map PP:=by
  rw [UU]
  refine Vx fun i hi=>?_
  have hi:i<ps.length:=VU.mp (pm.mem_iff.mp hi)
  simp [VA,hi]
 have e3:pS [.loc a] μ=some (.loc μ.length,μ++[.lst (((cE (nT (ps.map a8)) ps.length).map fun i=>ps.getD i (0,0)).map PP)]):=by
  simp only [pS,dW,h,UZ,Ff]
  rw [if_pos ⟨by rw [Uz];omega,by rw [Uz];omega,fun t ht=>by obtain ⟨p,_,rfl⟩:=UR.mp ht;simp [a8]⟩,Uz,e2]
 simp only [jG,e1,e3]
 refine W_some.mpr (H _ ?_)
 have:=pm.map fun i=>ps.getD i (0,0)
 rw [t9] at this
 exact this
noncomputable def cG (x y:Int):List (Int×Int):=if y % 4=0 then [(x,y - 1),(x,y+1)] else if x % 4=0 then [(x - 1,y),(x+1,y)] else [(x+2 - x % 4,y),(x,y+2 - y % 4)]
theorem Fh (k:Nat)(x y:Int)(μ:Hm)(Q:D×Hm->Prop)(H:∀ b q1 q2 μ',μ <+: μ'->μ'[b]? = some (.lst [PP q1,PP q2])->q1∈cG x y->q2∈cG x y->Q (.loc b,μ')):W (f (k+1) "_law_beside" [P x y] μ) Q:=by
 rw [Rk]
 unfold cG at H
 refine jL rfl (iW rfl (fun h=>⟨_,rfl,?_⟩) fun h=>iW rfl (fun h2=>⟨_,rfl,?_⟩) fun h2=>W_fin.mpr (w_mRet.mpr ?_))
 ·rw [if_pos (by simpa using h)] at H
  exact H _ (x,y - 1) (x,y+1) _ (aQ _ _) (bB _ _) (by simp) (by simp)
 ·rw [if_neg (by simpa using h),if_pos (by simpa using h2)] at H
  exact H _ (x - 1,y) (x+1,y) _ (aQ _ _) (bB _ _) (by simp) (by simp)
 ·rw [if_neg (by simpa using h),if_neg (by simpa using h2)] at H
  refine y8 rfl (Fg (ps:=[(x+2 - x % 4,y),(x,y+2 - y % 4)]) (bB _ _) (by simp) fun qs hq=>?_)
  match qs,hq,hq.length_eq with
  | [q1,q2],hq,_=>
   exact H _ q1 q2 _ ((aQ _ _).trans (aQ _ _)) (bB _ _) (hq.mem_iff.mp (by simp)) (hq.mem_iff.mp (by simp))
theorem RV {i:Int}(h:0<=i/\i<4):∃ v:Int,atI [D.int 3,.int 3,.int 4,.int 4] i=some (.int v)/\0<v:=by
 have:i=0\/i=1\/i=2\/i=3:=by omega
 rcases this with rfl|rfl|rfl|rfl
 ·exact ⟨3,rfl,by decide⟩
 ·exact ⟨3,rfl,by decide⟩
 ·exact ⟨4,rfl,by decide⟩
 ·exact ⟨4,rfl,by decide⟩
theorem RW (x y:Int):0<=(fD x y).1/\(fD x y).1<4:=by
 unfold fD
 split
 ·exact ⟨by simp,by simp⟩
 ·split
  ·exact ⟨by simp,by simp⟩
  ·split<;>exact ⟨by simp,by simp⟩
theorem iJ {es:List (Int×Int)}{i:Nat}{d:D}(h:(es.map PP)[i]? = some d):∃ p,es[i]? = some p/\d=PP p:=by
 rw [Vd] at h
 obtain ⟨p,h1,h2⟩:=UB.mp h
 exact ⟨p,h1,h2.symm⟩
theorem RX (k:Nat)(a:Nat)(es:List (Int×Int))(he:es.length<=1000)(n:Int)(μ:Hm)(ha:μ[a]? = some (.lst (es.map PP)))(Q:D×Hm->Prop)(H:∀ b (fs:List (Int×Int)) μ',μ <+: μ'->μ'[b]? = some (.lst (fs.map PP))->fs.length<=es.length->Q (.loc b,μ')):W (f (k+2) "_law_by_lines" [.loc a,.int n] μ) Q:=by
 rw [Ro,W_fin]
 simp only [bG,bU,dY,aJ]
 refine ⟨Vk _,?_⟩
 simp only [UH,UI,dQ,w_iSeq,aE]
 refine (c4 (aN (aQ _ _) ha)).mpr ?_
 refine fQ (fun i ρ μ'=>μ <+: μ'/\∃ fs o3 o4 o5,μ'[μ.length]? = some (.lst ((fs:List (Int×Int)).map PP))/\fs.length<=i/\i<=es.length/\ρ=[some (.loc a),some (.int n),some (.loc μ.length),o3,o4,o5]) ⟨aQ _ _,[],none,none,none,bB _ _,UJ _,Vk _,rfl⟩ (fun i ρ μ' h=>aN h.1 ha) ?_ ?_
 ·rintro i d ρ μ1 hd ⟨hp,fs,o3,o4,o5,hg,hf,_,rfl⟩
  obtain ⟨⟨x,y⟩,hx,rfl⟩:=iJ hd
  have hi:i<es.length:=(UA.mp hx).1
  refine ⟨_,rfl,?_⟩
  simp only [UH,UI,bG,qR,aW,aM,aJ,aE,aF]
  refine (RP k x y _ _).mpr ?_
  have hk:=RW x y
  generalize fD x y=l at hk
  obtain ⟨u,m⟩:=l
  dsimp only at hk
  simp only [PP,P,Qj,UH,UI,dJ,cQ,aT,aE,aF,aX]
  refine (dM (.inl (by decide))).mpr ((gG (by decide) (by decide)).mpr ?_)
  simp only [EF,c8]
  have h5:0<=m / 4 % 5/\m / 4 % 5<5:=⟨VI _ (by decide),VB _ (by decide)⟩
  refine (gG (by omega) (by omega)).mpr ?_
  simp only [dY,aM,aJ,aX]
  refine ⟨by decide,?_⟩
  obtain ⟨v,hv,hv0⟩:=RV hk
  refine (lH (bB _ _) hv).mpr ((cF hv0).mpr ?_)
  simp only [fA]
  have hp1:=hp.trans (aQ μ1 (C.lst [D.int 3,D.int 3,D.int 4,D.int 4]))
  have hg1:=aN (aQ μ1 (C.lst [D.int 3,D.int 3,D.int 4,D.int 4])) hg
  split
  ·simp only [gE]
   refine gJ ?_
   simp only [aE,aF]
   refine ⟨gM hg1,?_⟩
   simp only [aM,aJ,aE,aF]
   refine (jK hg1 (by rw [Uz,U4];omega)).mpr ?_
   refine ⟨eA hp1 (UJ _) _,fs++[(x,y)],_,_,_,?_,by rw [U5];exact Yp hf,hi,rfl⟩
   rw [dZ hg1,Vb]
   rfl
  ·simp only [cZ]
   exact ⟨hp1,fs,_,_,_,hg1,a0b hf,hi,rfl⟩
 ·rintro ρ μ1 ⟨hp,fs,o3,o4,o5,hg,hf,_,rfl⟩
  simp only [w_mRet,aE,aF]
  exact H _ _ _ hp hg (by simpa using hf)
theorem oR (kvs:List (List Int×D))(k:List Int):(bC kvs k).isSome=kvs.any fun p=>decide (p.1=k):=by
 unfold bC
 rw [YH,Yw,List.find?_isSome,List.any_eq_true]
theorem zI {kvs:List (List Int×D)}{k:List Int}{d:D}(h:bC kvs k=some d):(k,d)∈kvs:=by
 unfold bC at h
 obtain ⟨p,h1,rfl⟩:=UB.mp h
 have h2:=a3c h1
 have h3:=YL h1
 simp only [decide_eq_true_eq] at h2
 rw [<- h2]
 exact h3
theorem zJ (kvs:List (List Int×D))(k k':List Int)(d:D):(bC (cC kvs k d) k').isSome=(decide (k=k')||(bC kvs k').isSome):=by
 unfold cC
 split
 ·rename_i h
  have e:(kvs.map fun p=>if p.1=k then (p.1,d) else p).any (fun p=>decide (p.1=k'))=kvs.any fun p=>decide (p.1=k'):=by
   rw [a1t]
   congr 1
   funext p
   simp only [Function.comp]
   split<;>rfl
  rw [oR,e,oR kvs k']
  by_cases z:k=k'
  ·subst z
   rw [oR] at h
   rw [h];simp
  ·simp [z]
 ·rw [oR,List.any_append,oR]
  simp only [XQ,List.any_nil,ZK]
  exact Bool.or_comm _ _
theorem RY {kvs:List (List Int×D)}{k:List Int}{d:D}(h:(bC kvs k).isSome=true):(cC kvs k d).length=kvs.length:=by
 unfold cC;rw [if_pos h,Uz]
noncomputable def OkD (qs:List (Int×Int))(kvs:List (List Int×D)):Prop:=∀ p∈kvs,(∃ q∈qs,p.1=a8 q)/\kH p.2
theorem OkD.put {qs:List (Int×Int)}{kvs:List (List Int×D)}(h:OkD qs kvs){q:Int×Int}(hq:q∈qs){d:D}(hd:kH d):OkD qs (cC kvs (a8 q) d):=by
 intro p hp
 unfold cC at hp
 split at hp
 ·obtain ⟨p',h1,h2⟩:=UR.mp hp
  by_cases z:p'.1=a8 q
  ·rw [if_pos z] at h2
   rw [<- h2]
   exact ⟨⟨q,hq,z⟩,hd⟩
  ·rw [if_neg z] at h2
   rw [<- h2]
   exact h p' h1
 ·rcases Vz.mp hp with hp|hp
  ·exact h p hp
  ·rw [Vp.mp hp]
   exact ⟨⟨q,hq,rfl⟩,hd⟩
theorem OkD.val {qs:List (Int×Int)}{kvs:List (List Int×D)}(h:OkD qs kvs){k:List Int}(hs:(bC kvs k).isSome=true):∃ d,bC kvs k=some d/\kH d:=by
 obtain ⟨d,hd⟩:=XJ.mp hs
 exact ⟨d,hd,(h _ (zI hd)).2⟩
theorem RZ {lo:Int}{n m:Nat}{p:Int×Int}(h:p∈gP lo n m):(lo<=p.1/\p.1<lo+n)/\(lo<=p.2/\p.2<lo+m):=by
 unfold gP at h
 obtain ⟨i,hi,h⟩:=List.mem_flatMap.mp h
 obtain ⟨j,hj,rfl⟩:=UR.mp h
 have:=VU.mp hi
 have:=VU.mp hj
 dsimp only
 omega
theorem R0 {w h:Int}(hw:1<=w/\w<=3)(hh:1<=h/\h<=3){q:Int×Int}(hq:q∈bV w h):(0<=q.1/\q.1<=100)/\(0<=q.2/\q.2<=100):=by
 have:=RZ (Xh.mp hq).1
 omega
theorem cI {w:Int}(h:1<=w/\w<=3):w∈[(1:Int),2,3]:=by
 have:w=1\/w=2\/w=3:=by omega
 rcases this with rfl|rfl|rfl<;>decide
theorem oS:∀ w∈[(1:Int),2,3],∀ h∈[(1:Int),2,3],(bV w h≠[]/\(bV w h).length<=36)/\(bZ w h).length<=48/\∀ p∈bZ w h,∀ q∈cG p.1 p.2,q∈bV w h:=by decide +kernel
noncomputable def GrI (qs:List (Int×Int))(μ μ':Hm):Prop:=μ <+: μ'/\∃ kvs,μ'[μ.length]? = some (.dT kvs)/\OkD qs kvs/\kvs.length<=100/\∀ q∈qs,(bC kvs (a8 q)).isSome=true
theorem GrI.more {qs:List (Int×Int)}{μ μ1 μ2:Hm}(h:GrI qs μ μ1)(p:μ1 <+: μ2):GrI qs μ μ2:=
 let ⟨h1,kvs,h2,h3⟩:=h
 ⟨h1.trans p,kvs,aN p h2,h3⟩
theorem cR (q:Int×Int):cS (PP q)=some (a8 q):=rfl
theorem Fi {qs:List (Int×Int)}{kvs:List (List Int×D)}(h:OkD qs kvs){i:Nat}{d:D}(hd:(kvs.map fun k=>D.tup (k.1.map D.int))[i]? = some d):∃ q∈qs,d=PP q:=by
 rw [Vd] at hd
 obtain ⟨p,h1,rfl⟩:=UB.mp hd
 obtain ⟨⟨q,hq,e⟩,_⟩:=h p (Ve h1)
 exact ⟨q,hq,by rw [e];rfl⟩
theorem Fj (k:Nat){w h:Int}(hw:1<=w/\w<=3)(hh:1<=h/\h<=3){q:Int×Int}(hq:q∈bV w h){u:Int}(hu:0<=u/\u<4){μ μ':Hm}(G:GrI (bV w h) μ μ')(Q:D×Hm->Prop)(H:∀ (v:Int) μ'',μ' <+: μ''->Q (.int v,μ'')) :
  W (aI (.loc μ.length) (PP q) μ') fun p=>W (f (k+1) "_law_led" [p.1,PP q] p.2) fun r=>W (f (k+1) "_law_value" [r.1,.int u] r.2) Q:=by
 obtain ⟨_,kvs,hg,hO,_,ha⟩:=G
 obtain ⟨d,hd,h6⟩:=hO.val (ha q hq)
 refine (fC hg (cR q) hd).mpr ?_
 have hs:=R0 hw hh hq
 refine RQ k d h6 q.1 q.2 hs.1 hs.2 _ _ fun x y=>?_
 exact RT k x y u hu _ _ H
theorem R6 {qs:List (Int×Int)}{μ μ':Hm}{kvs:List (List Int×D)}(hp:μ <+: μ')(hg:μ'[μ.length]? = some (.dT kvs))(hO:OkD qs kvs)(hl:kvs.length<=100)(ha:∀ q∈qs,(bC kvs (a8 q)).isSome=true){q:Int×Int}(hq:q∈qs){d:D}(hd:kH d):GrI qs μ (μ'.set μ.length (.dT (cC kvs (a8 q) d))):=
 ⟨eA hp (UJ _) _,_,dZ hg,hO.put hq hd,by rw [RY (ha q hq)];exact hl,fun q' h'=>by rw [zJ,ha q' h',a3T]⟩
theorem lL {μ:Hm}{a b:Nat}{c:C}(h:a≠b):(μ.set a c)[b]? = μ[b]?:=by
 rw [a2E];simp [h]
theorem R8 (k:Nat){w h:Int}(hw:1<=w/\w<=3)(hh:1<=h/\h<=3)(b:Nat)(fs:List Int)(μ:Hm)(hb:μ[b]? = some (.lst (fs.map D.int)))(Q:D×Hm->Prop)(H:∀ μ',GrI (bV w h) μ μ'->Q (.loc μ.length,μ')):W (f (k+2) "_law_grown" [.int w,.int h,.loc b] μ) Q:=by
 have F:=oS w (cI hw) h (cI hh)
 rw [Rn,W_fin]
 simp only [bG,bU,lI,UH,UI,dQ,w_iSeq,aW,aM,aJ,aE,aF]
 refine zH k w h hw hh _ _ ?_
 refine (c4 (bB _ _)).mpr ?_
 have hbl:b<μ.length:=(UA.mp hb).1
 have hlen:(μ++[C.dT []]).length=μ.length+1:=by simp
 refine fQ (xs:=(bV w h).map PP) (fun i ρ μ'=>μ <+: μ'/\μ'[(μ++[C.dT []]).length]? = some (.lst ((bV w h).map PP))/\∃ kvs o4,μ'[μ.length]? = some (.dT kvs)/\OkD (bV w h) kvs/\kvs.length<=i/\i<=(bV w h).length/\(∀ q∈(bV w h).take i,(bC kvs (a8 q)).isSome=true)/\ρ=[some (.int w),some (.int h),some (.loc b),some (.loc μ.length),o4,none,none,none,none,none])
  ⟨(aQ _ _).trans (aQ _ _),bB _ _,[],none,aN (aQ _ _) (bB _ _),fun p hp=>(by cases hp),UJ _,Vk _,fun q hq=>(by simp at hq),rfl⟩ (fun i ρ μ' hI=>hI.2.1) ?_ ?_
 ·rintro i d ρ μ1 hd ⟨hp,hg2,kvs,o4,hg,hO,hl,hi',ha,rfl⟩
  obtain ⟨q,hq,rfl⟩:=iJ hd
  have hqm:q∈bV w h:=Ve hq
  have hi:i<(bV w h).length:=(UA.mp hq).1
  refine ⟨_,rfl,?_⟩
  simp only [UH,UI,oN,eS,aM,aJ,aX,aE,aF]
  refine ⟨RN,?_⟩
  refine (oO hg (cR q) (by have:=F.1.2;rw [U4];omega)).mpr ?_
  refine ⟨eA hp (UJ _) _,?_,_,_,dZ hg,hO.put hqm ⟨_,_,_,_,_,_,rfl⟩,?_,hi,?_,rfl⟩
  ·rw [lL (by omega)]
   exact hg2
  ·exact VG (NK _ _ _) (Yp hl)
  ·intro q' hq'
   rw [zJ]
   rw [YF,hq] at hq'
   rcases Vz.mp hq' with hq'|hq'
   ·rw [ha q' hq',a3T]
   ·have:q'=q:=by simpa using hq'
    subst this
    simp
 ·rintro ρ μ1 ⟨hp,hg2,kvs,o4,hg,hO,hl,hi',ha,rfl⟩
  have G:GrI (bV w h) μ μ1:=⟨hp,kvs,hg,hO,by have:=F.1.2;rw [Uz] at hl;omega,fun q hq=>ha q (by rw [Uz,V6];exact hq)⟩
  clear hg2 ha hO hg hl hi' kvs
  simp only [bG,dQ,w_iSeq,aE,aF]
  refine (c4 (aN G.1 hb)).mpr ?_
  refine fQ (xs:=fs.map D.int) (fun i ρ μ'=>GrI (bV w h) μ μ'/\∃ o4 o5 o6 o7 o8 o9,ρ=[some (.int w),some (.int h),some (.loc b),some (.loc μ.length),o4,o5,o6,o7,o8,o9]) ⟨G,_,_,_,_,_,_,rfl⟩ (fun i ρ μ' hI=>aN hI.1.1 hb) ?_ ?_
  ·rintro i d ρ μ2 hd ⟨G2,o4,o5,o6,o7,o8,o9,rfl⟩
   obtain ⟨n,_,rfl⟩:=zB (Ve hd)
   refine ⟨_,rfl,?_⟩
   simp only [UH,UI,bG,bU,aT,aE,aF,aX,mU,aW,aM,aJ]
   obtain ⟨hp2,kvs,hg,hO,hl,ha⟩:=id G2
   have hne:0<kvs.length:=by
    obtain ⟨q,hq⟩:=List.exists_mem_of_ne_nil _ F.1.1
    obtain ⟨d,hd⟩:=XJ.mp (ha q hq)
    exact List.length_pos_of_mem (zI hd)
   refine (yX hg).mpr ?_
   refine (gG (by decide) (by decide)).mpr ((Qu (aN (aQ _ _) hg)).mpr ((cF (by omega)).mpr ?_))
   have hm:0<=n / 16 % (kvs.length:Int)/\n / 16 % (kvs.length:Int)<kvs.length:=⟨VI _ (by omega),VB _ (by omega)⟩
   obtain ⟨dn,hdn⟩:∃ dn,(kvs.map fun k=>D.tup (k.1.map D.int))[(n / 16 % (kvs.length:Int)).toNat]? = some dn:=⟨_,UW (by rw [Uz];omega)⟩
   obtain ⟨qn,hqn,rfl⟩:=Fi hO hdn
   have hat:atI (kvs.map fun k=>D.tup (k.1.map D.int)) (n / 16 % (kvs.length:Int))=some (PP qn):=by
    unfold atI
    rw [qX hm.1 (by rw [Uz];exact hm.2),UZ]
    exact hdn
   refine (lH (bB _ _) hat).mpr ?_
   simp only [UH,UI,aE,aF]
   have hu:0<=n % 4/\n % 4<4:=⟨VI _ (by decide),VB _ (by decide)⟩
   refine Fj k hw hh hqn hu (G2.more (aQ _ _)) _ fun v μ3 p3=>?_
   refine (gG (by decide) (by decide)).mpr ((dM (.inr (by decide))).mpr ((gG (by decide) (by decide)).mpr ((cF (by decide)).mpr ((dM (.inr (by decide))).mpr ?_))))
   simp only [c8]
   have G3:=(G2.more (aQ _ _)).more p3
   generalize hn':v / 4 * 4+n / 4 % 2 * 4=N
   clear hn' hat hdn hqn hm hne hg hl ha hp2
   obtain ⟨_,kvs3,hg3,hO3,_⟩:=id G3
   simp only [UH,UI,dQ,w_iSeq,aW,aM,aJ,aE,aF]
   refine (yX hg3).mpr ((c4 (bB _ _)).mpr ?_)
   refine fQ (fun i ρ μ'=>GrI (bV w h) μ μ'/\μ'[μ3.length]? = some (.lst (kvs3.map fun k=>D.tup (k.1.map D.int)))/\∃ o4 o9,ρ=[some (.int w),some (.int h),some (.loc b),some (.loc μ.length),o4,some (.int n),some (.int (n % 4)),some (PP qn),some (.int N),o9]) ⟨G3.more (aQ _ _),bB _ _,_,_,rfl⟩ (fun i ρ μ' hI=>hI.2.1) ?_ ?_
   ·rintro j d ρ μ4 hd ⟨G4,hg4,o4,o9,rfl⟩
    obtain ⟨q,hq,rfl⟩:=Fi hO3 hd
    refine ⟨_,rfl,?_⟩
    simp only [UH,UI,bG,bU,aT,aW,aM,aJ,aE,aF]
    refine Fj k hw hh hq hu G4 _ fun v' μ5 p5=>?_
    simp only [Eh,UH,UI,dJ,cQ,aT,aE,aF,aX]
    refine (gG (by decide) (by decide)).mpr ((cF (by decide)).mpr ?_)
    simp only [fA,Qb]
    have G5:=G4.more p5
    have hg5:=aN p5 hg4
    split
    ·obtain ⟨hp5,kvs5,hh5,hO5,hl5,ha5⟩:=id G5
     simp only [oN,aW,aM,aJ,aT,aE,aF]
     obtain ⟨d,hd',h6⟩:=hO5.val (ha5 q hq)
     refine (fC hh5 (cR q) hd').mpr ?_
     simp only [eS,aM,aJ,aE,aF,gO,true_and]
     refine RR k d h6 (n % 4) N _ _ fun d' h6'=>?_
     refine (oO hh5 (cR q) (by rw [U4];omega)).mpr ?_
     refine ⟨R6 hp5 hh5 hO5 hl5 ha5 hq h6',?_,_,_,rfl⟩
     rw [lL]
     ·exact hg5
     ·intro z
      rw [z,hg5] at hh5
      cases hh5
    ·simp only [cZ]
     exact ⟨G5,hg5,_,_,rfl⟩
   ·rintro ρ μ4 ⟨G4,_,o4,o9,rfl⟩
    exact ⟨G4,_,_,_,_,_,_,rfl⟩
  ·rintro ρ μ2 ⟨G2,o4,o5,o6,o7,o8,o9,rfl⟩
   simp only [w_mRet,aE,aF]
   exact H _ G2
theorem Sa {d d':D}(h:kH d)(h':kH d'){μ:Hm}{Q:D×Hm->Prop}(H:∀ b,Q (.bl b,μ)):W (aZ true d d' μ) Q:=by
 obtain ⟨a1,a2,a3,a4,a5,a6,rfl⟩:=h
 obtain ⟨b1,b2,b3,b4,b5,b6,rfl⟩:=h'
 exact W_some.mpr (H _)
theorem Sb {neg:Bool}{μ:Hm}{a:Nat}{ps:List (Int×Int)}{q:Int×Int}{Q:D×Hm->Prop}(h:μ[a]? = some (.lst (ps.map PP))):W (dG neg (PP q) (.loc a) μ) Q↔Q (.bl (if neg then !(ps.any fun p=>p == q) else ps.any fun p=>p == q),μ):=by
 have e:dG neg (PP q) (.loc a) μ=some (.bl (if neg then !(ps.any fun p=>p == q) else ps.any fun p=>p == q),μ):=by
  simp only [dG,h]
  unfold l9
  have e:bI μ (.loc a)=some (ps.map PP):=by simp only [bI,h]
  rw [e]
  show (j7 μ (PP q) (ps.map PP)).map _=_
  rw [EU]
  rfl
 rw [e]
 exact W_some
theorem Se {μ:Hm}{a:Nat}{x:D}{k:Bool}{Q:D×Hm->Prop}(h:μ[a]? = some (.lst [x])):W (bH (.loc a) (.int (if k then 1 else 0)) μ) Q↔Q (.loc μ.length,μ++[.lst (if k then [x] else [])]):=by
 have:bH (.loc a) (.int (if k then 1 else 0)) μ=some (.loc μ.length,μ++[.lst (if k then [x] else [])]):=by
  cases k with
  | true=>
   simp only [bH,h,if_true]
   rw [if_pos ⟨by decide,by decide,by show (1:Nat)<=UM;decide⟩]
   rfl
  | false=>
   simp only [bH,h,UN,if_false]
   rw [if_pos ⟨by decide,by decide,by show (0:Nat)<=UM;decide⟩]
   rfl
 rw [this]
 exact W_some
noncomputable abbrev RD (ns:List Int)(w h:Int)(c e:Nat)(v n:Int)(o7 o8 o9 o10 o11 o12 o13 o14:Option D):aL:=[some (.rol (ns.map D.int)),some (.int w),some (.int h),some (.loc c),some (.loc e),some (.int v),some (.int n),o7,o8,o9,o10,o11,o12,o13,o14]
theorem Sf (k:Nat)(ns:List Int)(w h:Int)(c e:Nat)(v n:Int)(es:List (Int×Int))(hes:es.length<=48)(μ:Hm)(he:μ[e]? = some (.lst (es.map PP)))(Q:Fl×aL×Hm->Prop)
  (H:∀ b (fs:List (Int×Int)) ρ μ',μ <+: μ'->μ'[b]? = some (.lst (fs.map PP))->fs.length<=49->Q (.rt (.loc b),ρ,μ')) :
  W (aH (aV 7 (b7 aD)) (aH (cB (mI (aC (aA 4) aD)) (c7 [8,9]) (aH (aV 10 (aB bK (aB bH (aA 6) (aB bK (aB bH (mC (.int 2)) (aA 8)) (mC (.int 1)))) (aB bH (aG (f (k+1) "_law_cell") (aC (aA 0) (aC (aB bK (mC (.int 3)) (aB aY (aA 8) (mC (.int 5)))) aD))) (aB bK (aB bH (aA 8) (aA 8)) (mC (.int 5)))))) (bF (aR (aB iQ (aB aY (aB aY (aA 10) (mC (.int 10007))) (mC (.int 7))) (aB aY (aB dS (aG (f (k+1) "_law_cell") (aC (aA 0) (aC (mC (.int 1)) aD))) (mC (.int 5))) (mC (.int 8))))) (dD (cT dN (aA 7) (aC (aA 9) aD))) bJ))) (aS (aA 7))) (RD ns w h c e v n none none none none none none none none) μ) Q:=by
 simp only [bG,bU,dY,aJ,UH,UI]
 refine ⟨Vk _,?_⟩
 simp only [dQ]
 refine Ex ?_
 simp only [aM,aJ,aE,aF]
 refine ⟨e,es.map PP,rfl,aN (aQ _ _) he,?_⟩
 refine yU (fun i ρ μ'=>μ <+: μ'/\∃ fs o8 o9 o10,μ'[μ.length]? = some (.lst ((fs:List (Int×Int)).map PP))/\fs.length<=i/\i<=es.length/\ρ=RD ns w h c e v n (some (.loc μ.length)) o8 o9 o10 none none none none) ⟨aQ _ _,[],none,none,none,bB _ _,UJ _,Vk _,rfl⟩ (fun i ρ μ' hI=>aN hI.1 he) ?_ ?_
 ·rintro i d ρ μ1 hd ⟨hp,fs,o8,o9,o10,hg,hf,_,rfl⟩
  obtain ⟨q,hq,rfl⟩:=iJ hd
  have hi:i<es.length:=(UA.mp hq).1
  refine ⟨RD ns w h c e v n (some (.loc μ.length)) (some (.int i)) (some (PP q)) o10 none none none none,rfl,?_⟩
  have h5:0<=(i:Int) % 5/\(i:Int) % 5<5:=⟨VI _ (by decide),VB _ (by decide)⟩
  have hs:=EV (i:=(i:Int)) (by omega)
  simp only [RD,UH,UI,bG,bU,aT,aE,aF,aX,EE,c8]
  refine (dM (.inr (by omega))).mpr ?_
  simp only [aW,aM,aJ,aE,aF,aT,aX,EF,c8]
  refine iH k ns _ (by omega) _ _ fun μ2 p2=>?_
  have hi2:-(2 ^ 64)<(i:Int)/\(i:Int)<2 ^ 64:=by omega
  refine (dM (.inl hi2)).mpr ?_
  simp only [c8]
  refine (dM (.inr (by omega))).mpr ?_
  simp only [c8,UH,UI,dJ,cQ,aT,aE,aF,aX]
  refine (cF (by decide)).mpr ((cF (by decide)).mpr ?_)
  simp only [aW,aM,aJ,aE,aF,aX]
  refine iH k ns _ (by decide) _ _ fun μ3 p3=>?_
  refine (gG (by decide) (by decide)).mpr ((cF (by decide)).mpr ?_)
  simp only [yP]
  have hp1:=hp.trans (p2.trans p3)
  have hg1:=aN (p2.trans p3) hg
  split
  ·simp only [gE]
   refine gJ ?_
   simp only [aE,aF]
   refine ⟨gM hg1,?_⟩
   simp only [aM,aJ,aE,aF]
   refine (jK hg1 (by rw [Uz,U4];omega)).mpr ?_
   refine ⟨eA hp1 (UJ _) _,fs++[q],_,_,_,?_,by rw [U5];exact Yp hf,hi,rfl⟩
   rw [dZ hg1,Vb]
   rfl
  ·simp only [cZ]
   exact ⟨hp1,fs,_,_,_,hg1,a0b hf,hi,rfl⟩
 ·rintro ρ μ1 ⟨hp,fs,o8,o9,o10,hg,hf,_,rfl⟩
  simp only [w_mRet,aE,aF]
  exact H _ fs _ _ hp hg (by rw [Uz] at hf;omega)
theorem Sg (k:Nat)(ns:List Int){w h:Int}(hw:1<=w/\w<=3)(hh:1<=h/\h<=3)(c e:Nat)(v n:Int)(μ0 μ:Hm)(G:GrI (bV w h) μ0 μ)(he:μ[e]? = some (.lst ((bZ w h).map PP)))(R:MS)(Q:Fl×aL×Hm->Prop)
  (H:∀ (fs:List (Int×Int)) o9 o13 o14 μ',μ <+: μ'->μ'[μ.length]? = some (.lst (fs.map PP))->fs.length<=48->W (R (RD ns w h c e v n none none o9 none (some (.loc μ0.length)) (some (.loc μ.length)) o13 o14) μ') Q) :
  W (aH (aV 12 (b7 aD)) (aH (cB (b8 (aA 4)) (cH 9) (aH (fK (aG (f (k+1) "_law_beside") (aC (aA 9) aD)) (c7 [13,14])) (bF (aR (aB (aZ true) (aB aI (aA 11) (aA 13)) (aB aI (aA 11) (aA 14)))) (dD (cT dN (aA 12) (aC (aA 9) aD))) bJ))) R) (RD ns w h c e v n none none none none (some (.loc μ0.length)) none none none) μ) Q:=by
 have F:=oS w (cI hw) h (cI hh)
 simp only [RD,bG,bU,dY,aJ,UH,UI]
 refine ⟨Vk _,?_⟩
 simp only [dQ,w_iSeq,aE,aF]
 refine (c4 (aN (aQ _ _) he)).mpr ?_
 refine fQ (fun i ρ μ'=>μ <+: μ'/\∃ fs o9 o13 o14,μ'[μ.length]? = some (.lst ((fs:List (Int×Int)).map PP))/\fs.length<=i/\i<=(bZ w h).length/\ρ=RD ns w h c e v n none none o9 none (some (.loc μ0.length)) (some (.loc μ.length)) o13 o14) ⟨aQ _ _,[],none,none,none,bB _ _,UJ _,Vk _,rfl⟩ (fun i ρ μ' hI=>aN hI.1 he) ?_ ?_
 ·rintro i d ρ μ1 hd ⟨hp,fs,o9,o13,o14,hg,hf,_,rfl⟩
  obtain ⟨⟨x,y⟩,hq,rfl⟩:=iJ hd
  have hi:i<(bZ w h).length:=(UA.mp hq).1
  refine ⟨_,rfl,?_⟩
  simp only [RD,UH,UI,bG,qR,aW,aM,aJ,aE,aF]
  refine Fh k x y _ _ fun b q1 q2 μ2 p2 hb h1 h2=>?_
  refine (Ei hb).mpr ?_
  simp only [UH,UI,dJ,cQ,aT,aE,aF]
  have hin:=Ve hq
  have m1:=F.2.2 (x,y) hin q1 h1
  have m2:=F.2.2 (x,y) hin q2 h2
  obtain ⟨_,kvs,hk,hO,_,ha⟩:=(G.more hp).more p2
  obtain ⟨d1,e1,s1⟩:=hO.val (ha q1 m1)
  obtain ⟨d2,e2,s2⟩:=hO.val (ha q2 m2)
  refine (fC hk (cR q1) e1).mpr ((fC hk (cR q2) e2).mpr (Sa s1 s2 fun bb=>?_))
  have hp1:=hp.trans p2
  have hg1:=aN p2 hg
  cases bb with
  | true=>
   simp only [if_true,gE]
   refine gJ ?_
   simp only [aE,aF]
   refine ⟨gM hg1,?_⟩
   simp only [aM,aJ,aE,aF]
   refine (jK hg1 (by have:=F.2.1;rw [Uz,U4];omega)).mpr ?_
   refine ⟨eA hp1 (UJ _) _,fs++[(x,y)],_,_,_,?_,by rw [U5];exact Yp hf,hi,rfl⟩
   rw [dZ hg1,Vb]
   rfl
  | false=>
   simp only [UN,if_false,cZ]
   exact ⟨hp1,fs,_,_,_,hg1,a0b hf,hi,rfl⟩
 ·rintro ρ μ1 ⟨hp,fs,o9,o13,o14,hg,hf,_,rfl⟩
  exact H fs _ _ _ _ hp hg (by have:=F.2.1;rw [Uz] at hf;omega)
theorem Sh {es:List (Int×Int)}{i:Int}(h:0<=i/\i<es.length):∃ p,atI (es.map PP) i=some (PP p):=by
 have hl:i.toNat<es.length:=by omega
 refine ⟨es[i.toNat],?_⟩
 unfold atI
 rw [qX h.1 (by rw [Uz];exact h.2),UZ,Vd,UW hl]
 rfl
theorem Si (ns:List Int)(w h:Int)(c e b:Nat)(v n:Int)(o9 g o13 o14:Option D)(es fs:List (Int×Int))(hel:es.length<=48)(hfl:fs.length<=48)(μ:Hm)(he:μ[e]? = some (.lst (es.map PP)))(hb:μ[b]? = some (.lst (fs.map PP)))(Q:Fl×aL×Hm->Prop)
  (H:∀ b (fs:List (Int×Int)) ρ μ',μ <+: μ'->μ'[b]? = some (.lst (fs.map PP))->fs.length<=49->Q (.rt (.loc b),ρ,μ')) :
  W (aH (bF (iO (aR (aB (aZ false) (aA 5) (mC (.int 1)))) (aR (aB (aZ true) (aA 4) (b7 aD)))) (aH (aV 9 (aB aI (aA 4) (aB aY (aB dS (aA 6) (mC (.int 6))) (aG d9 (aC (aA 4) aD))))) (aV 12 (aG jG (aC (aB bK (d5 (b8 (aA 12)) (aR (aB (aZ true) (aA 15) (aA 9))) (aA 15)) (aB bH (b7 (aC (aA 9) aD)) (aG nK (aC (aB (dG true) (aA 9) (aA 12)) aD)))) aD)))) bJ) (aS (aA 12)) (RD ns w h c e v n none none o9 none g (some (.loc b)) o13 o14) μ) Q:=by
 simp only [RD,bG,dJ,yO,cQ,aT,aE,aF,aX,fA]
 cases hv:v == 1 with
 | false=>
  simp only [UN,if_false,cZ,w_mRet,aE,aF]
  exact H b fs _ _ (U0 _) hb (by omega)
 | true=>
  simp only [if_true,dY,aJ]
  refine ⟨Vk _,?_⟩
  refine (Eo (qs:=[]) (aN (aQ _ _) he) (bB _ _)).mpr ?_
  simp only [if_true]
  cases hz:!(es == []) with
  | false=>
   simp only [UN,if_false,cZ,w_mRet,aE,aF]
   exact H b fs _ _ (aQ _ _) (aN (aQ _ _) hb) (by omega)
  | true=>
   have h0:es≠[]:=fun z=>by rw [z] at hz;simp at hz
   have hl:0<es.length:=V8.mpr h0
   generalize hμ:μ++[C.lst (a3m PP [])]=μ1
   have p1:μ <+: μ1:=by rw [<- hμ];exact aQ _ _
   have he1:=aN p1 he
   have hb1:=aN p1 hb
   simp only [if_true,bG,bU,aT,aE,aF,aX,aW,aM,aJ]
   refine (gG (by decide) (by decide)).mpr ((mS he1).mpr ?_)
   rw [Uz]
   refine (cF (by omega)).mpr ?_
   obtain ⟨p,hp⟩:=Sh (es:=es) (i:=n / 6 % (es.length:Int)) ⟨VI _ (by omega),VB _ (by omega)⟩
   refine (lH he1 hp).mpr ?_
   simp only [UH,UI]
   refine fB (xs:=fs.map PP) (p:=fun d=>!((dR d).1 == p.1&&((dR d).2 == p.2&&true))) (v:=fun d=>d) ?_
   simp only [w_iSeq,aE,aF]
   refine (c4 hb1).mpr ⟨iV hb1,rfl,by rw [Uz,U4];omega,fun d μ' hd hp=>?_,fun d μ' hd _ hp=>?_,fun μ2 p2 g2=>?_⟩
   ·obtain ⟨x,y,rfl⟩:=jM hd
    simp only [Vc,Vf,cQ,aT,aE,aF]
    exact w_neP.mpr ⟨rfl,U0 _⟩
   ·simp only [Vc,Vf,aE,aF]
    exact ⟨trivial,U0 _⟩
   ·rw [lJ fun q=>!(q.1 == p.1&&(q.2 == p.2&&true))] at g2
    generalize hF:fs.filter (fun q=>!(q.1 == p.1&&(q.2 == p.2&&true)))=F at g2
    have hFl:F.length<=48:=by rw [<- hF];exact VG (VS _ _) hfl
    simp only [dY,aM,aJ,aE,aF]
    refine ⟨by show (1:Nat)<=UM;decide,?_⟩
    refine (Sb (aN (p2.trans (aQ _ _)) hb1)).mpr ?_
    simp only [Qy,if_true]
    generalize hB:(!(fs.any fun q=>q == p))=B
    refine (Se (bB _ _)).mpr ?_
    have e2:(if B=true then [PP p] else [])=(if B=true then [p] else []).map PP:=by cases B<;>rfl
    rw [e2]
    have g3:=aN ((aQ μ2 (C.lst [PP p])).trans (aQ _ (C.lst ((if B=true then [p] else []).map PP)))) g2
    have hBl:(if B=true then [p] else ([]:List (Int×Int))).length<=1:=by cases B<;>simp
    refine (qV g3 (bB _ _) (by rw [Uz,Uz,U4];omega)).mpr ?_
    rw [<- Vb]
    refine Fg (bB _ _) (by rw [U5];omega) fun qs hqs=>?_
    simp only [w_mRet,aE,aF]
    refine H _ qs _ _ (p1.trans (p2.trans ((aQ _ _).trans ((aQ _ _).trans ((aQ _ _).trans (aQ _ _)))))) (bB _ _) ?_
    rw [hqs.length_eq,U5]
    omega
theorem Sj (k:Nat)(ns:List Int){w h:Int}(hw:1<=w/\w<=3)(hh:1<=h/\h<=3)(c:Nat)(ws:List Int)(hws:ws≠[])(μ:Hm)(hc:μ[c]? = some (.lst (ws.map D.int)))(Q:D×Hm->Prop)
  (H:∀ b (fs:List (Int×Int)) μ',μ <+: μ'->μ'[b]? = some (.lst (fs.map PP))->fs.length<=49->Q (.loc b,μ')):W (f (k+3) "_law_creased" [.rol (ns.map D.int),.int w,.int h,.loc c] μ) Q:=by
 have F:=oS w (cI hw) h (cI hh)
 have hwl:0<ws.length:=V8.mpr hws
 rw [Rq,W_fin,bG,bU]
 simp only [aW,aM,aJ,aE,aF]
 refine Fd (k+1) w h hw hh _ _ ?_
 generalize hμ:μ++[C.lst ((bZ w h).map PP)]=μ1
 have p1:μ <+: μ1:=by rw [<- hμ];exact aQ _ _
 have he1:μ1[μ.length]? = some (.lst ((bZ w h).map PP)):=by rw [<- hμ];exact bB _ _
 dsimp only [UH,UI]
 rw [bG,bU]
 simp only [aT,aW,aM,aJ,aE,aF,aX]
 refine iH (k+1) ns 1 (by decide) _ _ fun μ2 p2=>?_
 refine (mS (aN (p1.trans p2) hc)).mpr ?_
 rw [Uz]
 refine (cF (by omega)).mpr ?_
 have hm:0<=cL ns 1 % (ws.length:Int)/\cL ns 1 % (ws.length:Int)<ws.length:=⟨VI _ (by omega),VB _ (by omega)⟩
 refine (lH (aN (p1.trans p2) hc) (zA hm.1 hm.2)).mpr ?_
 generalize ws.getD (cL ns 1 % (ws.length:Int)).toNat 0=v
 dsimp only [UH,UI]
 rw [bG,bU]
 simp only [aW,aM,aJ,aE,aF,aX]
 refine iH (k+1) ns 2 (by decide) _ _ fun μ3 p3=>?_
 generalize cL ns 2=n
 dsimp only [UH,UI]
 have q3:=p1.trans (p2.trans p3)
 have he3:=aN (p2.trans p3) he1
 rw [bG,dJ]
 simp only [cQ,aT,aE,aF,aX,fA]
 cases h3:v == 3 with
 | true=>
  simp only [if_true,w_mRet,aW,aM,aJ,aE,aF]
  exact RX k _ (bZ w h) (by have:=F.2.1;omega) n _ he3 _ fun b fs μ4 p4 g4 l4=>H b fs μ4 (q3.trans p4) g4 (by have:=F.2.1;omega)
 | false=>
  simp only [UN,if_false,cZ]
  rw [bG,dJ]
  simp only [cQ,aT,aE,aF,aX,fA]
  cases h4:v == 4 with
  | true=>
   simp only [if_true]
   exact Sf (k+1) ns w h c _ v n (bZ w h) F.2.1 _ he3 _ fun b fs ρ μ4 p4 g4 l4=>H b fs μ4 (q3.trans p4) g4 l4
  | false=>
   simp only [UN,if_false,cZ]
   rw [bG,bU]
   simp only [aW,aM,aJ,aE,aF]
   refine fB (xs:=gH 0 (n % 6).toNat) (p:=fun _=>true) (v:=fun d=>.int (cL ns (3+kJ d))) ?_
   rw [qS (j:=0)]
   simp only [aM,aJ,aT,aE,aF,aX,Rz]
   have h6:0<=n % 6/\n % 6<6:=⟨VI _ (by decide),VB _ (by decide)⟩
   refine ⟨by omega,Ek,by simp [gH],by rw [U4];simp [gH];omega,fun d μ' hd hp=>w_mTrue.mpr ⟨rfl,U0 _⟩,fun d μ' hd _ hp=>?_,fun μ4 p4 g4=>?_⟩
   ·obtain ⟨j,hj,rfl⟩:=EG hd
    simp only [Vc,Vf,aW,aM,aJ,aE,aF,aT,aX,c8]
    exact iH (k+1) ns _ (by omega) _ _ fun μ'' p''=>⟨rfl,p''⟩
   ·have g4':μ4[μ3.length]? = some (.lst (((gH 0 (n % 6).toNat).map fun d=>cL ns (3+kJ d)).map D.int)):=by
     rw [g4,oQ,UU]
     rfl
    refine R8 k hw hh _ _ _ g4' _ fun μ5 G=>?_
    dsimp only [UH,UI]
    refine Sg (k+1) ns hw hh c _ v n μ4 μ5 G (aN (p4.trans G.1) he3) _ _ fun fs o9 o13 o14 μ6 p6 g6 l6=>?_
    exact Si ns w h c _ _ v n o9 _ o13 o14 (bZ w h) fs F.2.1 l6 _ (aN (p4.trans (G.1.trans p6)) he3) g6 _ fun b fs' ρ μ7 p7 g7 l7=>H b fs' μ7 (q3.trans (p4.trans (G.1.trans (p6.trans p7)))) g7 l7
noncomputable def MD (m:(Int×Int)×Str):D:=.tup [PP m.1,.str m.2]
theorem Sk {i:Int}(h:0<=i/\i<3):∃ c,atI (X9 "hvo").cps.toList i=some c:=by
 have:i=0\/i=1\/i=2:=by omega
 rcases this with rfl|rfl|rfl
 ·exact ⟨104,by decide +kernel⟩
 ·exact ⟨118,by decide +kernel⟩
 ·exact ⟨111,by decide +kernel⟩
theorem Sm:(X9 "hvo").length<=UM:=by decide +kernel
theorem Fm:(3:Nat)<=UM:=by decide
theorem Sn {i:Int}(h:0<=i/\i<3){μ:Hm}{Q:D×Hm->Prop}(H:∀ s,Q (.str s,μ)):W (aI (.str "hvo") (.int i) μ) Q:=by
 obtain ⟨c,hc⟩:=Sk h
 exact (Qx Sm hc).mpr (H _)
noncomputable def uA (k:Int)(p:Int×Int):Int×Int:=if k=0 then (p.1,-p.2) else if k=1 then (-p.1,p.2) else if k=2 then (p.2,p.1) else (-p.2,-p.1)
noncomputable def lM (k x y:Int):Int:=if k=0 then y else if k=1 then x else if k=2 then x - y else x+y
theorem So (k x y:Int)(p:Int×Int):jN (x+p.1,y+p.2) (k,lM k x y)=(x+(uA k p).1,y+(uA k p).2):=by
 unfold jN uA lM
 dsimp only
 by_cases h0:k=0
 ·simp only [h0,if_true]
  exact VT rfl (by dsimp only;omega)
 ·by_cases h1:k=1
  ·subst h1
   simp only [if_true,h0,if_false]
   exact VT (by dsimp only;omega) rfl
  ·by_cases h2:k=2
   ·subst h2
    simp only [if_true,h0,h1,if_false]
    exact VT (by dsimp only;omega) (by dsimp only;omega)
   ·simp only [h0,h1,h2,if_false]
    exact VT (by dsimp only;omega) (by dsimp only;omega)
noncomputable def oT (m:Int×Int->Bool)(es:List (Int×Int))(p:Int×Int):Int×Int:=es.foldl (fun p e=>if m e then jN p (fD e.1 e.2) else p) p
noncomputable def oU:List Int->List Bool->Int×Int->Int×Int
 | k::ks,b::bs,p=>oU ks bs (if b then uA k p else p)
 | _,_,p=>p
theorem Fn (m:Int×Int->Bool)(x y:Int):∀ (l:List (Int×Int))(ks:List Int)(p:Int×Int),ks.length=l.length->(∀ q∈l.zip ks,fD (x+q.1.1) (y+q.1.2)=(q.2,lM q.2 x y))->
  oT m (mv x y l) (x+p.1,y+p.2)=(x+(oU ks ((mv x y l).map m) p).1,y+(oU ks ((mv x y l).map m) p).2)
 | [],[],p,_,_=>rfl
 | [],_::_,_,h,_=>by simp at h
 | _::_,[],_,h,_=>by simp at h
 | o::l,k::ks,p,h,hl=>by
  have h1:=hl (o,k) (by simp)
  have ih:=fun p=>Fn m x y l ks p (by simpa using h) fun q hq=>hl q (by rw [XU];exact UX _ hq)
  unfold oT mv at ih ⊢
  simp only [UQ,WR,oU]
  dsimp only at h1
  cases hm:m (x+o.1,y+o.2) with
  | true=>
   simp only [if_true]
   rw [h1,So]
   exact ih _
  | false=>
   simp only [UN,if_false]
   exact ih p
noncomputable def K8:List Int:=[0,2,1,3,0,2,1,3]
noncomputable def K4:List Int:=[2,3,2,3]
theorem Sq {x y:Int}(hx:x % 4=0)(hy:y % 4=0):∀ q∈E8.zip K8,fD (x+q.1.1) (y+q.1.2)=(q.2,lM q.2 x y):=by
 have e:∀ {a b:Int}{k n:Int},(if b % 4=0 then (0,b) else if a % 4=0 then (1,a) else if a % 4=b % 4 then (2,a - b) else (3,a+b):Int×Int)=(k,n)->fD a b=(k,n):=fun h=>h
 intro q hq
 simp only [E8,K8,XU,ZM,U6,W4,or_false] at hq
 rcases hq with rfl|rfl|rfl|rfl|rfl|rfl|rfl|rfl<;>refine e ?_<;>dsimp only [lM]
 ·rw [if_pos (by omega)];exact VT rfl (by simp)
 ·rw [if_neg (by omega),if_neg (by omega),if_pos (by omega)];exact VT rfl (by simp<;>omega)
 ·rw [if_neg (by omega),if_pos (by omega)];exact VT rfl (by simp)
 ·rw [if_neg (by omega),if_neg (by omega),if_neg (by omega)];exact VT rfl (by simp<;>omega)
 ·rw [if_pos (by omega)];exact VT rfl (by simp)
 ·rw [if_neg (by omega),if_neg (by omega),if_pos (by omega)];exact VT rfl (by simp<;>omega)
 ·rw [if_neg (by omega),if_pos (by omega)];exact VT rfl (by simp)
 ·rw [if_neg (by omega),if_neg (by omega),if_neg (by omega)];exact VT rfl (by simp<;>omega)
theorem Ss {x y:Int}(hx:x % 4=2)(hy:y % 4=2):∀ q∈F4.zip K4,fD (x+q.1.1) (y+q.1.2)=(q.2,lM q.2 x y):=by
 have e:∀ {a b:Int}{k n:Int},(if b % 4=0 then (0,b) else if a % 4=0 then (1,a) else if a % 4=b % 4 then (2,a - b) else (3,a+b):Int×Int)=(k,n)->fD a b=(k,n):=fun h=>h
 intro q hq
 simp only [F4,K4,XU,ZM,U6,W4,or_false] at hq
 rcases hq with rfl|rfl|rfl|rfl<;>refine e ?_<;>dsimp only [lM]
 ·rw [if_neg (by omega),if_neg (by omega),if_pos (by omega)];exact VT rfl (by simp<;>omega)
 ·rw [if_neg (by omega),if_neg (by omega),if_neg (by omega)];exact VT rfl (by simp<;>omega)
 ·rw [if_neg (by omega),if_neg (by omega),if_pos (by omega)];exact VT rfl (by simp<;>omega)
 ·rw [if_neg (by omega),if_neg (by omega),if_neg (by omega)];exact VT rfl (by simp<;>omega)
noncomputable def D3:List (Int×Int):=[(0,0),(2,1),(1,-2)]
noncomputable def gQ (m:Int×Int->Bool)(x y:Int):Bool:=D3.all fun d=>oT m (mv x y (cK x)) (x+d.1,y+d.2) == (x+d.1,y+d.2)
noncomputable def uB (ks:List Int)(bs:List Bool):Bool:=D3.all fun d=>oU ks bs d == d
noncomputable def jO (bs:List Bool):List Int:=((Vv bs.length).filter fun i=>bs.getD i false).map fun (i:Nat)=>(i:Int)
noncomputable def mX (bs:List Bool):List Int:=((jO bs).zip ((jO bs).drop 1++((jO bs).take 1).map fun s=>s+(bs.length:Int))).map fun p=>(p.2 - p.1) * (8 / (bs.length:Int))
theorem Su:∀ a b c d e g h i:Bool,iG (mX [a,b,c,d,e,g,h,i])=uB K8 [a,b,c,d,e,g,h,i]:=by decide +kernel
theorem Sv:∀ a b c d:Bool,iG (mX [a,b,c,d])=uB K4 [a,b,c,d]:=by decide +kernel
theorem Fo {m:Int×Int->Bool}{x y:Int}{l:List (Int×Int)}{ks:List Int}(he:cK x=l)(hk:ks.length=l.length)(hl:∀ q∈l.zip ks,fD (x+q.1.1) (y+q.1.2)=(q.2,lM q.2 x y)):gQ m x y=uB ks ((mv x y l).map m):=by
 unfold gQ uB
 rw [he]
 congr 1
 funext d
 rw [Fn m x y l ks d hk hl]
 generalize oU ks ((mv x y l).map m) d=q
 rw [Yw]
 simp only [beq_iff_eq,a1q]
 omega
theorem Sw {m:Int×Int->Bool}{x y:Int}(hx:x % 2=0)(hxy:x % 4=y % 4):iG (mX ((mv x y (cK x)).map m))=gQ m x y:=by
 by_cases h:x % 4=0
 ·have he:cK x=E8:=by unfold cK;rw [if_pos h]
  rw [Fo he rfl (Sq h (by omega)),he]
  exact Su _ _ _ _ _ _ _ _
 ·have he:cK x=F4:=by unfold cK;rw [if_neg h]
  rw [Fo he rfl (Ss (by omega) (by omega)),he]
  exact Sv _ _ _ _
noncomputable def eF (p:Int×Int):Bool:=p.1 % 2 == 0&&p.1 % 4 == p.2 % 4
theorem Sx (k:Nat)(x y:Int)(μ:Hm)(Q:D×Hm->Prop):W (f (k+1) "is_corner" [P x y] μ) Q↔Q (.bl (eF (x,y)),μ):=by
 rw [QC,W_fin]
 simp only [w_mRet,mR,aT,aX,aE,iF,iT,fA,oP,mU]
 unfold eF
 cases x % 2 == 0<;>simp
theorem Sy (k:Nat)(w h:Int)(hw:1<=w/\w<=3)(hh:1<=h/\h<=3)(μ:Hm)(Q:D×Hm->Prop)(H:∀ a μ',μ <+: μ'->μ'[a]? = some (.lst (((c9 w h).filter eF).map PP))->Q (.loc a,μ')):W (f (k+2) "corners_in" [.int w,.int h] μ) Q:=by
 rw [Q1,W_fin]
 simp only [w_mRet]
 refine fB (xs:=(c9 w h).map PP) (p:=fun d=>eF (dR d)) (v:=fun d=>d) ?_
 simp only [w_iSeq,aW,aM,aJ,aE,aF]
 refine zD _ w h (by omega) (by omega) _ _ fun a μ1 p1 g1 l1=>?_
 refine (c4 g1).mpr ⟨iV g1,rfl,?_,fun d μ' hd hp=>?_,fun d μ' hd _ hp=>?_,fun μ' hp hg=>?_⟩
 ·have:=zE (w:=w) (h:=h) (by omega) (by omega)
  rw [Uz,U4];omega
 ·obtain ⟨u,v,rfl⟩:=jM hd
  simp only [Vc,Vf,iS,aW,aM,aJ,aE,aF,Sx,iU]
  exact ⟨rfl,U0 _⟩
 ·simp only [Vc,Vf,aE,aF]
  exact ⟨trivial,U0 _⟩
 ·refine H _ _ (p1.trans hp) ?_
  rw [hg,lJ eF]
noncomputable def bR (ms:List ((Int×Int)×Str))(p:Int×Int):Bool:=(ms.map (·.1)).any fun q=>q == p
theorem Fp:∀ ms:List ((Int×Int)×Str),n4 (ms.map MD)=some (ms.map fun m=>(a8 m.1,D.str m.2))
 | []=>rfl
 | m::ms=>by
  rw [UQ,UQ]
  show (cS (PP m.1)).bind (fun k=>(n4 (ms.map MD)).map fun l=>(k,D.str m.2)::l)=_
  rw [Fp ms]
  rfl
theorem Fq (k:List Int):∀ (l kvs:List (List Int×D)),(bC (l.foldl (fun q p=>cC q p.1 p.2) kvs) k).isSome=((bC kvs k).isSome||l.any fun p=>decide (p.1=k))
 | [],kvs=>by simp
 | p::l,kvs=>by
  rw [WR,Fq k l,zJ,XQ]
  cases decide (p.1=k)<;>cases (bC kvs k).isSome<;>simp
theorem uC (p q:Int×Int):decide (a8 p=a8 q)=(p == q):=by
 rw [Yw]
 simp only [decide_eq_true_eq,beq_iff_eq,a8,ZT,and_true,a1q]
theorem Fs (ms:List ((Int×Int)×Str))(p:Int×Int):(bC ((ms.map fun m=>(a8 m.1,D.str m.2)).foldl (fun q p=>cC q p.1 p.2) []) (a8 p)).isSome=bR ms p:=by
 rw [Fq]
 unfold bR
 rw [a1t,a1t]
 show (false||_)=_
 rw [Bool.false_or]
 congr 1
 funext m
 exact uC m.1 p
theorem Ft {a b c:D}{μ:Hm}{Q:D×Hm->Prop}:W (aI (.tup [a,b,c]) (.int 2) μ) Q↔Q (c,μ):=W_some
theorem mY {a b c:D}{μ:Hm}{Q:D×Hm->Prop}:W (aI (.tup [a,b,c]) (.int 0) μ) Q↔Q (a,μ):=W_some
theorem mZ {a b c:D}{μ:Hm}{Q:D×Hm->Prop}:W (aI (.tup [a,b,c]) (.int 1) μ) Q↔Q (b,μ):=W_some
noncomputable abbrev SH (w h:Int)(ms:List ((Int×Int)×Str)):D:=.tup [.int w,.int h,.tup (ms.map MD)]
theorem Fu {ms:List ((Int×Int)×Str)}{μ:Hm}{Q:D×Hm->Prop}:W (mM [.tup (ms.map MD)] μ) Q↔Q (.loc μ.length,μ++[.dT ((ms.map fun m=>(a8 m.1,D.str m.2)).foldl (fun q p=>cC q p.1 p.2) [])]):=by
 have:mM [.tup (ms.map MD)] μ=some (.loc μ.length,μ++[.dT ((ms.map fun m=>(a8 m.1,D.str m.2)).foldl (fun q p=>cC q p.1 p.2) [])]):=by
  simp only [mM,Fp,U7]
 rw [this]
 exact W_some
theorem Sz (k:Nat)(w h:Int)(ms:List ((Int×Int)×Str))(x y:Int)(μ:Hm)(Q:D×Hm->Prop)(H:∀ a μ',μ <+: μ'->μ'[a]? = some (.lst (((mv x y (cK x)).filter (bR ms)).map PP))->Q (.loc a,μ')):W (f (k+3) "creases_at" [SH w h ms,P x y] μ) Q:=by
 rw [Q4,W_fin]
 simp only [bG,bU,aW,aM,aJ,aE,aF]
 rw [EB,W_fin]
 simp only [w_mRet,aW,aM,aJ,aT,aE,aX,Ft,Fu,UH,UI]
 refine fB (xs:=(mv x y (cK x)).map PP) (p:=fun d=>bR ms (dR d)) (v:=fun d=>d) ?_
 simp only [w_iSeq,aW,aM,aJ,aE,aF]
 refine ET k x y _ _ fun a μ1 p1 g1 l1=>?_
 refine (c4 g1).mpr ⟨iV g1,rfl,?_,fun d μ' hd hp=>?_,fun d μ' hd _ hp=>?_,fun μ' hp hg=>?_⟩
 ·rw [Uz,U4]
  unfold mv cK
  rw [Uz]
  split<;>decide
 ·obtain ⟨u,v,rfl⟩:=jM hd
  simp only [Vc,Vf,cQ,aT,aE,aF]
  refine (yW (aN (p1.trans hp) (bB _ _)) (cR (u,v))).mpr ?_
  simp only [UN,if_false]
  exact ⟨Fs ms (u,v),U0 _⟩
 ·simp only [Vc,Vf,aE,aF]
  exact ⟨trivial,U0 _⟩
 ·refine H _ _ ((aQ _ _).trans (p1.trans hp)) ?_
  rw [hg,lJ (bR ms)]
theorem Fv (μ:Hm)(q:Int×Int):∀ ps:List (Int×Int),kW μ (PP q) (ps.map PP)=some (ps.map fun p=>p == q)
 | []=>rfl
 | p::ps=>by
  rw [UQ,UQ]
  simp only [kW,Fv μ q ps]
  rw [yS 6]
  rfl
theorem SA {μ:Hm}{a:Nat}{ps:List (Int×Int)}{q:Int×Int}{Q:D×Hm->Prop}(h:μ[a]? = some (.lst (ps.map PP)))(hq:q∈ps)(hz:ps.length<=UM):W (nY (.loc a) [PP q] μ) Q↔Q (.int (ps.idxOf q:Nat),μ):=by
 have e:(ps.map fun p=>p == q).findIdx id=ps.idxOf q:=by
  rw [List.findIdx_map];rfl
 have hl:ps.idxOf q<ps.length:=a0F hq
 simp only [nY,h,Fv,UZ]
 rw [e,Uz,if_pos ⟨hl,hz⟩]
 exact W_some
theorem SD {es:List (Int×Int)}(hn:es.Nodup){i:Nat}(hi:i<es.length):es.idxOf (es.getD i (0,0))=i:=by
 have e:es.getD i (0,0)=es[i]:=by simp [VA,hi]
 rw [e]
 have hl:es.idxOf es[i]<es.length:=a0F (Yh hi)
 have h1:es[es.idxOf es[i]]=es[i]:=List.getElem_idxOf hl
 rcases Yc (es.idxOf es[i]) i with h|h|h
 ·exact absurd h1 ((VX.mp hn) _ i hl hi h)
 ·exact h
 ·exact absurd h1.symm ((VX.mp hn) i _ hi hl h)
theorem Fw {es:List (Int×Int)}(hn:es.Nodup)(m:Int×Int->Bool):(es.filter m).map (fun q=>((es.idxOf q:Nat):Int))=jO (es.map m):=by
 have h1:es.filter m=((Vv es.length).filter fun i=>m (es.getD i (0,0))).map fun i=>es.getD i (0,0):=by
  conv=>lhs;rw [<- t9 es (0,0)]
  rw [List.filter_map]
  rfl
 unfold jO
 rw [h1,UU,Uz]
 have h2:(Vv es.length).filter (fun i=>m (es.getD i (0,0)))=(Vv es.length).filter fun i=>(es.map m).getD i false:=by
  refine List.filter_congr fun i hi=>?_
  have hi:=VU.mp hi
  simp [VA,hi]
 rw [<- h2]
 refine Vx fun i hi=>?_
 have hi:=VU.mp (Xh.mp hi).1
 show ((es.idxOf (es.getD i (0,0)):Nat):Int)=_
 rw [SD hn hi]
theorem SE (x y:Int){l:List (Int×Int)}(h:l.Nodup):(mv x y l).Nodup:=by
 unfold mv
 show List.Pairwise _ _
 rw [ZW]
 refine a4i (fun {a b} hab e=>hab ?_) h
 simp only [a1q] at e ⊢
 omega
theorem SF (x:Int):(cK x).Nodup:=by
 unfold cK
 split<;>decide
theorem Fx (x:Int):(cK x).length=8\/(cK x).length=4:=by
 unfold cK
 split
 ·exact .inl rfl
 ·exact .inr rfl
theorem SG (is:List Int):fI (is.map D.int) (some 1) none=(is.drop 1).map D.int:=by
 cases is with
 | nil=>rfl
 | cons a l=>
  unfold fI
  rw [show (1:Int)=((1:Nat):Int) from rfl,HT.sIx_nat,HT.sIx_none,Uz,YB (by simp),<- a3A,Xc (by rw [Uz,XE];omega)]
theorem SJ (is:List Int):fI (is.map D.int) none (some 1)=(is.take 1).map D.int:=by
 cases is with
 | nil=>rfl
 | cons a l=>
  unfold fI
  rw [show (1:Int)=((1:Nat):Int) from rfl,HT.sIx_nat,HT.sIx_none,Uz,YB (by simp),a0N,a0a,a1g]
noncomputable def m3 (is js:List Int):List D:=(is.zip js).map PP
theorem SK {μ:Hm}{a b:Nat}{is js:List Int}(ha:μ[a]? = some (.lst (is.map D.int)))(hb:μ[b]? = some (.lst (js.map D.int))):∀ μ' i,μ <+: μ'->qC (.loc a) (.loc b) μ' i=some (m3 is js)[i]?:=fun μ' i hp=>by
 simp only [qC,bI,aN hp ha,aN hp hb,UZ,U7]
 unfold m3 List.zip
 rw [Vd,Vd,Vd,a1H]
 cases is[i]?<;>cases js[i]?<;>rfl
theorem SM (k:Nat)(w h:Int)(ms:List ((Int×Int)×Str))(x y:Int)(μ:Hm)(Q:D×Hm->Prop)(H:∀ a μ',μ <+: μ'->μ'[a]? = some (.lst ((mX ((mv x y (cK x)).map (bR ms))).map D.int))->Q (.loc a,μ')):W (f (k+4) "gaps_at" [SH w h ms,P x y] μ) Q:=by
 have hel:=Fx x
 have hml:(mv x y (cK x)).length=(cK x).length:=by unfold mv;rw [Uz]
 have hnd:=SE x y (SF x)
 rw [Q5,W_fin]
 simp only [bG,bU,aW,aM,aJ,aE,aF]
 refine ET (k+1) x y _ _ fun a1 μ1 p1 g1 l1=>?_
 simp only [UH,UI,aE,aF]
 refine Sz k w h ms x y _ _ fun a2 μ2 p2 g2=>?_
 simp only [UH,UI]
 have g12:=aN p2 g1
 generalize hes:mv x y (cK x)=es at g12 g2 hml hnd H
 have hfl:(es.filter (bR ms)).length<=8:=VG (VS _ _) (by omega)
 refine fB (xs:=(es.filter (bR ms)).map PP) (p:=fun _=>true) (v:=fun d=>.int ((es.idxOf (dR d):Nat):Int)) ?_
 simp only [w_iSeq,aE,aF]
 refine (c4 g2).mpr ⟨iV g2,rfl,by rw [Uz,U4];omega,fun d μ' hd hp=>w_mTrue.mpr ⟨rfl,U0 _⟩,fun d μ' hd _ hp=>?_,fun μ3 p3 g3=>?_⟩
 ·obtain ⟨q,hq,rfl⟩:=UR.mp hd
  refine gJ ?_
  simp only [Vc,Vf,aE,aF]
  refine ⟨gM (aN hp g12),?_⟩
  simp only [aM,aJ,aE,aF]
  exact (SA (aN hp g12) (Xh.mp hq).1 (by rw [U4];omega)).mpr ⟨rfl,U0 _⟩
 ·have g3':μ3[μ2.length]? = some (.lst ((jO (es.map (bR ms))).map D.int)):=by
   rw [g3,oQ,UU,<- Fw hnd,UU]
   rfl
  have hil:(jO (es.map (bR ms))).length<=8:=by
   rw [<- Fw hnd,Uz]
   exact hfl
  generalize hix:jO (es.map (bR ms))=is at g3' hil
  simp only [aT]
  refine t8 ?_
  simp only [aE,aF,oM,aX,oK]
  refine ⟨_,rfl,_,g3',?_⟩
  rw [SG]
  have g4:=aN (aQ μ3 (C.lst ((is.drop 1).map D.int))) g3'
  have g4e:=aN (p3.trans (aQ μ3 (C.lst ((is.drop 1).map D.int)))) g12
  refine fB (xs:=(is.take 1).map D.int) (p:=fun _=>true) (v:=fun d=>.int (kJ d+(es.length:Int))) ?_
  simp only [w_iSeq]
  refine t8 ?_
  simp only [aE,aF,oM,aX,oK]
  refine ⟨_,rfl,_,g4,?_⟩
  rw [SJ]
  refine (c4 (bB _ _)).mpr ⟨iV (bB _ _),rfl,by rw [Uz,W5,U4];omega,fun d μ' hd hp=>w_mTrue.mpr ⟨rfl,U0 _⟩,fun d μ' hd _ hp=>?_,fun μ5 p5 g5=>?_⟩
  ·obtain ⟨i,_,rfl⟩:=zB hd
   simp only [Vc,Vf,aT,aE,aF,aW,aM,aJ]
   refine (mS (aN ((aQ _ _).trans hp) g4e)).mpr ?_
   simp only [c8,Uz]
   exact ⟨rfl,U0 _⟩
  ·have q5:=(aQ (μ3++[C.lst ((is.drop 1).map D.int)]) (C.lst ((is.take 1).map D.int))).trans p5
   have g5':μ5[(μ3++[C.lst ((is.drop 1).map D.int)]++[C.lst ((is.take 1).map D.int)]).length]? = some (.lst (((is.take 1).map fun s=>s+(es.length:Int)).map D.int)):=by
    rw [g5,oQ,UU,UU]
    rfl
   have g5d:=aN q5 (bB μ3 (C.lst ((is.drop 1).map D.int)))
   refine (qV g5d g5' (by rw [Uz,Uz,Uz,XE,W5,U4];omega)).mpr ?_
   rw [<- Vb]
   simp only [UH,UI,aT,aX,aW,aM,aJ,aE,aF]
   have q6:=q5.trans (aQ μ5 (C.lst ((is.drop 1++(is.take 1).map fun s=>s+(es.length:Int)).map D.int)))
   refine (mS (aN q6 g4e)).mpr ?_
   rw [Uz]
   refine (gG (by omega) (by omega)).mpr ?_
   simp only [UH,UI,w_mRet]
   have g6:=aN q6 g4
   have g7:=bB μ5 (C.lst ((is.drop 1++(is.take 1).map fun s=>s+(es.length:Int)).map D.int))
   generalize hjs:is.drop 1++(is.take 1).map (fun s=>s+(es.length:Int))=js at g6 g7 q6
   have hzl:(m3 is js).length<=8:=by
    unfold m3
    rw [Uz,a0t]
    omega
   have h8:8 / (es.length:Int)=1\/8 / (es.length:Int)=2:=by
    rcases hel with h|h
    ·left;rw [hml,h];rfl
    ·right;rw [hml,h];rfl
   refine Qs (xs:=m3 is js) (x:=fun d=>[some (.int (dR d).1),some (.int (dR d).2)]) (p:=fun _=>true) (v:=fun d=>.int (((dR d).2 - (dR d).1) * (8 / (es.length:Int)))) ?_
   refine Qt ?_
   simp only [aM,aJ,aE,aF]
   refine ⟨_,_,_,_,rfl,g6,g7,SK g6 g7,?_,by rw [U4];omega,fun d μ' hd=>?_,fun d μ' hd hp=>w_mTrue.mpr ⟨rfl,U0 _⟩,fun d μ' hd _ hp=>?_,fun μ8 p8 g8=>?_⟩
   ·unfold m3
    simp only [Uz,a0t]
   ·obtain ⟨q,_,rfl⟩:=UR.mp hd
    rfl
   ·obtain ⟨q,_,rfl⟩:=UR.mp hd
    simp only [Vc,Vf,aT,aE,aF,tY]
    exact (dM (.inr (by omega))).mpr ⟨rfl,U0 _⟩
   ·refine H _ _ (p1.trans (p2.trans (p3.trans ((aQ _ _).trans (q6.trans p8))))) ?_
    rw [g8,oQ]
    unfold m3 mX
    rw [hix,Uz,hjs,UU,UU]
    rfl
theorem SN {α:Type}{l A B:List α}{x:α}{q:α->Bool}(hl:l=A++x::B)(hA:∀ y∈A,q y=false)(hx:q x=true):l.find? q=some x:=by
 rw [hl,ZY]
 have:A.find? q=none:=Xd.mpr fun y hy=>by rw [hA y hy];exact Vn
 rw [this,List.find?_cons_of_pos hx]
 rfl
theorem SO {α:Type}{l:List α}{i:Nat}{x:α}(h:l[i]? = some x):l=l.take i++x::l.drop (i+1):=by
 obtain ⟨hi,rfl⟩:=UA.mp h
 rw [<- YM hi,Zd]
noncomputable def kI (ms:List ((Int×Int)×Str))(p:Int×Int):Bool:=eF p&&!(gQ (bR ms) p.1 p.2)
noncomputable def uD:Option (Int×Int)->D
 | none=>.non
 | some p=>PP p
theorem SQ (bs:List Bool):(mX bs).length<=bs.length:=by
 unfold mX
 rw [Uz,a0t]
 have:(jO bs).length<=bs.length:=by
  unfold jO
  rw [Uz]
  exact VG (VS _ _) (by simp)
 omega
theorem SR {p:Int×Int}(h:eF p=true):p.1 % 2=0/\p.1 % 4=p.2 % 4:=by
 unfold eF at h
 simpa using h
theorem Fy (k:Nat){w h:Int}(hw:1<=w/\w<=3)(hh:1<=h/\h<=3)(ms:List ((Int×Int)×Str))(μ:Hm)(Q:D×Hm->Prop)(H:∀ μ',μ <+: μ'->Q (uD ((c9 w h).find? (kI ms)),μ')):W (f (k+5) "barred" [SH w h ms] μ) Q:=by
 rw [Q6,W_fin]
 simp only [bG,dQ,w_iSeq,aW,aM,aJ,aT,aE,aX,mY,mZ]
 refine Sy (k+2) w h hw hh _ _ fun a μ1 p1 g1=>?_
 refine (c4 g1).mpr ?_
 have hf:(c9 w h).find? (kI ms)=((c9 w h).filter eF).find? fun p=>!(gQ (bR ms) p.1 p.2):=by
  rw [List.find?_filter]
  congr 1
  funext p
  unfold kI
  cases eF p<;>cases gQ (bR ms) p.1 p.2<;>simp
 rw [hf] at H
 generalize hcs:(c9 w h).filter eF=cs at g1 H
 have hcc:∀ p∈cs,eF p=true:=fun p hp=>by rw [<- hcs] at hp;exact (Xh.mp hp).2
 refine fQ (xs:=cs.map PP) (fun i ρ μ'=>μ1 <+: μ'/\(∀ q∈cs.take i,(!(gQ (bR ms) q.1 q.2))=false)/\∃ o1,ρ=[some (SH w h ms),o1]) ⟨U0 _,fun q hq=>by simp at hq,none,rfl⟩ (fun i ρ μ' hI=>aN hI.1 g1) ?_ ?_
 ·rintro i d ρ μ2 hd ⟨hp,hok,o1,rfl⟩
  obtain ⟨⟨x,y⟩,hq,rfl⟩:=iJ hd
  have hc:=SR (hcc _ (Ve hq))
  refine ⟨_,rfl,?_⟩
  simp only [UH,UI,dJ,tX,iS,aW,aM,aJ,aE,aF]
  refine SM k w h ms x y _ _ fun b μ3 p3 g3=>?_
  refine RI (k+2) b _ ?_ _ _ g3 fun μ4 p4=>?_
  ·have h1:=SQ ((mv x y (cK x)).map (bR ms))
   rw [Uz] at h1
   have h2:(mv x y (cK x)).length=(cK x).length:=by unfold mv;rw [Uz]
   have:=Fx x
   omega
  rw [Sw hc.1 hc.2]
  simp only [iU]
  cases hb:gQ (bR ms) x y with
  | true=>
   simp only [WI,UN,if_false,cZ]
   refine ⟨hp.trans (p3.trans p4),fun q hq'=>?_,_,rfl⟩
   rw [YF,hq] at hq'
   rcases Vz.mp hq' with hq'|hq'
   ·exact hok q hq'
   ·have:q=(x,y):=by simpa using hq'
    rw [this,hb]
    rfl
  | false=>
   simp only [W8,if_true,w_mRet,aE,aF]
   have e:=SN (q:=fun p=>!(gQ (bR ms) p.1 p.2)) (SO hq) hok (by dsimp only;rw [hb];rfl)
   rw [e] at H
   exact H _ (p1.trans (hp.trans (p3.trans p4)))
 ·rintro ρ μ2 ⟨hp,hok,o1,rfl⟩
  simp only [w_mRet,aX]
  rw [Uz,V6] at hok
  have e:cs.find? (fun p=>!(gQ (bR ms) p.1 p.2))=none:=Xd.mpr fun y hy=>by rw [hok y hy];exact Vn
  rw [e] at H
  exact H _ (p1.trans hp)
structure Ly where
 a:Int
 b:Int
 c:Int
 d:Int
 e:Int
 g:Int
 deriving DecidableEq
noncomputable abbrev LD (A:Ly):D:=.tup [.int A.a,.int A.b,.int A.c,.int A.d,.int A.e,.int A.g]
noncomputable def Dih (A:Ly):Prop:=(A.b=0/\A.c=0/\(A.a=1\/A.a = -1)/\(A.d=1\/A.d = -1))\/(A.a=0/\A.d=0/\(A.b=1\/A.b = -1)/\(A.c=1\/A.c = -1))
theorem Dih.sm {A:Ly}(h:Dih A):(-1<=A.a/\A.a<=1)/\(-1<=A.b/\A.b<=1)/\(-1<=A.c/\A.c<=1)/\(-1<=A.d/\A.d<=1):=by
 unfold Dih at h
 omega
noncomputable def a9 (A:Ly)(p:Int×Int):Int×Int:=(A.a * p.1+A.b * p.2+A.e,A.c * p.1+A.d * p.2+A.g)
noncomputable def eT (A B:Ly):Ly:=⟨B.a * A.a+B.b * A.c,B.a * A.b+B.b * A.d,B.c * A.a+B.d * A.c,B.c * A.b+B.d * A.d,B.a * A.e+B.b * A.g+B.e,B.c * A.e+B.d * A.g+B.g⟩
noncomputable def dA:Ly:=⟨1,0,0,1,0,0⟩
noncomputable def lN (e:Int×Int):Ly:=
 ⟨(bY (1,0) e).1 - (bY (0,0) e).1,(bY (0,1) e).1 - (bY (0,0) e).1,(bY (1,0) e).2 - (bY (0,0) e).2,(bY (0,1) e).2 - (bY (0,0) e).2,(bY (0,0) e).1,(bY (0,0) e).2⟩
theorem Ly.ext' {A B:Ly}(h1:A.a=B.a)(h2:A.b=B.b)(h3:A.c=B.c)(h4:A.d=B.d)(h5:A.e=B.e)(h6:A.g=B.g):A=B:=by
 cases A;cases B;simp_all
theorem Fz (e:Int×Int):Dih (lN e):=by
 obtain ⟨x,y⟩:=e
 unfold Dih lN bY
 dsimp only
 split<;>split<;>dsimp only<;>omega
theorem zK (e p:Int×Int):a9 (lN e) p=bY p e:=by
 obtain ⟨x,y⟩:=e
 obtain ⟨u,v⟩:=p
 unfold a9 lN bY
 dsimp only
 split<;>split<;>dsimp only
 ·rw [show (0:Int)+(x - y) - (0+(x - y))=0 by omega,show (1:Int)+(x - y) - (0+(x - y))=1 by omega,show (1:Int) - (x - y) - (0 - (x - y))=1 by omega,show (0:Int) - (x - y) - (0 - (x - y))=0 by omega];refine VT ?_ ?_<;>dsimp only<;>omega
 ·rw [show x+y - 0 - (x+y - 0)=0 by omega,show x+y - 1 - (x+y - 0) = -1 by omega];refine VT ?_ ?_<;>dsimp only<;>omega
 ·rw [show (1:Int) - 0=1 by rfl,show 2 * y - 1 - (2 * y - 0) = -1 by omega,show (0:Int) - 0=0 by rfl,show 2 * y - 0 - (2 * y - 0)=0 by omega];refine VT ?_ ?_<;>dsimp only<;>omega
 ·rw [show 2 * x - 1 - (2 * x - 0) = -1 by omega,show (1:Int) - 0=1 by rfl,show 2 * x - 0 - (2 * x - 0)=0 by omega,show (0:Int) - 0=0 by rfl];refine VT ?_ ?_<;>dsimp only<;>omega
theorem FA (A B:Ly)(p:Int×Int):a9 (eT A B) p=a9 B (a9 A p):=by
 unfold a9 eT
 refine VT ?_ ?_<;>dsimp only<;>grind
theorem SS (A:Ly):eT dA A=A:=by
 unfold eT dA
 exact Ly.ext' (by dsimp only;omega) (by dsimp only;omega) (by dsimp only;omega) (by dsimp only;omega) (by dsimp only;omega) (by dsimp only;omega)
theorem SU (A B E:Ly):eT (eT A B) E=eT A (eT B E):=by
 unfold eT
 refine Ly.ext' ?_ ?_ ?_ ?_ ?_ ?_<;>dsimp only<;>grind
theorem FC:Dih dA:=.inl ⟨rfl,rfl,.inl rfl,.inl rfl⟩
theorem lO {x y:Int}(hx:x=1\/x = -1)(hy:y=1\/y = -1):x * y=1\/x * y = -1:=by
 rcases hx with rfl|rfl<;>rcases hy with rfl|rfl<;>decide
theorem SV {A B:Ly}(hA:Dih A)(hB:Dih B):Dih (eT A B):=by
 unfold Dih eT
 dsimp only
 rcases hA with ⟨h1,h2,h3,h4⟩|⟨h1,h2,h3,h4⟩<;>rcases hB with ⟨k1,k2,k3,k4⟩|⟨k1,k2,k3,k4⟩<;>rw [h1,h2,k1,k2]<;>simp only [Int.mul_zero,Int.zero_mul,a1J,Int.zero_add,true_and]
 ·exact .inl ⟨lO k3 h3,lO k4 h4⟩
 ·exact .inr ⟨lO k3 h4,lO k4 h3⟩
 ·exact .inr ⟨lO k3 h3,lO k4 h4⟩
 ·exact .inl ⟨lO k3 h4,lO k4 h3⟩
theorem SW {A B:Ly}(h:∀ p,a9 A p=a9 B p):A=B:=by
 have h0:=h (0,0)
 have h1:=h (1,0)
 have h2:=h (0,1)
 unfold a9 at h0 h1 h2
 simp only [a2K] at h0 h1 h2
 exact Ly.ext' (by omega) (by omega) (by omega) (by omega) (by omega) (by omega)
theorem SX (p:Int×Int):a9 dA p=p:=by
 unfold a9 dA
 refine VT ?_ ?_<;>dsimp only<;>omega
theorem SY (e:Int×Int):eT (lN e) (lN e)=dA:=SW fun p=>by
 rw [FA,zK,zK,SX]
 exact EK p e.1 e.2
theorem S0 {a b c d e g:D}:([a,b,c,d,e,g]:List D).length<=UM:=by show (6:Nat)<=UM;decide
theorem FD (k:Nat)(p q r:Int×Int)(μ:Hm)(Q:D×Hm->Prop):W (f (k+1) "laying_by" [PP p,PP q,PP r] μ) Q↔Q (LD ⟨q.1 - p.1,r.1 - p.1,q.2 - p.2,r.2 - p.2,p.1,p.2⟩,μ):=by
 rw [Q8,W_fin]
 simp only [w_mRet,eS,aM,aJ,aT,aE,aF,aX,iF,iT,tY,S0,true_and]
theorem S1 (k:Nat)(x y:Int)(μ:Hm)(Q:D×Hm->Prop):W (f (k+3) "mirror_in" [P x y] μ) Q↔Q (LD (lN (x,y)),μ):=by
 rw [Q9,W_fin]
 simp only [w_mRet,aW,aM,aJ,eS,aE,aX,gO,true_and,EJ,FD]
 rfl
theorem lP {i j:Int}(h:-1<=i/\i<=1){μ:Hm}{Q:D×Hm->Prop}:W (bH (.int i) (.int j) μ) Q↔Q (.int (i * j),μ):=dM (.inl ⟨by omega,by omega⟩)
theorem uE (k:Nat)(A:Ly)(hA:Dih A)(x y:Int)(μ:Hm)(Q:D×Hm->Prop):W (f (k+1) "led" [LD A,P x y] μ) Q↔Q (PP (a9 A (x,y)),μ):=by
 obtain ⟨h1,h2,h3,h4⟩:=hA.sm
 rw [Ra,W_fin]
 simp only [bG,bU,w_mRet,eS,aM,aJ,aT,aE,aF,aX,iF,iT,Qd,Qe,Qf,Qg,Qh,Qi,UH,UI,lP h1,lP h2,lP h3,lP h4,c8,gO,true_and]
 rfl
theorem S2 (k:Nat)(A B:Ly)(hA:Dih A)(hB:Dih B)(μ:Hm)(Q:D×Hm->Prop):W (f (k+2) "then" [LD A,LD B] μ) Q↔Q (LD (eT A B),μ):=by
 rw [Rb,W_fin]
 simp only [w_mRet,aW,aM,aJ,eS,aE,aF,aX,gO,true_and,uE _ A hA,uE _ B hB,FD]
 have e:(⟨(a9 B (a9 A (1,0))).1 - (a9 B (a9 A (0,0))).1,(a9 B (a9 A (0,1))).1 - (a9 B (a9 A (0,0))).1,(a9 B (a9 A (1,0))).2 - (a9 B (a9 A (0,0))).2,(a9 B (a9 A (0,1))).2 - (a9 B (a9 A (0,0))).2,(a9 B (a9 A (0,0))).1,(a9 B (a9 A (0,0))).2⟩:Ly)=eT A B:=by
  unfold a9 eT
  refine Ly.ext' ?_ ?_ ?_ ?_ ?_ ?_<;>dsimp only<;>grind
 rw [<- e]
noncomputable def st (m:Int×Int->Bool)(e:Int×Int)(A:Ly):Ly:=if m e then eT (lN e) A else A
theorem uF (m:Int×Int->Bool)(e:Int×Int)(A:Ly):st m e (st m e A)=A:=by
 unfold st
 cases m e with
 | false=>rfl
 | true=>
  simp only [if_true]
  rw [<- SU,SY,SS]
theorem S3 {m:Int×Int->Bool}{e:Int×Int}{A:Ly}(h:Dih A):Dih (st m e A):=by
 unfold st
 split
 ·exact SV (Fz e) h
 ·exact h
noncomputable def iK (m:Int×Int->Bool)(e p:Int×Int):Int×Int:=if m e then bY p e else p
theorem S4 (m:Int×Int->Bool)(e p:Int×Int):iK m e (iK m e p)=p:=by
 unfold iK
 split
 ·exact EK p e.1 e.2
 ·rfl
theorem FE (m:Int×Int->Bool)(e p:Int×Int)(A:Ly):a9 (st m e A) p=a9 A (iK m e p):=by
 unfold st iK
 split
 ·rw [FA,zK]
 ·rfl
noncomputable def fR (m:Int×Int->Bool)(es:List (Int×Int))(A:Ly):Ly:=es.foldl (fun A e=>st m e A) A
theorem FF (m:Int×Int->Bool)(p:Int×Int):∀ (es:List (Int×Int))(A:Ly),a9 (fR m es A) p=a9 A (es.foldr (iK m) p)
 | [],A=>rfl
 | e::es,A=>by
  show a9 (fR m es (st m e A)) p=_
  rw [FF m p es,FE]
  rfl
theorem FG (m:Int×Int->Bool):∀ (es:List (Int×Int))(p:Int×Int),es.foldr (iK m) (es.foldl (fun p e=>iK m e p) p)=p
 | [],p=>rfl
 | e::es,p=>by
  rw [WR,List.foldr_cons,FG m es,S4]
theorem FH (m:Int×Int->Bool):∀ (es:List (Int×Int)){A B:Ly},fR m es A=fR m es B->A=B
 | [],_,_,h=>h
 | e::es,A,B,h=>by
  have h1:st m e A=st m e B:=FH m es h
  rw [<- uF m e A,h1,uF]
theorem S5 {A B:Ly}(x y:Int)(h0:a9 A (x,y)=a9 B (x,y))(h1:a9 A (x+2,y+1)=a9 B (x+2,y+1))(h2:a9 A (x+1,y+-2)=a9 B (x+1,y+-2)):A=B:=by
 unfold a9 at h0 h1 h2
 simp only [a2K,Int.mul_add] at h0 h1 h2
 have ha:A.a=B.a:=by omega
 have hb:A.b=B.b:=by omega
 have hc:A.c=B.c:=by omega
 have hd:A.d=B.d:=by omega
 rw [ha,hb,hc,hd] at h0
 exact Ly.ext' ha hb hc hd (by omega) (by omega)
theorem S6 {e:Int×Int}(h:iI e.1 e.2=true)(p:Int×Int):bY p e=jN p (fD e.1 e.2):=by
 unfold iI at h
 simp only [Xi,UL,beq_iff_eq] at h
 unfold bY fD jN
 rcases h with h|h
 ·rw [if_pos h.1,if_neg (show ¬ e.2 % 4=0 by omega),if_neg (show ¬ e.1 % 4=0 by omega)]
  by_cases z:e.1 % 4=e.2 % 4
  ·rw [if_pos z,if_pos z];rfl
  ·rw [if_neg z,if_neg z];rfl
 ·rw [if_neg (show ¬ e.1 % 2=1 by omega)]
  by_cases z:e.2 % 4=0
  ·rw [if_pos z,if_pos z];rfl
  ·rw [if_neg z,if_neg z,if_pos (show e.1 % 4=0 by omega)];rfl
theorem FI {x y a b:Int}(ha:x % 4=a % 4)(hb:y % 4=b % 4)(h:iI a b=true):iI x y=true:=by
 have e1:x % 2=a % 2:=by omega
 have e2:y % 2=b % 2:=by omega
 unfold iI at *
 rw [e1,e2,ha,hb]
 exact h
theorem S7 {x y:Int}(hx:x % 2=0)(hxy:x % 4=y % 4):∀ e∈mv x y (cK x),iI e.1 e.2=true:=by
 intro e he
 obtain ⟨d,hd,rfl⟩:=UR.mp he
 unfold cK at hd
 split at hd
 ·exact FI (a:=d.1) (b:=d.2) (by dsimp only;omega) (by dsimp only;omega) ((by decide:∀ d∈E8,iI d.1 d.2=true) d hd)
 ·exact FI (a:=2+d.1) (b:=2+d.2) (by dsimp only;omega) (by dsimp only;omega) ((by decide:∀ d∈F4,iI (2+d.1) (2+d.2)=true) d hd)
theorem FJ {m:Int×Int->Bool}:∀ {es:List (Int×Int)},(∀ e∈es,iI e.1 e.2=true)->∀ p,es.foldl (fun p e=>iK m e p) p=oT m es p
 | [],_,p=>rfl
 | e::es,h,p=>by
  have ih:=FJ (m:=m) (es:=es) (fun x hx=>h x (UX _ hx)) (iK m e p)
  rw [WR,ih]
  unfold iK oT
  rw [S6 (h e (U2 ..)),WR]
theorem S8 {m:Int×Int->Bool}{x y:Int}(hx:x % 2=0)(hxy:x % 4=y % 4)(hb:gQ m x y=true)(A:Ly):fR m (mv x y (cK x)) A=A:=by
 have hE:=S7 hx hxy
 generalize hes:mv x y (cK x)=es at hE
 have at_:∀ d∈D3,a9 (fR m es A) (x+d.1,y+d.2)=a9 A (x+d.1,y+d.2):=fun d hd=>by
  have h1:oT m es (x+d.1,y+d.2)=(x+d.1,y+d.2):=by
   have:=W7.mp hb d hd
   rw [hes] at this
   simpa using this
  rw [FF]
  have h2:=FG m es (x+d.1,y+d.2)
  rw [FJ hE,h1] at h2
  rw [h2]
 have h0:=at_ (0,0) (by decide)
 rw [show x+((0,0):Int×Int).1=x from a1J x,show y+((0,0):Int×Int).2=y from a1J y] at h0
 exact S5 x y h0 (at_ (2,1) (by decide)) (at_ (1,-2) (by decide))
noncomputable def c5 (e q:Int×Int):Int×Int:=match cG e.1 e.2 with
 | [a,b]=>if q=a then b else a
 | _=>q
noncomputable def iY (L:Int×Int->Ly)(m:Int×Int->Bool)(e:Int×Int):Prop:=∀ q∈cG e.1 e.2,L (c5 e q)=st m e (L q)
noncomputable def gR (q:Int×Int)(es:List (Int×Int)):Int×Int:=es.foldl (fun q e=>c5 e q) q
noncomputable def gT:Int×Int->List (Int×Int)->Bool
 | _,[]=>true
 | q,e::es=>decide (q∈cG e.1 e.2)&&gT (c5 e q) es
theorem zL (x y:Int):∃ a b,cG x y=[a,b]:=by
 unfold cG
 split
 ·exact ⟨_,_,rfl⟩
 ·split<;>exact ⟨_,_,rfl⟩
theorem zM {e q:Int×Int}(hq:q∈cG e.1 e.2):c5 e q∈cG e.1 e.2/\c5 e (c5 e q)=q/\∀ p∈cG e.1 e.2,p=q\/p=c5 e q:=by
 obtain ⟨a,b,h⟩:=zL e.1 e.2
 have hv:∀ r,c5 e r=if r=a then b else a:=fun r=>by unfold c5;rw [h]
 rw [h] at hq ⊢
 simp only [U6,W4,or_false] at hq ⊢
 by_cases z:q=a
 ·subst z
  have e1:c5 e q=b:=by rw [hv,if_pos rfl]
  rw [e1]
  refine ⟨.inr rfl,?_,fun p hp=>hp⟩
  rw [hv]
  split
  ·assumption
  ·rfl
 ·have e1:c5 e q=a:=by rw [hv,if_neg z]
  have hb:q=b:=hq.resolve_left z
  rw [e1]
  exact ⟨.inl rfl,by rw [hv,if_pos rfl,hb],fun p hp=>by rw [hb];exact hp.symm⟩
theorem zN {L:Int×Int->Ly}{m:Int×Int->Bool}:∀ (es:List (Int×Int))(q:Int×Int),(∀ e∈es,iY L m e)->gT q es=true->L (gR q es)=fR m es (L q)
 | [],q,_,_=>rfl
 | e::es,q,h,hb=>by
  rw [gT,UL,decide_eq_true_eq] at hb
  show L (gR (c5 e q) es)=fR m es (st m e (L q))
  rw [zN es (c5 e q) (fun x hx=>h x (UX _ hx)) hb.2,h e (U2 ..) q hb.1]
theorem FK:∀ (A B:List (Int×Int))(q:Int×Int),gT q (A++B)=(gT q A&&gT (gR q A) B)
 | [],B,q=>by simp [gT,gR]
 | e::A,B,q=>by
  show (decide (q∈cG e.1 e.2)&&gT (c5 e q) (A++B))=((decide (q∈cG e.1 e.2)&&gT (c5 e q) A)&&gT (gR (c5 e q) A) B)
  rw [FK A B (c5 e q),a3p]
theorem S9 {L:Int×Int->Ly}{m:Int×Int->Bool}{A B:List (Int×Int)}{e q:Int×Int}(hA:∀ x∈A,iY L m x)(hB:∀ x∈B,iY L m x)(hb:gT q (A++e::B)=true)(hp:gR q (A++e::B)=q)(hs:fR m (A++e::B) (L q)=L q):iY L m e:=by
 rw [FK,UL] at hb
 obtain ⟨b1,b2⟩:=hb
 rw [gT,UL,decide_eq_true_eq] at b2
 obtain ⟨b2,b3⟩:=b2
 have l1:=zN A q hA b1
 have l2:=zN B (c5 e (gR q A)) hB b3
 have hp':gR (c5 e (gR q A)) B=q:=by
  unfold gR at hp ⊢
  rw [YT,WR] at hp
  exact hp
 have hs':fR m B (st m e (fR m A (L q)))=L q:=by
  unfold fR at hs ⊢
  rw [YT,WR] at hs
  exact hs
 rw [hp',<- hs',<- l1] at l2
 have fin:L (c5 e (gR q A))=st m e (L (gR q A)):=(FH m B l2).symm
 obtain ⟨o1,o2,o3⟩:=zM b2
 intro p hp
 rcases o3 p hp with rfl|rfl
 ·exact fin
 ·rw [o2,fin,uF]
noncomputable def qY (c:Int×Int):List (Int×Int):=mv c.1 c.2 (cK c.1)
noncomputable def uG (c:Int×Int):Int×Int:=if c.1 % 4=0 then (c.1+2,c.2 - 1) else (c.1+1,c.2)
noncomputable def uH (K:List (Int×Int))(c:Int×Int):List (Int×Int):=match (qY c).filter fun e=>!K.contains e with
 | [e]=>e::K
 | _=>K
noncomputable def zO (cs:List (Int×Int)):Nat->List (Int×Int)->List (Int×Int)
 | 0,K=>K
 | n+1,K=>zO cs n (cs.foldl uH K)
noncomputable def uI (c:Int×Int):Bool:=gT (uG c) (qY c)&&decide (gR (uG c) (qY c)=uG c)
theorem Ta {L:Int×Int->Ly}{m:Int×Int->Bool}{K:List (Int×Int)}{c:Int×Int}(hK:∀ e∈K,iY L m e)(hc:uI c=true)(hs:∀ A,fR m (qY c) A=A):∀ e∈uH K c,iY L m e:=by
 unfold uH
 split
 ·rename_i e h
  obtain ⟨A,B,h1,h2,h3,h4⟩:=List.filter_eq_cons_iff.mp h
  rw [uI,UL,decide_eq_true_eq] at hc
  have inK:∀ x,¬ (!K.contains x)=true->x∈K:=fun x hx=>by simpa using hx
  intro x hx
  rcases U6.mp hx with rfl|hx
  ·refine S9 (A:=A) (B:=B) (q:=uG c) (fun y hy=>hK y (inK y (h2 y hy))) (fun y hy=>hK y (inK y (List.filter_eq_nil_iff.mp h4 y hy))) ?_ ?_ ?_
   ·rw [<- h1];exact hc.1
   ·rw [<- h1];exact hc.2
   ·rw [<- h1];exact hs _
  ·exact hK x hx
 ·exact hK
theorem FL {L:Int×Int->Ly}{m:Int×Int->Bool}{cs:List (Int×Int)}(hc:∀ c∈cs,uI c=true/\∀ A,fR m (qY c) A=A):∀ (n:Nat){K:List (Int×Int)},(∀ e∈K,iY L m e)->∀ e∈zO cs n K,iY L m e
 | 0,K,hK=>hK
 | n+1,K,hK=>by
  refine FL hc n ?_
  have go:∀ (l:List (Int×Int)),(∀ c∈l,c∈cs)->∀ {K:List (Int×Int)},(∀ e∈K,iY L m e)->∀ e∈l.foldl uH K,iY L m e:=by
   intro l
   induction l with
   | nil=>exact fun _ K h=>h
   | cons c l ih=>
    intro hl K h
    obtain ⟨c1,c2⟩:=hc c (hl c (U2 ..))
    exact ih (fun x hx=>hl x (UX _ hx)) (Ta h c1 c2)
  exact go cs (fun _ h=>h) hK
noncomputable abbrev Tr:=List ((Int×Int)×(Int×Int)×(Int×Int))
noncomputable def iZ (q:Int×Int):List (Int×Int):=[(q.1 - 1,q.2),(q.1,q.2 - 1),(q.1,q.2+1),(q.1+1,q.2)]
noncomputable def iL (p:Int×Int):Bool:=if p.1 % 2=1 then p.2 % 2 == 1 else p.2 % 2 == 0&&!(p.1 % 4 == p.2 % 4)
noncomputable def qZ (w h:Int)(p:Int×Int):Bool:=decide (0<p.1)&&decide (p.1<4 * w)&&(decide (0<p.2)&&decide (p.2<4 * h))
noncomputable def i0 (w h:Int)(q:Int×Int):List (Int×Int):=((iZ q).filter iL).filter (qZ w h)
noncomputable def jP (p:Int×Int):Bool:=if p.1 % 2=1 then p.2 % 4 == 2 else p.1 % 4 == 2&&p.2 % 2 == 1
noncomputable def oV (w h:Int):List (Int×Int):=(c9 w h).filter jP
noncomputable def first (w h:Int):Int×Int:=(oV w h).headD (0,0)
noncomputable def i7 (f0:Int×Int)(t:Tr):List (Int×Int):=f0::t.map (·.1)
noncomputable def fS (f0 here:Int×Int)(s:List (Int×Int)×Tr)(e:Int×Int):List (Int×Int)×Tr:=
 if bY here e∈i7 f0 s.2 then s else (s.1++[bY here e],s.2++[(bY here e,e,here)])
noncomputable def q0 (w h:Int)(f0:Int×Int)(s:List (Int×Int)×Tr):List (Int×Int)×Tr:=match s.1.getLast? with
 | none=>s
 | some here=>(i0 w h here).foldl (fS f0 here) (s.1.dropLast,s.2)
noncomputable def eK (w h:Int)(f0:Int×Int):Nat->List (Int×Int)×Tr
 | 0=>([f0],[])
 | n+1=>q0 w h f0 (eK w h f0 n)
noncomputable def fE (w h:Int):Tr:=(eK w h (first w h) 36).2
noncomputable def uJ:List (Int×Int)->Tr->Bool
 | _,[]=>true
 | ks,(c,_,p)::t=>!ks.contains c&&ks.contains p&&uJ (ks++[c]) t
theorem FN:∀ w∈[(1:Int),2,3],∀ h∈[(1:Int),2,3],(eK w h (first w h) 36).1=[]/\uJ [first w h] (fE w h)=true/\(∀ t∈fE w h,t.2.2∈cG t.2.1.1 t.2.1.2/\c5 t.2.1 t.2.2=t.1)/\(∀ q∈bV w h,q∈i7 (first w h) (fE w h))/\first w h=(bV w h).headD (0,0)/\2<=(fE w h).length/\(fE w h).length<=40:=by decide +kernel
theorem Tc:∀ w∈[(1:Int),2,3],∀ h∈[(1:Int),2,3],(∀ c∈(c9 w h).filter eF,uI c=true)/\∀ e∈bZ w h,e∈zO ((c9 w h).filter eF) 13 ((fE w h).map (·.2.1)):=by decide +kernel
noncomputable abbrev Kv:=List ((Int×Int)×Ly)
noncomputable def bW (kvs:Kv)(q:Int×Int):Ly:=((kvs.find? fun p=>p.1 == q).map (·.2)).getD dA
theorem Td {kvs:Kv}{q:Int×Int}(h:q∈kvs.map (·.1))(r:Kv):bW (kvs++r) q=bW kvs q:=by
 obtain ⟨p,h1,h2⟩:=UR.mp h
 unfold bW
 rw [ZY]
 cases z:kvs.find? fun p=>p.1 == q with
 | some x=>rfl
 | none=>
  have:=Xd.mp z p h1
  simp [h2] at this
theorem Te {kvs:Kv}{q:Int×Int}{A:Ly}(h:q∉kvs.map (·.1)):bW (kvs++[(q,A)]) q=A:=by
 unfold bW
 rw [ZY]
 have:kvs.find? (fun p=>p.1 == q)=none:=Xd.mpr fun p hp=>by
  intro z
  exact h (UR.mpr ⟨p,hp,by simpa using z⟩)
 rw [this]
 simp
noncomputable def cM (m:Int×Int->Bool):Kv->Tr->Kv
 | kvs,[]=>kvs
 | kvs,(c,e,p)::t=>cM m (kvs++[(c,st m e (bW kvs p))]) t
theorem FP (m:Int×Int->Bool)(c e p:Int×Int):∀ (t:Tr)(kvs:Kv),cM m kvs (t++[(c,e,p)])=cM m kvs t++[(c,st m e (bW (cM m kvs t) p))]
 | [],kvs=>rfl
 | (c',e',p')::t,kvs=>FP m c e p t _
theorem zP (m:Int×Int->Bool):∀ (t:Tr)(kvs:Kv),(cM m kvs t).map (·.1)=kvs.map (·.1)++t.map (·.1)
 | [],kvs=>by simp [cM]
 | (c,e,p)::t,kvs=>by
  rw [cM,zP m t]
  simp
theorem FQ {kvs:Kv}(h:∀ p∈kvs,Dih p.2)(q:Int×Int):Dih (bW kvs q):=by
 unfold bW
 cases z:kvs.find? fun p=>p.1 == q with
 | none=>exact FC
 | some x=>exact h x (YL z)
theorem FR (m:Int×Int->Bool):∀ (t:Tr)(kvs:Kv),(∀ p∈kvs,Dih p.2)->∀ p∈cM m kvs t,Dih p.2
 | [],kvs,h=>h
 | (c,e,p)::t,kvs,h=>FR m t _ fun x hx=>by
  rcases Vz.mp hx with hx|hx
  ·exact h x hx
  ·rw [Vp.mp hx]
   exact S3 (FQ h p)
theorem zQ (m:Int×Int->Bool):∀ (t:Tr)(kvs:Kv),uJ (kvs.map (·.1)) t=true->(∀ q∈kvs.map (·.1),bW (cM m kvs t) q=bW kvs q)/\(∀ x∈t,bW (cM m kvs t) x.1=st m x.2.1 (bW (cM m kvs t) x.2.2))/\((kvs.map (·.1)).Nodup->(kvs.map (·.1)++t.map (·.1)).Nodup)
 | [],kvs,_=>⟨fun q _=>rfl,(fun x hx=>nomatch hx),fun h=>by simpa using h⟩
 | (c,e,p)::t,kvs,h=>by
  rw [uJ,UL,UL] at h
  obtain ⟨⟨h1,h2⟩,h3⟩:=h
  have h1:c∉kvs.map (·.1):=by simpa using h1
  have h2:p∈kvs.map (·.1):=by simpa using h2
  obtain ⟨i1,i2,i3⟩:=zQ m t (kvs++[(c,st m e (bW kvs p))]) (by simpa using h3)
  have old:∀ q∈kvs.map (·.1),bW (cM m (kvs++[(c,st m e (bW kvs p))]) t) q=bW kvs q:=fun q hq=>by
   rw [i1 q (by rw [Vb];exact Vz.mpr (.inl hq)),Td hq]
  refine ⟨old,fun x hx=>?_,fun nd=>?_⟩
  ·rcases U6.mp hx with rfl|hx
   ·show bW (cM m (kvs++[(c,st m e (bW kvs p))]) t) c=st m e (bW (cM m (kvs++[(c,st m e (bW kvs p))]) t) p)
    rw [old p h2,i1 c (by simp),Te h1]
   ·exact i2 x hx
  ·have:=i3 (by
    rw [Vb,WV]
    refine ⟨nd,by simp,fun a ha b hb z=>?_⟩
    have:b=c:=by simpa using hb
    rw [z,this] at ha
    exact h1 ha)
   simpa using this
noncomputable def gU (m:Int×Int->Bool)(w h:Int):Kv:=cM m [(first w h,dA)] (fE w h)
theorem Tf {w h:Int}(hw:1<=w/\w<=3)(hh:1<=h/\h<=3){m:Int×Int->Bool}(hb:∀ c∈c9 w h,eF c=true->gQ m c.1 c.2=true):∀ e∈bZ w h,iY (bW (gU m w h)) m e:=by
 obtain ⟨_,t2,t3,_⟩:=FN w (cI hw) h (cI hh)
 obtain ⟨c1,c2⟩:=Tc w (cI hw) h (cI hh)
 obtain ⟨_,l2,_⟩:=zQ m (fE w h) [(first w h,dA)] t2
 refine fun e he=>FL (cs:=(c9 w h).filter eF) (fun c hc=>⟨c1 c hc,fun A=>?_⟩) 13 (fun e he=>?_) e (c2 e he)
 ·obtain ⟨hc1,hc2⟩:=Xh.mp hc
  have h3:=hb c hc1 hc2
  unfold eF at hc2
  simp only [UL,beq_iff_eq] at hc2
  exact S8 hc2.1 hc2.2 h3 A
 ·obtain ⟨t,ht,rfl⟩:=UR.mp he
  obtain ⟨b1,b2⟩:=t3 t ht
  have b3:=l2 t ht
  obtain ⟨o1,o2,o3⟩:=zM b1
  intro q hq
  rcases o3 q hq with rfl|rfl
  ·rw [b2];exact b3
  ·rw [o2,b2]
   show bW (gU m w h) t.2.2=st m t.2.1 (bW (gU m w h) t.1)
   rw [show bW (gU m w h) t.1=_ from b3,uF]
   rfl
theorem Tg (k:Nat)(ns:List Int)(c:Nat)(ws:List Int)(hws:ws≠[])(μ:Hm)(hc:μ[c]? = some (.lst (ws.map D.int)))(Q:D×Hm->Prop)(H:∀ (w h:Int)(ms:List ((Int×Int)×Str)) μ',(1<=w/\w<=3)->(1<=h/\h<=3)->μ <+: μ'->ms.length<=89->Q (.tup [.int w,.int h,.tup (ms.map MD)],μ')):W (f (k+4) "_law_sheet" [.rol (ns.map D.int),.int 3,.loc c] μ) Q:=by
 rw [Rt,W_fin]
 simp only [bG,bU,aT,aX,aW,aM,aJ,aE,aF]
 refine iH (k+2) ns 0 (by decide) _ _ fun μ1 p1=>?_
 refine (cF (by decide)).mpr ?_
 simp only [c8,UH,UI,aE,aF]
 refine iH (k+2) ns 0 (by decide) _ _ fun μ2 p2=>?_
 refine (gG (by decide) (by decide)).mpr ((cF (by decide)).mpr ?_)
 simp only [c8,UH,UI]
 have hw:1<=1+cL ns 0 % 3/\1+cL ns 0 % 3<=3:=by
  have h1:=VI (cL ns 0) (show (3:Int)≠0 by decide)
  have h2:=VB (cL ns 0) (show (0:Int)<3 by decide)
  omega
 have hh:1<=1+cL ns 0 / 3 % 3/\1+cL ns 0 / 3 % 3<=3:=by
  have h1:=VI (cL ns 0 / 3) (show (3:Int)≠0 by decide)
  have h2:=VB (cL ns 0 / 3) (show (0:Int)<3 by decide)
  omega
 generalize 1+cL ns 0 % 3=w at hw
 generalize 1+cL ns 0 / 3 % 3=h at hh
 have q3:=p1.trans p2
 simp only [dY,aJ]
 refine ⟨Vk _,?_⟩
 simp only [UH,UI,dQ]
 refine Ex ?_
 simp only [aM,aJ,aW,aE,aF]
 refine Sj k ns hw hh c ws hws _ (aN (q3.trans (aQ _ _)) hc) _ fun b fs μ4 p4 g4 l4=>?_
 refine ⟨b,fs.map PP,rfl,g4,?_⟩
 have hne:b≠μ2.length\/fs=[]:=by
  by_cases z:b=μ2.length
  ·right
   have z1:=aN p4 (bB μ2 (C.lst []))
   rw [z,z1] at g4
   injection g4 with g4
   injection g4 with g4
   cases fs with
   | nil=>rfl
   | cons _ _=>cases g4
  ·exact .inl z
 rcases hne with hne|rfl
 ·refine yU (fun i ρ μ'=>μ2 <+: μ'/\μ'[b]? = some (.lst (fs.map PP))/\∃ (ms:List ((Int×Int)×Str))(o6 o7 o8:Option D),μ'[μ2.length]? = some (.lst (ms.map MD))/\ms.length<=i/\i<=fs.length/\ρ=[some (.rol (ns.map D.int)),some (.int 3),some (.loc c),some (.int w),some (.int h),some (.loc μ2.length),o6,o7,o8]) ⟨(aQ _ _).trans p4,g4,[],none,none,none,aN p4 (bB _ _),UJ _,Vk _,rfl⟩ (fun i ρ μ' hI=>hI.2.1) ?_ ?_
  ·rintro i d ρ μ5 hd ⟨hp,hgb,ms,o6,o7,o8,hg,hf,_,rfl⟩
   obtain ⟨q,hq,rfl⟩:=iJ hd
   have hi:i<fs.length:=(UA.mp hq).1
   refine ⟨[some (.rol (ns.map D.int)),some (.int 3),some (.loc c),some (.int w),some (.int h),some (.loc μ2.length),some (.int i),some (PP q),o8],rfl,?_⟩
   have h9:0<=(i:Int) % 9/\(i:Int) % 9<9:=⟨VI _ (by decide),VB _ (by decide)⟩
   simp only [UH,UI,bG,bU,aT,aW,aM,aJ,aE,aF,aX,RB,c8]
   refine iH (k+2) ns _ (by omega) _ _ fun μ6 p6=>?_
   simp only [EE,c8]
   refine (dM (.inr (by omega))).mpr ((dM (.inl (by omega))).mpr ?_)
   simp only [c8,UH,UI,gE]
   have hg6:=aN p6 hg
   refine gJ ?_
   simp only [aE,aF]
   refine ⟨gM hg6,?_⟩
   simp only [aM,aJ,eS,aE,aF,aT,aX]
   refine (cF (by decide)).mpr ((cF (by decide)).mpr ?_)
   refine Sn ⟨VI _ (by decide),VB _ (by decide)⟩ fun s=>?_
   refine ⟨gO,?_⟩
   refine (jK hg6 (by rw [Uz,U4];omega)).mpr ?_
   refine ⟨eA (hp.trans p6) (UJ _) _,?_,ms++[(q,s)],_,_,_,?_,by rw [U5];exact Yp hf,hi,rfl⟩
   ·rw [lL (VH hne)]
    exact aN p6 hgb
   ·rw [dZ hg6,Vb]
    rfl
  ·rintro ρ μ5 ⟨hp,hgb,ms,o6,o7,o8,hg,hf,_,rfl⟩
   simp only [w_mRet,eS,aM,aJ,aE,aF,aW]
   refine (Ey hg).mpr ⟨Fm,?_⟩
   exact H w h ms _ hw hh (q3.trans hp) (by rw [Uz] at hf;omega)
 ·refine yU (xs:=[]) (fun i ρ μ'=>μ'=μ4/\ρ=[some (.rol (ns.map D.int)),some (.int 3),some (.loc c),some (.int w),some (.int h),some (.loc μ2.length),none,none,none]) ⟨rfl,rfl⟩ (fun i ρ μ' hI=>by rw [hI.1];exact g4) (fun i d ρ μ' hd=>by simp at hd) ?_
  rintro ρ μ5 ⟨rfl,rfl⟩
  simp only [w_mRet,eS,aM,aJ,aE,aF,aW]
  refine (Ey (xs:=([]:List ((Int×Int)×Str)).map MD) (aN p4 (bB _ _))).mpr ⟨Fm,?_⟩
  exact H w h [] _ hw hh (q3.trans ((aQ _ _).trans p4)) (Vk _)
theorem FT (k:Nat)(x y:Int)(μ:Hm)(Q:D×Hm->Prop):W (f (k+1) "is_edge" [P x y] μ) Q↔Q (.bl (iL (x,y)),μ):=by
 rw [QD,W_fin]
 simp only [bG,w_mRet,cZ,dJ,cQ,mR,aT,aX,aE,iF,iT,fA,Eg,oP,mU]
 unfold iL
 by_cases h:x % 2=1
 ·simp [h]
 ·have e:(x % 2 == 1)=false:=by simpa using h
  simp only [e,h,UN,if_false]
  cases y % 2 == 0<;>simp
theorem FU (k:Nat)(x y:Int)(μ:Hm)(Q:D×Hm->Prop):W (f (k+1) "is_quarter" [P x y] μ) Q↔Q (.bl (jP (x,y)),μ):=by
 rw [QF,W_fin]
 simp only [bG,w_mRet,cZ,dJ,cQ,mR,aT,aX,aE,iF,iT,fA,Eg,oP,mU]
 unfold jP
 by_cases h:x % 2=1
 ·simp [h]
 ·have e:(x % 2 == 1)=false:=by simpa using h
  simp only [e,h,UN,if_false]
  cases x % 4 == 2<;>simp
theorem zR:(4:Nat)<=UM:=by decide
theorem FV (k:Nat)(q:Int×Int)(μ:Hm):f (k+1) "beside" [PP q] μ=some (.loc μ.length,μ++[C.lst [P (q.1 - 1) q.2,P q.1 (q.2 - 1),P q.1 (q.2+1),P (q.1+1) q.2]]):=by
 rw [QK]
 kernel_rfl
theorem Th (k:Nat)(q:Int×Int)(μ:Hm)(Q:D×Hm->Prop)(H:∀ a μ',μ <+: μ'->μ'[a]? = some (.lst (((iZ q).filter iL).map PP))->μ.length<=a->Q (.loc a,μ')):W (f (k+2) "edges_of" [PP q] μ) Q:=by
 rw [QM,W_fin]
 simp only [w_mRet]
 refine fB (xs:=(iZ q).map PP) (p:=fun d=>iL (dR d)) (v:=fun d=>d) ?_
 refine w_iSeq.mpr (y8 rfl ?_)
 rw [FV,W_some]
 have g1:(μ++[C.lst [P (q.1 - 1) q.2,P q.1 (q.2 - 1),P q.1 (q.2+1),P (q.1+1) q.2]])[μ.length]? = some (.lst ((iZ q).map PP)):=bB _ _
 refine (c4 g1).mpr ⟨iV g1,rfl,zR,fun d μ' hd hp=>?_,fun d μ' hd _ hp=>?_,fun μ' hp hg=>?_⟩
 ·obtain ⟨u,v,rfl⟩:=jM hd
  simp only [Vc,Vf,iS,aW,aM,aJ,aE,aF,FT,iU]
  exact ⟨rfl,U0 _⟩
 ·simp only [Vc,Vf,aE,aF]
  exact ⟨trivial,U0 _⟩
 ·refine H _ _ ((aQ _ _).trans hp) ?_ (by simp)
  rw [hg,lJ iL]
theorem Ti (k:Nat)(w h x y:Int)(μ:Hm)(Q:D×Hm->Prop):W (f (k+1) "is_within" [.int w,.int h,P x y] μ) Q↔Q (.bl (qZ w h (x,y)),μ):=by
 rw [QX,W_fin]
 simp only [w_mRet,mR,Qp,aT,aX,aE,aF,iF,iT,yP,mT]
 unfold qZ
 dsimp only
 cases decide (0<x)<;>cases decide (x<4 * w)<;>cases decide (0<y)<;>cases decide (y<4 * h)<;>simp
noncomputable def NB (q e:Int×Int):D:=.tup [PP e,PP (bY q e)]
theorem Tj (k:Nat)(w h:Int)(q:Int×Int)(μ:Hm)(Q:D×Hm->Prop)(H:∀ a μ',μ <+: μ'->μ'[a]? = some (.lst ((i0 w h q).map (NB q)))->μ.length<=a->Q (.loc a,μ')):W (f (k+3) "neighbours_in" [.int w,.int h,PP q] μ) Q:=by
 rw [Q2,W_fin]
 simp only [w_mRet]
 refine fB (xs:=((iZ q).filter iL).map PP) (p:=fun d=>qZ w h (dR d)) (v:=fun d=>NB q (dR d)) ?_
 simp only [w_iSeq,aW,aM,aJ,aE,aF]
 refine Th k q _ _ fun a μ1 p1 g1 l1=>?_
 refine (c4 g1).mpr ⟨iV g1,rfl,?_,fun d μ' hd hp=>?_,fun d μ' hd _ hp=>?_,fun μ' hp hg=>?_⟩
 ·rw [Uz]
  exact VG (VS _ _) zR
 ·obtain ⟨u,v,rfl⟩:=jM hd
  simp only [Vc,Vf,iS,aW,aM,aJ,aE,aF,Ti,iU]
  exact ⟨rfl,U0 _⟩
 ·obtain ⟨u,v,rfl⟩:=jM hd
  simp only [Vc,Vf,eS,aW,aM,aJ,aE,aF,EJ,gO,true_and]
  exact ⟨rfl,U0 _⟩
 ·refine H _ _ (p1.trans hp) ?_ p1.length_le
  rw [hg]
  have:=lJ (qZ w h) ((iZ q).filter iL)
  rw [a3S] at this
  rw [this,UU]
  rfl
theorem Tn (k:Nat)(w h:Int)(hw:1<=w/\w<=3)(hh:1<=h/\h<=3)(μ:Hm)(Q:D×Hm->Prop)(H:∀ a μ',μ <+: μ'->μ'[a]? = some (.lst ((oV w h).map PP))->Q (.loc a,μ')):W (f (k+2) "quarters_in" [.int w,.int h] μ) Q:=by
 rw [QZ,W_fin]
 simp only [w_mRet]
 refine fB (xs:=(c9 w h).map PP) (p:=fun d=>jP (dR d)) (v:=fun d=>d) ?_
 simp only [w_iSeq,aW,aM,aJ,aE,aF]
 refine zD _ w h (by omega) (by omega) _ _ fun a μ1 p1 g1 l1=>?_
 refine (c4 g1).mpr ⟨iV g1,rfl,?_,fun d μ' hd hp=>?_,fun d μ' hd _ hp=>?_,fun μ' hp hg=>?_⟩
 ·have:=zE (w:=w) (h:=h) (by omega) (by omega)
  rw [Uz,U4];omega
 ·obtain ⟨u,v,rfl⟩:=jM hd
  simp only [Vc,Vf,iS,aW,aM,aJ,aE,aF,FU,iU]
  exact ⟨rfl,U0 _⟩
 ·simp only [Vc,Vf,aE,aF]
  exact ⟨trivial,U0 _⟩
 ·refine H _ _ (p1.trans hp) ?_
  rw [hg,lJ jP]
  rfl
theorem To (k:Nat){w h:Int}(hw:1<=w/\w<=3)(hh:1<=h/\h<=3)(ms:List ((Int×Int)×Str))(hb:(c9 w h).find? (kI ms)=none)(μ:Hm)(Q:D×Hm->Prop)(H:∀ μ',μ <+: μ'->Q (.non,μ')):W (f (k+6) "check_corners" [SH w h ms] μ) Q:=by
 rw [Q7,W_fin]
 simp only [bG,bU,aW,aM,aJ,aE]
 refine Fy k hw hh ms _ _ fun μ' hp=>?_
 rw [hb]
 simp only [uD,UH,UI,dJ,cQ,aT,aE,aF,aX,Es,UN,if_false,cZ]
 exact H _ hp
noncomputable def bN (kvs:Kv):List (List Int×D):=kvs.map fun p=>(a8 p.1,LD p.2)
theorem FW (kvs:Kv)(q:Int×Int):(bC (bN kvs) (a8 q)).isSome=decide (q∈kvs.map (·.1)):=by
 rw [oR]
 induction kvs with
 | nil=>rfl
 | cons p kvs ih=>
  show (decide (a8 p.1=a8 q)||(bN kvs).any _)=_
  rw [ih,uC]
  simp only [UQ,U6,Bool.decide_or]
  congr 1
  rw [Yw,beq_iff_eq,decide_eq_true_iff]
  exact eq_comm
theorem FX {kvs:Kv}{q:Int×Int}(h:q∈kvs.map (·.1)):bC (bN kvs) (a8 q)=some (LD (bW kvs q)):=by
 induction kvs with
 | nil=>simp at h
 | cons p kvs ih=>
  unfold bC bW bN
  rw [UQ,VE,VE]
  dsimp only
  rw [uC]
  cases z:p.1 == q with
  | true=>rfl
  | false=>
   rcases U6.mp h with h|h
   ·simp [h] at z
   ·exact ih h
theorem FY {kvs:Kv}{q:Int×Int}(h:q∉kvs.map (·.1))(A:Ly):cC (bN kvs) (a8 q) (LD A)=bN (kvs++[(q,A)]):=by
 unfold cC
 rw [FW,decide_eq_false h,if_neg (by simp)]
 unfold bN
 rw [Vb]
 rfl
theorem zS {l:List (List Int×D)}(nd:(l.map (·.1)).Nodup){k:List Int}{d:D}(h:(k,d)∈l):bC l k=some d:=by
 induction l with
 | nil=>cases h
 | cons p l ih=>
  rw [UQ,Wr] at nd
  unfold bC
  rw [VE]
  rcases U6.mp h with h|h
  ·rw [<- h]
   simp
  ·have:decide (p.1=k)=false:=decide_eq_false fun z=>nd.1 (UR.mpr ⟨_,h,z.symm⟩)
   rw [this]
   exact ih nd.2 h
theorem Tp {l:List (List Int×D)}(nd:(l.map (·.1)).Nodup)(h0:0<l.length){k:List Int}{d:D}(h:bC l k=some d):bC (dP l) k=some d:=by
 have hp:(dP l).Perm l:=by
  unfold dP
  have p:=(gD (fun i j=>HT.lexLt ((l.map (·.1)).getD i []) ((l.map (·.1)).getD j [])) h0).map fun i=>l.getD i ([],.non)
  rw [t9] at p
  exact p
 exact zS ((hp.map (·.1)).nodup_iff.mpr nd) (hp.mem_iff.mpr (zI h))
theorem uK {p q:Int×Int}(h:a8 p=a8 q):p=q:=by
 have:=uC p q
 rw [decide_eq_true h] at this
 simpa using this.symm
theorem FZ {kvs:Kv}(nd:(kvs.map (·.1)).Nodup):((bN kvs).map (·.1)).Nodup:=by
 have e:(bN kvs).map (·.1)=(kvs.map (·.1)).map a8:=by
  unfold bN
  rw [UU,UU]
  rfl
 rw [e]
 exact a0P _ (fun a b hab z=>hab (uK z)) nd
theorem Tq {c:MT}{b:MS}{Q:Fl×aL×Hm->Prop}(I:Nat->aL->Hm->Prop)
  (hs:∀ m ρ μ,I m ρ μ->W (c ρ μ) fun p=>if p.1=true then W (b ρ p.2) fun q=>match q.1 with
   | .nx=>∃ m',m'<m/\I m' q.2.1 q.2.2
   | .ct=>∃ m',m'<m/\I m' q.2.1 q.2.2
   | .bk=>Q (.nx,q.2.1,q.2.2)
   | .rt d=>Q (.rt d,q.2.1,q.2.2) else Q (.nx,ρ,p.2)):∀ (n m:Nat)(ρ:aL)(μ:Hm),m<n->I m ρ μ->W (mE c b n ρ μ) Q:=by
 intro n
 induction n with
 | zero=>intro m ρ μ h;omega
 | succ n ih=>
  intro m ρ μ hm hI
  unfold mE
  rw [W_bind]
  refine bT (hs m ρ μ hI) fun p hp=>?_
  obtain ⟨pb,pμ⟩:=p
  cases pb with
  | false=>exact W_some.mpr (by simpa using hp)
  | true=>
   simp only [if_true] at hp
   dsimp only
   rw [W_bind]
   refine bT hp fun q hq=>?_
   obtain ⟨fl,qρ,qμ⟩:=q
   cases fl with
   | nx=>obtain ⟨m',h1,h2⟩:=hq;exact ih m' _ _ (by omega) h2
   | ct=>obtain ⟨m',h1,h2⟩:=hq;exact ih m' _ _ (by omega) h2
   | bk=>exact W_some.mpr hq
   | rt d=>exact W_some.mpr hq
theorem Ts {c:MT}{b:MS}{ρ:aL}{μ:Hm}{Q:Fl×aL×Hm->Prop}(I:Nat->aL->Hm->Prop)(m:Nat)(hm:m<1000000000)(h0:I m ρ μ)
  (hs:∀ m ρ μ,I m ρ μ->W (c ρ μ) fun p=>if p.1=true then W (b ρ p.2) fun q=>match q.1 with
   | .nx=>∃ m',m'<m/\I m' q.2.1 q.2.2
   | .ct=>∃ m',m'<m/\I m' q.2.1 q.2.2
   | .bk=>Q (.nx,q.2.1,q.2.2)
   | .rt d=>Q (.rt d,q.2.1,q.2.2) else Q (.nx,ρ,p.2)):W (pP qO c b ρ μ) Q:=by
 unfold pP
 exact Tq I hs qO m ρ μ (by unfold qO;exact hm) h0
theorem Tt {μ:Hm}{a:Nat}{xs:List D}{Q:Bool->Prop}(h:μ[a]? = some (.lst xs)):W (kU μ (.loc a)) Q↔Q (!xs.isEmpty):=by
 simp only [kU,h]
 exact W_some
theorem Tu {μ:Hm}{a:Nat}{xs:List D}{y:D}{Q:D×Hm->Prop}(h:μ[a]? = some (.lst (xs++[y]))):W (mD (.loc a) [] μ) Q↔Q (y,μ.set a (.lst xs)):=by
 have:mD (.loc a) [] μ=some (y,μ.set a (.lst xs)):=by
  simp only [mD,h]
  simp
 rw [this]
 exact W_some
theorem Tv {m:ME}{ρ:aL}{μ:Hm}{Q:D×Hm->Prop}:W (n8 m ρ μ) Q↔W (m ρ μ) fun p=>W (n6 p.1 p.2) Q:=by
 unfold n8
 rw [W_bind]
theorem Tw {μ:Hm}{a:Nat}{kvs:List (List Int×D)}{Q:D×Hm->Prop}(h:μ[a]? = some (.dT kvs))(hl:2<=kvs.length/\kvs.length<64):W (n6 (.loc a) μ) Q↔Q (.loc μ.length,μ++[.dT (dP kvs)]):=by
 have:n6 (.loc a) μ=some (.loc μ.length,μ++[.dT (dP kvs)]):=by
  simp only [n6,h]
  rw [if_pos hl]
 rw [this]
 exact W_some
theorem Tx {i:Nat}{y:D}{ρ:aL}{μ:Hm}{x:D}{k:List Int}{Q:D×Hm->Prop}(h:ρ[i]? = some (some x))(hk:cS x=some k):W (n9 (aA i) (mC y) ρ μ) Q↔Q (.loc μ.length,μ++[.dT [(k,y)]]):=by
 have:n9 (aA i) (mC y) ρ μ=some (.loc μ.length,μ++[.dT [(k,y)]]):=by
  unfold n9 aA mC
  simp only [h,UZ,bB,hk,U7,zF]
 rw [this]
 exact W_some
noncomputable def zT (ms:List ((Int×Int)×Str)):List (List Int×D):=(ms.map fun m=>(a8 m.1,D.str m.2)).foldl (fun q p=>cC q p.1 p.2) []
structure LI (ms:List ((Int×Int)×Str))(f0:Int×Int)(μ3:Hm)(s:List (Int×Int)×Tr)(μ':Hm):Prop where
 pre:μ3 <+: μ'
 dic:μ'[μ3.length]? = some (.dT (bN (cM (bR ms) [(f0,dA)] s.2)))
 due:μ'[μ3.length+1]? = some (.lst (s.1.map PP))
 sub:∀ q∈s.1,q∈i7 f0 s.2
theorem q8 (m:Int×Int->Bool)(f0:Int×Int)(t:Tr):(cM m [(f0,dA)] t).map (·.1)=i7 f0 t:=zP m t _
theorem F0 (m:Int×Int->Bool)(f0:Int×Int)(t:Tr)(q:Int×Int):Dih (bW (cM m [(f0,dA)] t) q):=
 FQ (FR m t _ fun p hp=>by rw [Vp.mp hp];exact FC) q
theorem F1 (m:Int×Int->Bool)(f0:Int×Int)(t:Tr):(bN (cM m [(f0,dA)] t)).length=t.length+1:=by
 have:=congrArg Vq (q8 m f0 t)
 unfold bN
 rw [Uz] at this ⊢
 rw [this]
 simp [i7]
noncomputable def F2 (k:Nat):MS:=bF (aR (aB (dG true) (aA 7) (aA 3))) (aH (iA (aA 3) (aA 7) (jA (aR (aB (dG false) (aA 6) (aA 1))) (aG (f (k+6) "then") (aC (aG (f (k+6) "mirror_in") (aC (aA 6) aD)) (aC (aB aI (aA 3) (aA 5)) aD))) (aB aI (aA 3) (aA 5)))) (dD (cT dN (aA 4) (aC (aA 7) aD)))) bJ
noncomputable abbrev RL (w h:Int)(ms:List ((Int×Int)×Str))(a1:Nat)(f0:Int×Int)(n:Nat)(o5 o6 o7:Option D):aL:=[some (SH w h ms),some (.loc a1),some (PP f0),some (.loc n),some (.loc (n+1)),o5,o6,o7]
theorem Tz (k:Nat){w h:Int}{ms:List ((Int×Int)×Str)}{f0 here e:Int×Int}{μ3 μ':Hm}{a1:Nat}{s:List (Int×Int)×Tr}(hm:μ3[a1]? = some (.dT (zT ms)))(I:LI ms f0 μ3 s μ')(hh:here∈i7 f0 s.2)(hl:s.1.length<=500)(hl2:s.2.length<=500){Q:Fl×aL×Hm->Prop}
  (H:∀ μ'',LI ms f0 μ3 (fS f0 here s e) μ''->(∀ b c,μ3.length+2<=b->μ'[b]? = some c->μ''[b]? = some c)->Q (.nx,RL w h ms a1 f0 μ3.length (some (PP here)) (some (PP e)) (some (PP (bY here e))),μ'')) :
  W (F2 k (RL w h ms a1 f0 μ3.length (some (PP here)) (some (PP e)) (some (PP (bY here e)))) μ') Q:=by
 have hmk:=aN I.pre hm
 unfold F2
 simp only [dJ,cQ,aT,aE,aF]
 refine (yW I.dic (cR _)).mpr ?_
 rw [FW,q8]
 unfold fS at H
 by_cases hn:bY here e∈i7 f0 s.2
 ·rw [if_pos hn] at H
  simp only [hn,decide_true,WI,if_true,UN,if_false,cZ]
  exact H _ I fun b c _ z=>z
 ·rw [if_neg hn] at H
  simp only [hn,decide_false,W8,if_true,bG,oN,yN,cQ,aT,aE,aF]
  refine (yW hmk (cR e)).mpr ?_
  have hv:bC (bN (cM (bR ms) [(f0,dA)] s.2)) (a8 here)=some (LD (bW (cM (bR ms) [(f0,dA)] s.2) here)):=FX (by rw [q8];exact hh)
  have hd:=F0 (bR ms) f0 s.2 here
  have es:(bC (zT ms) (a8 e)).isSome=bR ms e:=Fs ms e
  simp only [UN,if_false,es]
  have fin:∀ A:Ly,A=st (bR ms) e (bW (cM (bR ms) [(f0,dA)] s.2) here)->W (mK (.loc μ3.length) (PP (bY here e)) (LD A) μ') fun μ''=>W (dD (cT dN (aA 4) (aC (aA 7) aD)) (RL w h ms a1 f0 μ3.length (some (PP here)) (some (PP e)) (some (PP (bY here e)))) μ'') Q:=by
   rintro A rfl
   refine (oO I.dic (cR _) (by rw [F1,U4];omega)).mpr ?_
   rw [FY (by rw [q8];exact hn)]
   have gd:(μ'.set μ3.length (.dT (bN (cM (bR ms) [(f0,dA)] s.2++[(bY here e,st (bR ms) e (bW (cM (bR ms) [(f0,dA)] s.2) here))]))))[μ3.length+1]? = some (.lst (s.1.map PP)):=by
    rw [lL (by omega)]
    exact I.due
   simp only [gE]
   refine gJ ?_
   simp only [aE,aF]
   refine ⟨gM gd,?_⟩
   simp only [aM,aJ,aE,aF]
   refine (jK gd (by rw [Uz,U4];omega)).mpr ?_
   refine H _ ⟨eA (eA I.pre (UJ _) _) (by omega) _,?_,?_,?_⟩ fun b c hb z=>?_
   ·rw [lL (by omega),FP]
    exact dZ I.dic
   ·rw [dZ gd,Vb]
    rfl
   ·intro q hq
    show q∈f0::(s.2++[(bY here e,e,here)]).map (·.1)
    rw [Vb]
    rcases Vz.mp hq with hq|hq
    ·rcases U6.mp (I.sub q hq) with z|z
     ·exact U6.mpr (.inl z)
     ·exact U6.mpr (.inr (Vz.mpr (.inl z)))
    ·exact U6.mpr (.inr (Vz.mpr (.inr hq)))
   ·rw [lL (by omega),lL (by omega)]
    exact z
  cases hi:bR ms e with
  | true=>
   simp only [if_true,aW,aM,aJ,aE,aF,aT]
   refine (S1 (k+3) e.1 e.2 _ _).mpr ?_
   refine (fC I.dic (cR _) hv).mpr ((S2 (k+4) _ _ (Fz _) hd _ _).mpr ?_)
   refine fin _ ?_
   unfold st
   rw [hi,if_pos rfl]
  | false=>
   simp only [UN,if_false,aT,aE,aF]
   refine (fC I.dic (cR _) hv).mpr (fin _ ?_)
   unfold st
   rw [hi,if_neg (by simp)]
theorem F3 {w h:Int}{f0:Int×Int}{i:Nat}(hi:(eK w h f0 i).1=[]):∀ j,eK w h f0 (i+j)=eK w h f0 i
 | 0=>rfl
 | j+1=>by
  show q0 w h f0 (eK w h f0 (i+j))=_
  rw [F3 hi j]
  unfold q0
  rw [hi]
  rfl
theorem F5 (w h:Int)(q:Int×Int):(i0 w h q).length<=4:=VG (VS _ _) (VS _ _)
theorem TB (f0 here e:Int×Int)(s:List (Int×Int)×Tr):(fS f0 here s e).1.length<=s.1.length+1/\(fS f0 here s e).2.length<=s.2.length+1:=by
 unfold fS
 split
 ·omega
 ·simp
theorem TC {f0 here e q:Int×Int}{s:List (Int×Int)×Tr}(h:q∈i7 f0 s.2):q∈i7 f0 (fS f0 here s e).2:=by
 unfold fS
 split
 ·exact h
 ·show q∈f0::(s.2++[(bY here e,e,here)]).map (·.1)
  rw [Vb]
  rcases U6.mp h with z|z
  ·exact U6.mpr (.inl z)
  ·exact U6.mpr (.inr (Vz.mpr (.inl z)))
theorem TF {q:Int×Int}{es:List (Int×Int)}{i:Nat}{d:D}(h:(es.map (NB q))[i]? = some d):∃ e,es[i]? = some e/\d=NB q e:=by
 rw [Vd] at h
 obtain ⟨e,h1,h2⟩:=UB.mp h
 exact ⟨e,h1,h2.symm⟩
theorem F6 {α β:Type}{g:β->α->β}{b:β}{l:List α}{i:Nat}{x:α}(h:l[i]? = some x):(l.take (i+1)).foldl g b=g ((l.take i).foldl g b) x:=by
 rw [YR,h,YT]
 rfl
theorem TH (k:Nat){w h:Int}(hw:1<=w/\w<=3)(hh:1<=h/\h<=3)(ms:List ((Int×Int)×Str))(hb:(c9 w h).find? (kI ms)=none)(μ:Hm)(Q:D×Hm->Prop)
  (H:∀ a kvs μ',μ <+: μ'->μ'[a]? = some (.dT kvs)->(∀ q∈bV w h,bC kvs (a8 q)=some (LD (bW (gU (bR ms) w h) q)))->Q (.loc a,μ')):W (f (k+7) "laid" [SH w h ms] μ) Q:=by
 obtain ⟨t1,t2,t3,t4,t5,t6,t7⟩:=FN w (cI hw) h (cI hh)
 rw [Rc,W_fin]
 simp only [bG,gE,aW,aM,aJ,aE]
 refine To k hw hh ms hb _ _ fun μ1 p1=>?_
 simp only [bU,aW,aM,aJ,aE]
 rw [EB,W_fin]
 simp only [w_mRet,aW,aM,aJ,aT,aE,aX,Ft,Fu,UH,UI,bG,bU,aF,mY,mZ]
 refine Tn (k+4) w h hw hh _ _ fun b μ3 p3 g3=>?_
 have hf:atI ((oV w h).map PP) 0=some (PP (first w h)):=by
  have hq:oV w h≠[]:=by
   intro z
   have hp:∀ w∈[(1:Int),2,3],∀ h∈[(1:Int),2,3],oV w h≠[]:=by decide +kernel
   exact hp w (cI hw) h (cI hh) z
  unfold first
  match hz:oV w h,hq with
  | q::qs,_=>
   unfold atI
   rw [qX (a4H 0) (by simp)]
   rfl
 refine (lH g3 hf).mpr ?_
 simp only [UH,UI]
 refine (Tx (x:=PP (first w h)) rfl (cR _)).mpr ?_
 simp only [UH,UI,dY,aM,aJ,aE,aF]
 refine ⟨by show (1:Nat)<=UM;decide,?_⟩
 have hm:μ3[μ1.length]? = some (.dT (zT ms)):=aN p3 (bB _ _)
 have pq:μ <+: μ3:=p1.trans ((aQ _ _).trans p3)
 refine Ts (fun m ρ μ'=>∃ i,m+i=36/\LI ms (first w h) μ3 (eK w h (first w h) i) μ'/\(eK w h (first w h) i).1.length<=5 * i+1/\(eK w h (first w h) i).2.length<=5 * i/\∃ o5 o6 o7,ρ=RL w h ms μ1.length (first w h) μ3.length o5 o6 o7) 36 (by decide) ⟨0,rfl,⟨?_,?_,?_,?_⟩,by simp [eK],by simp [eK],none,none,none,?_⟩ ?_
 ·exact (aQ _ _).trans (aQ _ _)
 ·refine (aN (aQ _ _) (bB _ _)).trans ?_
  rfl
 ·have:=bB (μ3++[C.dT [(a8 (first w h),yY)]]) (.lst [PP (first w h)])
  rw [U5] at this
  exact this
 ·intro q hq
  exact U6.mpr (.inl (by simpa [eK] using hq))
 ·rw [U5]
  rfl
 ·rintro m ρ μ4 ⟨i,hmi,I,n1,n2,o5,o6,o7,rfl⟩
  simp only [iS,aE,aF]
  refine (Tt I.due).mpr ?_
  generalize hs:eK w h (first w h) i=s at I n1 n2
  rcases List.eq_nil_or_concat s.1 with z|⟨ds,here,z⟩
  ·have e1:(!(s.1.map PP).isEmpty)=false:=by rw [z];rfl
   rw [e1]
   simp only [UN,if_false]
   have et:s=eK w h (first w h) 36:=by
    rw [<- hs,<- hmi,a4g]
    exact (F3 (by rw [hs];exact z) m).symm
   have dic:=I.dic
   rw [et] at dic
   simp only [w_mRet,Tv,aE,aF]
   have hlen:=F1 (bR ms) (first w h) (fE w h)
   refine (Tw dic ?_).mpr ?_
   ·show 2<=(bN (cM (bR ms) [(first w h,dA)] (fE w h))).length/\(bN (cM (bR ms) [(first w h,dA)] (fE w h))).length<64
    rw [hlen]
    omega
   ·have nd:((cM (bR ms) [(first w h,dA)] (fE w h)).map (·.1)).Nodup:=by
     rw [zP]
     exact (zQ (bR ms) (fE w h) [(first w h,dA)] t2).2.2 (by simp)
    refine H _ _ _ (pq.trans (I.pre.trans (aQ _ _))) (bB _ _) fun q hq=>?_
    refine Tp (FZ nd) ?_ (FX (kvs:=cM (bR ms) [(first w h,dA)] (fE w h)) ?_)
    ·show 0<(bN (cM (bR ms) [(first w h,dA)] (fE w h))).length
     rw [hlen]
     omega
    ·rw [q8]
     exact t4 q hq
  ·have e1:(!(s.1.map PP).isEmpty)=true:=by rw [z];simp
   rw [e1]
   simp only [if_true,bG,bU]
   have hm0:0<m:=by
    rcases Nat.eq_zero_or_pos m with q|q
    ·exfalso
     have:i=36:=by omega
     subst this
     rw [hs] at t1
     rw [t1] at z
     simp at z
    ·exact q
   refine gJ ?_
   simp only [aE,aF]
   refine ⟨gM I.due,?_⟩
   simp only [aJ]
   have due:=I.due
   rw [z,List.concat_eq_append,Vb] at due
   refine (Tu due).mpr ?_
   simp only [UH,UI,dQ,w_iSeq,aW,aM,aJ,aT,aX,aE,aF,mY,mZ]
   have zl:s.1.length=ds.length+1:=by rw [z];simp
   have I1:LI ms (first w h) μ3 (ds,s.2) (μ4.set (μ3.length+1) (.lst (ds.map PP))):=
    ⟨eA I.pre (by omega) _,by rw [lL (by omega)];exact I.dic,dZ due,fun q hq=>I.sub q (by rw [z];simp [hq])⟩
   have hk:here∈i7 (first w h) s.2:=I.sub here (by rw [z];simp)
   refine Tj (k+3) w h here _ _ fun b μ5 p5 g5 l5=>?_
   refine (c4 g5).mpr ?_
   have hlt:μ3.length+1<(μ4.set (μ3.length+1) (.lst (ds.map PP))).length:=(UA.mp I1.due).1
   have I2:LI ms (first w h) μ3 (ds,s.2) μ5:=⟨I1.pre.trans p5,aN p5 I1.dic,aN p5 I1.due,I1.sub⟩
   have er:eK w h (first w h) (i+1)=(i0 w h here).foldl (fS (first w h) here) (ds,s.2):=by
    show q0 w h (first w h) (eK w h (first w h) i)=_
    rw [hs]
    unfold q0
    rw [z]
    simp
   refine fQ (fun j ρ μ'=>LI ms (first w h) μ3 (((i0 w h here).take j).foldl (fS (first w h) here) (ds,s.2)) μ'/\μ'[b]? = some (.lst ((i0 w h here).map (NB here)))/\here∈i7 (first w h) (((i0 w h here).take j).foldl (fS (first w h) here) (ds,s.2)).2 /\
    (((i0 w h here).take j).foldl (fS (first w h) here) (ds,s.2)).1.length<=ds.length+j/\(((i0 w h here).take j).foldl (fS (first w h) here) (ds,s.2)).2.length<=s.2.length+j/\j<=4/\∃ o6 o7,ρ=RL w h ms μ1.length (first w h) μ3.length (some (PP here)) o6 o7)
    ⟨I2,g5,hk,UJ _,UJ _,by omega,o6,o7,rfl⟩ (fun j ρ μ' hI=>hI.2.1) ?_ ?_
   ·rintro j d ρ μ6 hd ⟨I6,gb,hk6,m1,m2,hj,o6,o7,rfl⟩
    obtain ⟨e,he,rfl⟩:=TF hd
    refine ⟨RL w h ms μ1.length (first w h) μ3.length (some (PP here)) (some (PP e)) (some (PP (bY here e))),rfl,?_⟩
    have hj1:j<(i0 w h here).length:=(UA.mp he).1
    have:=F5 w h here
    refine Tz k hm I6 hk6 (by omega) (by omega) fun μ7 I7 keep=>?_
    rw [F6 he]
    have vl:=TB (first w h) here e (((i0 w h here).take j).foldl (fS (first w h) here) (ds,s.2))
    exact ⟨I7,keep _ _ (by omega) gb,TC hk6,by omega,by omega,by omega,_,_,rfl⟩
   ·rintro ρ μ6 ⟨I6,gb,hk6,m1,m2,hj,o6,o7,rfl⟩
    rw [Uz,V6,<- er] at I6 m1 m2
    have:=F5 w h here
    exact ⟨m - 1,by omega,i+1,by omega,I6,by omega,by omega,_,_,_,rfl⟩
noncomputable abbrev Gr:=List ((Int×Int)×List (Int×Int))
noncomputable def d4 (G:Gr)(p q:Int×Int):Gr:=if (G.map (·.1)).contains p then G.map (fun g=>if g.1=p then (g.1,g.2++[q]) else g) else G++[(p,[q])]
noncomputable abbrev Zr:=List ((Int×Int)×List (Int×Int)×Nat)
noncomputable def GZ (Z:Zr):Gr:=Z.map fun z=>(z.1,z.2.1)
noncomputable def bS (Z:Zr):List (List Int×D):=Z.map fun z=>(a8 z.1,D.loc z.2.2)
structure GI (μ0 μ:Hm)(a:Nat)(Z:Zr):Prop where
 pre:μ0 <+: μ
 lo:μ0.length<=a
 dic:μ[a]? = some (.dT (bS Z))
 kd:(Z.map (·.1)).Nodup
 bd:(Z.map (·.2.2)).Nodup
 at_:∀ z∈Z,μ0.length<=z.2.2/\μ[z.2.2]? = some (.lst (z.2.1.map PP))
theorem oW {Z:Zr}{z:(Int×Int)×List (Int×Int)×Nat}(kd:(Z.map (·.1)).Nodup)(h:z∈Z):bC (bS Z) (a8 z.1)=some (.loc z.2.2):=by
 refine zS ?_ (UR.mpr ⟨z,h,rfl⟩)
 have e:(bS Z).map (·.1)=(Z.map (·.1)).map a8:=by
  unfold bS
  rw [UU,UU]
  rfl
 rw [e]
 exact a0P _ (fun a b hab x=>hab (uK x)) kd
theorem zU {Z:Zr}{p:Int×Int}(h:p∉Z.map (·.1)):bC (bS Z) (a8 p)=none:=by
 unfold bC
 rw [Xd.mpr]
 ·rfl
 ·intro x hx
  obtain ⟨z,hz,rfl⟩:=UR.mp hx
  rw [decide_eq_true_iff]
  exact fun e=>h (UR.mpr ⟨z,hz,uK e⟩)
theorem zV {Z:Zr}{p:Int×Int}(h:p∈Z.map (·.1)):∃ z∈Z,z.1=p:=by
 obtain ⟨z,h1,h2⟩:=UR.mp h
 exact ⟨z,h1,h2⟩
theorem F7 {Z:Zr}(kd:(Z.map (·.1)).Nodup){z y:(Int×Int)×List (Int×Int)×Nat}(hz:z∈Z)(hy:y∈Z)(e:z.1=y.1):z=y:=by
 induction Z with
 | nil=>cases hz
 | cons x Z ih=>
  rw [UQ,Wr] at kd
  rcases U6.mp hz with h1|h1<;>rcases U6.mp hy with h2|h2
  ·rw [h1,h2]
  ·exact (kd.1 (UR.mpr ⟨y,h2,by rw [<- h1];exact e.symm⟩)).elim
  ·exact (kd.1 (UR.mpr ⟨z,h1,by rw [<- h2];exact e⟩)).elim
  ·exact ih kd.2 h1 h2
theorem TJ {Z:Zr}(bd:(Z.map (·.2.2)).Nodup){z y:(Int×Int)×List (Int×Int)×Nat}(hz:z∈Z)(hy:y∈Z)(e:z.2.2=y.2.2):z=y:=by
 induction Z with
 | nil=>cases hz
 | cons x Z ih=>
  rw [UQ,Wr] at bd
  rcases U6.mp hz with h1|h1<;>rcases U6.mp hy with h2|h2
  ·rw [h1,h2]
  ·exact (bd.1 (UR.mpr ⟨y,h2,by rw [<- h1];exact e.symm⟩)).elim
  ·exact (bd.1 (UR.mpr ⟨z,h1,by rw [<- h2];exact e⟩)).elim
  ·exact ih bd.2 h1 h2
theorem zW (Z:Zr):(GZ Z).map (·.1)=Z.map (·.1):=by
 unfold GZ
 rw [UU]
 rfl
theorem F8 {Z:Zr}{p q:Int×Int}(h:p∈Z.map (·.1)):d4 (GZ Z) p q=GZ (Z.map fun z=>if z.1=p then (z.1,z.2.1++[q],z.2.2) else z):=by
 unfold d4
 rw [zW,if_pos (Zg.mpr h)]
 unfold GZ
 rw [UU,UU]
 refine Vx fun z _=>?_
 show (if z.1=p then (z.1,z.2.1++[q]) else (z.1,z.2.1))=_
 by_cases e:z.1=p
 ·simp [e]
 ·simp [e]
theorem F9 {Z:Zr}{p q:Int×Int}{b:Nat}(h:p∉Z.map (·.1)):d4 (GZ Z) p q=GZ (Z++[(p,[q],b)]):=by
 unfold d4
 rw [zW,if_neg (fun z=>h (Zg.mp z))]
 unfold GZ
 rw [Vb]
 rfl
theorem GI.more {μ0 μ μ':Hm}{a:Nat}{Z:Zr}(I:GI μ0 μ a Z)(h:μ <+: μ'):GI μ0 μ' a Z:=⟨I.pre.trans h,I.lo,aN h I.dic,I.kd,I.bd,fun z hz=>⟨(I.at_ z hz).1,aN h (I.at_ z hz).2⟩⟩
theorem GI.ne {μ0 μ:Hm}{a:Nat}{Z:Zr}(I:GI μ0 μ a Z){z:(Int×Int)×List (Int×Int)×Nat}(hz:z∈Z):z.2.2≠a:=fun e=>by
 have h1:=(I.at_ z hz).2
 rw [e,I.dic] at h1
 cases h1
theorem GI.hit {μ0 μ:Hm}{a:Nat}{Z:Zr}(I:GI μ0 μ a Z){z:(Int×Int)×List (Int×Int)×Nat}(hz:z∈Z)(q:Int×Int) :
  GI μ0 (μ.set z.2.2 (.lst (z.2.1.map PP++[PP q]))) a (Z.map fun y=>if y.1=z.1 then (y.1,y.2.1++[q],y.2.2) else y):=by
 have ek:(Z.map fun y=>if y.1=z.1 then (y.1,y.2.1++[q],y.2.2) else y).map (·.1)=Z.map (·.1):=by
  rw [UU]
  refine Vx fun y _=>?_
  show (if y.1=z.1 then (y.1,y.2.1++[q],y.2.2) else y).1=y.1
  split<;>rfl
 have eb:(Z.map fun y=>if y.1=z.1 then (y.1,y.2.1++[q],y.2.2) else y).map (·.2.2)=Z.map (·.2.2):=by
  rw [UU]
  refine Vx fun y _=>?_
  show (if y.1=z.1 then (y.1,y.2.1++[q],y.2.2) else y).2.2=y.2.2
  split<;>rfl
 have ev:bS (Z.map fun y=>if y.1=z.1 then (y.1,y.2.1++[q],y.2.2) else y)=bS Z:=by
  unfold bS
  rw [UU]
  refine Vx fun y _=>?_
  show (a8 (if y.1=z.1 then (y.1,y.2.1++[q],y.2.2) else y).1,D.loc (if y.1=z.1 then (y.1,y.2.1++[q],y.2.2) else y).2.2)=_
  split<;>rfl
 refine ⟨eA I.pre (I.at_ z hz).1 _,I.lo,?_,by rw [ek];exact I.kd,by rw [eb];exact I.bd,fun y hy=>?_⟩
 ·rw [ev,U1 (I.ne hz)]
  exact I.dic
 ·obtain ⟨x,hx,rfl⟩:=UR.mp hy
  obtain ⟨l1,l2⟩:=I.at_ x hx
  by_cases e:x.1=z.1
  ·have:x=z:=F7 I.kd hx hz e
   subst this
   rw [if_pos rfl]
   refine ⟨l1,?_⟩
   show (μ.set x.2.2 _)[x.2.2]? = _
   rw [dZ l2,Vb]
   rfl
  ·rw [if_neg e]
   refine ⟨l1,?_⟩
   rw [U1 fun w=>e (by rw [TJ I.bd hx hz w.symm])]
   exact l2
theorem TK {Z:Zr}{p:Int×Int}{qs:List (Int×Int)}{b:Nat}(h:p∉Z.map (·.1)):cC (bS Z) (a8 p) (.loc b)=bS (Z++[(p,qs,b)]):=by
 unfold cC
 rw [zU h,if_neg (by simp)]
 unfold bS
 rw [Vb]
 rfl
theorem GI.new {μ0 μ:Hm}{a b:Nat}{Z:Zr}(I:GI μ0 μ a Z){p:Int×Int}(hp:p∉Z.map (·.1)){qs:List (Int×Int)}(hb:μ[b]? = some (.lst (qs.map PP)))(h0:μ0.length<=b)(hn:∀ z∈Z,z.2.2≠b) :
  GI μ0 (μ.set a (.dT (cC (bS Z) (a8 p) (.loc b)))) a (Z++[(p,qs,b)]):=by
 have hba:b≠a:=fun e=>by
  rw [e,I.dic] at hb
  cases hb
 refine ⟨eA I.pre I.lo _,I.lo,by rw [dZ I.dic,TK hp],?_,?_,fun z hz=>?_⟩
 ·rw [Vb,WV]
  exact ⟨I.kd,by simp,fun x hx y hy e=>by
   simp only [UQ,XD,Vp] at hy
   rw [e,hy] at hx
   exact hp hx⟩
 ·rw [Vb,WV]
  exact ⟨I.bd,by simp,fun x hx y hy e=>by
   simp only [UQ,XD,Vp] at hy
   obtain ⟨z,hz,ez⟩:=UR.mp hx
   exact hn z hz (by rw [ez,e,hy])⟩
 ·rcases Vz.mp hz with hz|hz
  ·rw [U1 (VH (I.ne hz))]
   exact I.at_ z hz
  ·rw [Vp.mp hz]
   exact ⟨h0,by rw [U1 (VH hba)];exact hb⟩
theorem TL {Z:Zr}{p:Int×Int}{qs:List (Int×Int)}{b:Nat}(h:p∈Z.map (·.1))(kd:(Z.map (·.1)).Nodup):cC (bS Z) (a8 p) (.loc b)=bS (Z.map fun y=>if y.1=p then (y.1,qs,b) else y):=by
 obtain ⟨z,hz,e⟩:=zV h
 unfold cC
 rw [<- e,oW kd hz,Option.isSome_some,if_pos rfl]
 unfold bS
 rw [UU,UU]
 refine Vx fun y _=>?_
 show (if a8 y.1=a8 z.1 then (a8 y.1,D.loc b) else (a8 y.1,D.loc y.2.2))=(a8 (if y.1=z.1 then (y.1,qs,b) else y).1,D.loc (if y.1=z.1 then (y.1,qs,b) else y).2.2)
 by_cases e2:y.1=z.1
 ·rw [if_pos (by rw [e2]),if_pos e2]
 ·rw [if_neg (fun w=>e2 (uK w)),if_neg e2]
theorem GI.swap {μ0 μ:Hm}{a b:Nat}{Z:Zr}(I:GI μ0 μ a Z){z:(Int×Int)×List (Int×Int)×Nat}(hz:z∈Z){qs:List (Int×Int)}(hb:μ[b]? = some (.lst (qs.map PP)))(h0:μ0.length<=b)(hn:∀ z∈Z,z.2.2≠b) :
  GI μ0 (μ.set a (.dT (cC (bS Z) (a8 z.1) (.loc b)))) a (Z.map fun y=>if y.1=z.1 then (y.1,qs,b) else y):=by
 have hba:b≠a:=fun e=>by
  rw [e,I.dic] at hb
  cases hb
 have ek:(Z.map fun y=>if y.1=z.1 then (y.1,qs,b) else y).map (·.1)=Z.map (·.1):=by
  rw [UU]
  refine Vx fun y _=>?_
  show (if y.1=z.1 then (y.1,qs,b) else y).1=y.1
  split<;>rfl
 refine ⟨eA I.pre I.lo _,I.lo,by rw [dZ I.dic,TL (UR.mpr ⟨z,hz,rfl⟩) I.kd],by rw [ek];exact I.kd,?_,fun y hy=>?_⟩
 ·have kd:=I.kd
  have bd:=I.bd
  clear ek hba hb h0 I
  induction Z with
  | nil=>cases hz
  | cons x Z ih=>
   rw [UQ,Wr] at kd bd
   have off:∀ Y:Zr,(∀ y∈Y,y.1≠z.1)->(Y.map fun y=>if y.1=z.1 then (y.1,qs,b) else y)=Y:=fun Y hY=>by
    have:Y.map (fun y=>if y.1=z.1 then (y.1,qs,b) else y)=Y.map id:=Vx fun y hy=>if_neg (hY y hy)
    rw [this,a4h]
   rcases U6.mp hz with rfl|hz'
   ·rw [UQ,if_pos rfl,off Z (fun y hy e=>kd.1 (UR.mpr ⟨y,hy,e⟩)),UQ,Wr]
    refine ⟨fun w=>?_,bd.2⟩
    obtain ⟨y,hy,ey⟩:=UR.mp w
    exact hn y (UX _ hy) ey
   ·have hx:x.1≠z.1:=fun e=>kd.1 (UR.mpr ⟨z,hz',e.symm⟩)
    rw [UQ,if_neg hx,UQ,Wr]
    refine ⟨fun w=>?_,ih hz' (fun y hy=>hn y (UX _ hy)) kd.2 bd.2⟩
    obtain ⟨y,hy,ey⟩:=UR.mp w
    obtain ⟨y',hy',rfl⟩:=UR.mp hy
    by_cases e:y'.1=z.1
    ·rw [if_pos e] at ey
     exact hn x (U2 ..) ey.symm
    ·rw [if_neg e] at ey
     exact bd.1 (UR.mpr ⟨y',hy',ey⟩)
 ·obtain ⟨x,hx,rfl⟩:=UR.mp hy
  by_cases e:x.1=z.1
  ·rw [if_pos e]
   exact ⟨h0,by rw [U1 (VH hba)];exact hb⟩
  ·rw [if_neg e,U1 (VH (I.ne hx))]
   exact I.at_ x hx
theorem TM {Z:Zr}{z:(Int×Int)×List (Int×Int)×Nat}(hz:z∈Z)(kd:(Z.map (·.1)).Nodup)(q:Int×Int)(b:Nat):d4 (GZ Z) z.1 q=GZ (Z.map fun y=>if y.1=z.1 then (y.1,z.2.1++[q],b) else y):=by
 rw [F8 (UR.mpr ⟨z,hz,rfl⟩)]
 unfold GZ
 rw [UU,UU]
 refine Vx fun y hy=>?_
 by_cases e:y.1=z.1
 ·have:y=z:=F7 kd hy hz e
  subst this
  simp
 ·simp [e]
theorem sO:∀ a b c:List Int,HT.lexLt a b=true->HT.lexLt b c=true->HT.lexLt a c=true
 | [],[],_,h,_=>by cases h
 | [],_::_,[],_,h=>by cases h
 | [],_::_,_::_,_,_=>rfl
 | _::_,[],_,h,_=>by cases h
 | _::_,_::_,[],_,h=>by cases h
 | x::xs,y::ys,z::zs,h1,h2=>by
  rw [HT.lexLt_cons] at h1 h2 ⊢
  by_cases e1:x=y
  ·subst e1
   rw [if_pos rfl] at h1
   by_cases e2:x=z
   ·rw [if_pos e2] at h2 ⊢
    exact sO xs ys zs h1 h2
   ·rw [if_neg e2] at h2 ⊢
    exact h2
  ·rw [if_neg e1] at h1
   have h1:=of_decide_eq_true h1
   by_cases e2:y=z
   ·subst e2
    rw [if_neg e1]
    exact decide_eq_true h1
   ·rw [if_neg e2] at h2
    have h2:=of_decide_eq_true h2
    rw [if_neg (by omega)]
    exact decide_eq_true (by omega)
theorem Ga:∀ a b c:List Int,HT.lexLt a b=true->HT.lexLt a c=true\/HT.lexLt c b=true
 | [],[],_,h=>by cases h
 | [],_::_,[],_=>.inr rfl
 | [],_::_,_::_,_=>.inl rfl
 | _::_,[],_,h=>by cases h
 | _::_,_::_,[],_=>.inr rfl
 | x::xs,y::ys,z::zs,h=>by
  rw [HT.lexLt_cons] at h ⊢
  rw [HT.lexLt_cons]
  by_cases e1:x=y
  ·subst e1
   rw [if_pos rfl] at h
   by_cases e2:x=z
   ·subst e2
    rw [if_pos rfl,if_pos rfl]
    exact Ga xs ys zs h
   ·rw [if_neg e2,if_neg (VH e2),decide_eq_true_iff,decide_eq_true_iff]
    omega
  ·rw [if_neg e1] at h
   have h:=of_decide_eq_true h
   by_cases e2:x=z
   ·subst e2
    rw [if_neg e1]
    exact .inr (decide_eq_true h)
   ·rw [if_neg e2,decide_eq_true_iff]
    by_cases e3:z=y
    ·subst e3
     exact .inl h
    ·rw [if_neg e3,decide_eq_true_iff]
     omega
theorem sN:∀ k:List Int,HT.lexLt k k=false
 | []=>rfl
 | a::k=>by rw [HT.lexLt_cons,if_pos rfl];exact sN k
theorem Gb:∀ a b:List Int,HT.lexLt a b=false->HT.lexLt b a=false->a=b
 | [],[],_,_=>rfl
 | [],_::_,h,_=>by cases h
 | _::_,[],_,h=>by cases h
 | x::xs,y::ys,h1,h2=>by
  rw [HT.lexLt_cons] at h1 h2
  by_cases e:x=y
  ·subst e
   rw [if_pos rfl] at h1 h2
   rw [Gb xs ys h1 h2]
  ·rw [if_neg e] at h1
   rw [if_neg (VH e)] at h2
   have h1:=of_decide_eq_false h1
   have h2:=of_decide_eq_false h2
   omega
theorem Gd (l:List (List Int×D))(i:Nat):(l.getD i ([],.non)).1=(l.map (·.1)).getD i []:=by
 rw [VA,VA,Vd]
 cases l[i]?<;>rfl
theorem TN {l:List (List Int×D)}{ks:List (List Int)}(h0:0<l.length)(hp:(l.map (·.1)).Perm ks)(hs:ks.Pairwise fun x y=>HT.lexLt y x=false):(dP l).map (·.1)=ks:=by
 have pm:((dP l).map (·.1)).Perm ks:=by
  have p:(dP l).Perm l:=by
   unfold dP
   have p:=(gD (fun i j=>HT.lexLt ((l.map (·.1)).getD i []) ((l.map (·.1)).getD j [])) h0).map fun i=>l.getD i ([],.non)
   rw [t9] at p
   exact p
  exact (p.map _).trans hp
 have S:=ML (lt:=HT.lexLt) sN sO Ga [] (l.map (·.1)) (n:=l.length) h0
 have S':((dP l).map (·.1)).Pairwise fun x y=>HT.lexLt y x=false:=by
  unfold dP
  rw [UU,ZW]
  refine S.imp fun {i j} h=>?_
  show HT.lexLt (l.getD j ([],.non)).1 (l.getD i ([],.non)).1=false
  rw [Gd,Gd]
  exact h
 exact a0n (le:=fun x y=>HT.lexLt y x=false) (fun a b _ _ h1 h2=>(Gb b a h1 h2).symm) S' hs pm
theorem TQ (qs:List (Int×Int)):(qs.map a8).map (fun k=>D.tup (k.map D.int))=qs.map PP:=by
 rw [UU]
 rfl
theorem zX {μ:Hm}{a:Nat}{kvs:List (List Int×D)}{Q:D×Hm->Prop}(h:μ[a]? = some (.dT kvs))(h1:1<=kvs.length/\kvs.length<64)(hne:∀ p∈kvs,p.1≠[]):W (lD [.loc a] μ) Q↔Q (.loc μ.length,μ++[.lst ((dP kvs).map fun k=>D.tup (k.1.map D.int))]):=by
 simp only [lD,h]
 rw [if_pos ⟨h1.1,h1.2,hne⟩]
 exact W_some
theorem TR {μ:Hm}{a:Nat}{kvs:List (List Int×D)}{Q:D×Hm->Prop}(h:μ[a]? = some (.dT kvs))(h1:kvs≠[]/\(kvs.map fun p=>Tb.hashT p.1).Nodup):W (oG [.loc a] μ) Q↔Q (.loc μ.length,μ++[.dT kvs]):=by
 simp only [oG,h]
 rw [if_pos h1]
 exact W_some
theorem q9 {f:D->List D->Hm->Option (D×Hm)}{mo:ME}{ms:MA}{ρ:aL}{μ:Hm}{Q:D×Hm->Prop}(h:W (mo ρ μ) fun p=>oC p.2 p.1=true/\W (ms ρ p.2) fun q=>W (f p.1 q.1 q.2) Q):W (iD f mo ms ρ μ) Q:=by
 unfold iD
 rw [W_bind]
 refine bT h fun p q=>?_
 rw [q.1]
 exact W_bind.mpr q.2
theorem rA {μ:Hm}{a:Nat}{kvs:List (List Int×D)}(h:μ[a]? = some (.dT kvs)):oC μ (.loc a)=true:=by
 simp only [oC,h]
noncomputable def Ge (a:Nat)(Z:Zr)(μ μ':Hm):Prop:=∀ c x,μ[c]? = some x->c≠a->(∀ z∈Z,z.2.2≠c)->μ'[c]? = some x
theorem TU {Z:Zr}{p q:Int×Int}{b:Nat}(h:p∉Z.map (·.1)):((Z++[(p,[],b)]:Zr).map fun y=>if y.1=p then (y.1,y.2.1++[q],y.2.2) else y)=Z++[(p,[q],b)]:=by
 rw [Vb]
 have:(Z.map fun y=>if y.1=p then (y.1,y.2.1++[q],y.2.2) else y)=Z:=by
  have e:(Z.map fun y=>if y.1=p then (y.1,y.2.1++[q],y.2.2) else y)=Z.map id:=Vx fun y hy=>if_neg fun e=>h (UR.mpr ⟨y,hy,e⟩)
  rw [e,a4h]
 rw [this]
 simp
theorem m4 (Z:Zr):(bS Z).length=Z.length:=Uz ..
theorem Gf {μ0 μ:Hm}{a:Nat}{Z:Zr}(I:GI μ0 μ a Z)(p q:Int×Int)(hZ:Z.length<1000)(hl:∀ z∈Z,z.2.1.length<1000)(Q:D×Hm->Prop)
  (H:∀ Z' μ',GI μ0 μ' a Z'->GZ Z'=d4 (GZ Z) p q->Ge a Z μ μ'->(∀ z∈Z',(∃ y∈Z,y.2.2=z.2.2)\/μ.length<=z.2.2)->Q (.non,μ')) :
  W (k9 (.loc a) [PP p,.loc μ.length] (μ++[.lst []])) fun r=>mB r.2 r.1=true/\W (dN r.1 [PP q] r.2) Q:=by
 have I1:=I.more (aQ μ (C.lst []))
 have g1:=bB μ (C.lst [])
 have h0:μ0.length<=μ.length:=I.pre.length_le
 have old:∀ z∈Z,z.2.2<μ.length:=fun z hz=>(UA.mp (I.at_ z hz).2).1
 have ha:a<μ.length:=(UA.mp I.dic).1
 have kp1:∀ c x,μ[c]? = some x->(μ++[C.lst []])[c]? = some x:=fun c x e=>aN (aQ _ _) e
 by_cases hp:p∈Z.map (·.1)
 ·obtain ⟨z,hz,rfl⟩:=zV hp
  simp only [k9,I1.dic,cR,UZ,oW I.kd hz]
  refine W_some.mpr ⟨gM (I1.at_ z hz).2,(jK (I1.at_ z hz).2 (by rw [Uz,U4];have:=hl z hz;omega)).mpr ?_⟩
  refine H _ _ (I1.hit hz q) (F8 hp).symm (fun c x e h1 h2=>?_) fun y hy=>?_
  ·rw [U1 (h2 z hz)]
   exact kp1 c x e
  ·obtain ⟨x,hx,rfl⟩:=UR.mp hy
   refine .inl ⟨x,hx,?_⟩
   split<;>rfl
 ·have hsz:(bS Z).length<UM:=by rw [m4,U4];omega
  simp only [k9,I1.dic,cR,UZ,zU hp,if_pos hsz]
  have I2:=I1.new hp (qs:=[]) (b:=μ.length) g1 h0 (fun z hz=>UY (old z hz))
  have hm:(p,([]:List (Int×Int)),μ.length)∈Z++[(p,[],μ.length)]:=Vz.mpr (.inr (Vp.mpr rfl))
  have g2:=(I2.at_ _ hm).2
  refine W_some.mpr ⟨gM g2,(jK g2 (by rw [Uz,U4];show (0:Nat)<_;decide)).mpr ?_⟩
  have I3:=I2.hit hm q
  rw [TU hp] at I3
  refine H _ _ I3 (F9 hp).symm (fun c x e h1 h2=>?_) fun y hy=>?_
  ·have hc:c<μ.length:=(UA.mp e).1
   rw [U1 (by show μ.length≠c;omega),U1 (VH h1)]
   exact kp1 c x e
  ·rcases Vz.mp hy with hy|hy
   ·exact .inl ⟨y,hy,rfl⟩
   ·rw [Vp.mp hy]
    exact .inr (UJ _)
theorem Gg {μ0 μ:Hm}{a:Nat}{Z:Zr}(I:GI μ0 μ a Z)(p q:Int×Int)(hZ:Z.length<1000)(hl:∀ z∈Z,z.2.1.length<1000)(Q:Hm->Prop)
  (H:∀ Z' μ',GI μ0 μ' a Z'->GZ Z'=d4 (GZ Z) p q->Ge a Z μ μ'->(∀ z∈Z',(∃ y∈Z,y.2.2=z.2.2)\/μ.length<=z.2.2)->Q μ') :
  W (k8 (.loc a) [PP p,.loc μ.length] (μ++[.lst []])) fun r=>W (bK r.1 (.loc r.2.length) (r.2++[.lst [PP q]])) fun t=>W (mK (.loc a) (PP p) t.1 t.2) Q:=by
 have I1:=I.more (aQ μ (C.lst []))
 have I2:=I1.more (aQ _ (C.lst [PP q]))
 have g1:=bB μ (C.lst [])
 have g2:=bB (μ++[C.lst []]) (C.lst [PP q])
 have h0:μ0.length<=μ.length:=I.pre.length_le
 have old:∀ z∈Z,z.2.2<μ.length:=fun z hz=>(UA.mp (I.at_ z hz).2).1
 have kp:∀ c x y,μ[c]? = some x->(((μ++[C.lst []])++[C.lst [PP q]])++[C.lst y])[c]? = some x:=fun c x y e=>aN (((aQ _ _).trans (aQ _ _)).trans (aQ _ _)) e
 have hsz:(bS Z).length<UM:=by rw [m4,U4];omega
 have ln:((μ++[C.lst []])++[C.lst [PP q]]).length=μ.length+2:=by simp
 by_cases hp:p∈Z.map (·.1)
 ·obtain ⟨z,hz,rfl⟩:=zV hp
  simp only [k8,I1.dic,cR,U7,oW I.kd hz,Option.getD_some]
  refine W_some.mpr ((qV (I2.at_ z hz).2 g2 (by rw [Uz,U4];have:=hl z hz;simp;omega)).mpr ?_)
  have e1:z.2.1.map PP++[PP q]=(z.2.1++[q]).map PP:=by rw [Vb];rfl
  rw [e1]
  have I3:=I2.more (aQ _ (C.lst ((z.2.1++[q]).map PP)))
  have g3:=bB ((μ++[C.lst []])++[C.lst [PP q]]) (C.lst ((z.2.1++[q]).map PP))
  refine (oO I3.dic (cR _) hsz).mpr ?_
  refine H _ _ (I3.swap hz (qs:=z.2.1++[q]) g3 (by rw [ln];omega) fun y hy=>by have:=old y hy;rw [ln];omega) (TM hz I.kd q _).symm (fun c x e n1 n2=>?_) fun y hy=>?_
  ·rw [U1 (VH n1)]
   exact kp c x _ e
  ·obtain ⟨x,hx,rfl⟩:=UR.mp hy
   split
   ·exact .inr (by dsimp only;omega)
   ·exact .inl ⟨x,hx,rfl⟩
 ·simp only [k8,I1.dic,cR,U7,zU hp,ZU]
  refine W_some.mpr ((qV (aN (aQ _ _) g1) g2 (by rw [U4];show (1:Nat)<=_;decide)).mpr ?_)
  have e1:([]:List D)++[PP q]=[q].map PP:=rfl
  rw [e1]
  have I3:=I2.more (aQ _ (C.lst ([q].map PP)))
  have g3:=bB ((μ++[C.lst []])++[C.lst [PP q]]) (C.lst ([q].map PP))
  refine (oO I3.dic (cR _) hsz).mpr ?_
  refine H _ _ (I3.new hp (qs:=[q]) g3 (by rw [ln];omega) fun y hy=>by have:=old y hy;rw [ln];omega) (F9 hp).symm (fun c x e n1 n2=>?_) fun y hy=>?_
  ·rw [U1 (VH n1)]
   exact kp c x _ e
  ·rcases Vz.mp hy with hy|hy
   ·exact .inl ⟨y,hy,rfl⟩
   ·rw [Vp.mp hy]
    exact .inr (by dsimp only;omega)
noncomputable def eL (g:Int×Int->Int×Int)(qs:List (Int×Int)):Gr:=qs.foldl (fun G q=>d4 G (g q) q) []
theorem uL {g:Int×Int->Int×Int}{qs:List (Int×Int)}{i:Nat}{q:Int×Int}(h:qs[i]? = some q):eL g (qs.take (i+1))=d4 (eL g (qs.take i)) (g q) q:=by
 unfold eL
 rw [YR,h,YT]
 rfl
theorem TV (G:Gr)(p q:Int×Int):(d4 G p q).length<=G.length+1:=by
 unfold d4
 split<;>simp
theorem TX {G:Gr}{p q:Int×Int}{n:Nat}(h:∀ g∈G,g.2.length<=n):∀ g∈d4 G p q,g.2.length<=n+1:=by
 intro g hg
 unfold d4 at hg
 split at hg
 ·obtain ⟨x,hx,rfl⟩:=UR.mp hg
  have:=h x hx
  split
  ·simp;omega
  ·omega
 ·rcases Vz.mp hg with hg|hg
  ·have:=h g hg;omega
  ·rw [Vp.mp hg];simp
theorem oX (g:Int×Int->Int×Int)(qs:List (Int×Int)):(eL g qs).length<=qs.length/\∀ x∈eL g qs,x.2.length<=qs.length:=by
 suffices ∀ (qs:List (Int×Int))(G:Gr)(n:Nat),G.length<=n->(∀ x∈G,x.2.length<=n)->(qs.foldl (fun G q=>d4 G (g q) q) G).length<=n+qs.length/\∀ x∈qs.foldl (fun G q=>d4 G (g q) q) G,x.2.length<=n+qs.length by
  have:=this qs [] 0 (UJ _) (fun x hx=>nomatch hx)
  unfold eL
  simpa using this
 intro qs
 induction qs with
 | nil=>exact fun G n h1 h2=>⟨h1,h2⟩
 | cons q qs ih=>
  intro G n h1 h2
  have:=ih (d4 G (g q) q) (n+1) (by have:=TV G (g q) q;omega) (TX h2)
  rw [Vm,show n+(qs.length+1)=n+1+qs.length by omega]
  exact this
theorem Gh {g:Int×Int->Int×Int}{qs:List (Int×Int)}(h:qs≠[]):eL g qs≠[]:=by
 have up:∀ (qs:List (Int×Int))(G:Gr),G≠[]->qs.foldl (fun G q=>d4 G (g q) q) G≠[]:=by
  intro qs
  induction qs with
  | nil=>exact fun G h=>h
  | cons q qs ih=>
   intro G hG
   refine ih _ fun z=>hG ?_
   have z:d4 G (g q) q=[]:=z
   unfold d4 at z
   split at z
   ·exact YC.mp z
   ·exact absurd z (by simp)
 match qs,h with
 | q::qs,_=>
  refine up qs _ ?_
  unfold d4
  simp
theorem oY (Z:Zr):(GZ Z).length=Z.length:=Uz ..
theorem oZ {Z:Zr}{G:Gr}{n:Nat}(e:GZ Z=G)(h:G.length<=n/\∀ x∈G,x.2.length<=n):Z.length<=n/\∀ z∈Z,z.2.1.length<=n:=by
 subst e
 exact ⟨by rw [<- oY];exact h.1,fun z hz=>h.2 (z.1,z.2.1) (UR.mpr ⟨z,hz,rfl⟩)⟩
noncomputable def lQ (A:Ly)(l:Int×Int):Ly:=if l.1=0 then ⟨A.a,A.b,-A.c,-A.d,A.e,2 * l.2 - A.g⟩ else if l.1=1 then ⟨-A.a,-A.b,A.c,A.d,2 * l.2 - A.e,A.g⟩ else if l.1=2 then ⟨A.c,A.d,A.a,A.b,A.g+l.2,A.e - l.2⟩ else ⟨-A.c,-A.d,-A.a,-A.b,l.2 - A.g,l.2 - A.e⟩
theorem jC {a:Int}(h:a=1\/a = -1):-a=1\/-a = -1:=by omega
theorem TY {A:Ly}(h:Dih A)(l:Int×Int):Dih (lQ A l):=by
 have z:∀ {x:Int},x=0->-x=0:=fun h=>by rw [h];rfl
 unfold lQ
 rcases h with ⟨h1,h2,h3,h4⟩|⟨h1,h2,h3,h4⟩
 ·split
  ·exact .inl ⟨h1,z h2,h3,jC h4⟩
  split
  ·exact .inl ⟨z h1,h2,jC h3,h4⟩
  split
  ·exact .inr ⟨h2,h1,h4,h3⟩
  ·exact .inr ⟨z h2,z h1,jC h4,jC h3⟩
 ·split
  ·exact .inr ⟨h1,z h2,h3,jC h4⟩
  split
  ·exact .inr ⟨z h1,h2,jC h3,h4⟩
  split
  ·exact .inl ⟨h2,h1,h4,h3⟩
  ·exact .inl ⟨z h2,z h1,jC h4,jC h3⟩
theorem TZ (A:Ly)(l p:Int×Int):a9 (lQ A l) p=jN (a9 A p) l:=by
 unfold lQ jN a9
 split
 ·refine VT rfl ?_
  dsimp only
  rw [YX,YX];omega
 split
 ·refine VT ?_ rfl
  dsimp only
  rw [YX,YX];omega
 split
 ·refine VT ?_ ?_<;>dsimp only<;>omega
 ·refine VT ?_ ?_<;>dsimp only<;>(rw [YX,YX];omega)
noncomputable def fT (ls:List (Int×Int))(A:Ly):Ly:=ls.foldl lQ A
theorem Gi:∀ (ls:List (Int×Int)){A:Ly},Dih A->Dih (fT ls A)
 | [],_,h=>h
 | l::ls,_,h=>Gi ls (TY h l)
theorem zY:∀ (ls:List (Int×Int))(A:Ly)(p:Int×Int),a9 (fT ls A) p=ls.foldl jN (a9 A p)
 | [],_,_=>rfl
 | l::ls,A,p=>by
  show a9 (fT ls (lQ A l)) p=ls.foldl jN (jN (a9 A p) l)
  rw [zY ls,TZ]
theorem T1 (k:Nat)(A:Ly)(u n:Int)(μ:Hm)(Q:D×Hm->Prop)(H:Q (LD (lQ A (u,n)),μ)):W (f (k+1) "_law_over" [LD A,P u n] μ) Q:=by
 rw [ED]
 unfold lQ at H
 refine jL rfl (jL rfl (iW rfl (fun h=>?_) fun h=>?_))
 ·rw [if_pos (by simpa using h)] at H
  exact ⟨_,rfl,H⟩
 rw [if_neg (by simpa using h)] at H
 refine iW rfl (fun h=>?_) fun h=>?_
 ·rw [if_pos (by simpa using h)] at H
  exact ⟨_,rfl,H⟩
 rw [if_neg (by simpa using h)] at H
 refine iW rfl (fun h=>?_) fun h=>?_
 ·rw [if_pos (by simpa using h)] at H
  exact ⟨_,rfl,H⟩
 rw [if_neg (by simpa using h)] at H
 exact ⟨_,rfl,H⟩
theorem zZ (k:Nat)(A:Ly)(hA:Dih A)(x y:Int)(μ:Hm)(Q:D×Hm->Prop)(H:Q (PP (a9 A (x,y)),μ)):W (f (k+1) "_law_led" [LD A,P x y] μ) Q:=by
 obtain ⟨h1,h2,h3,h4⟩:=hA.sm
 rw [EC,W_fin]
 simp only [bG,qR,aE,Fe,UH,UI,w_mRet,eS,aM,aJ,aT,aF,aX,iF,iT]
 refine (lP h1).mpr ((lP h2).mpr ?_)
 simp only [c8]
 refine (lP h3).mpr ((lP h4).mpr ?_)
 simp only [c8,gO,true_and]
 exact H
theorem T3 (l:List (Int×Int)){i:Int}(h:0<=i):fI (l.map PP) (some i) none=(l.drop i.toNat).map PP:=by
 obtain ⟨n,rfl⟩:=a1v h
 unfold fI
 rw [HT.sIx_nat,HT.sIx_none,<- a3A,<- a1g,Uz,Xq]
 congr 1
 rw [Xc (by rw [XE];omega)]
 rcases a4e n l.length with z|z
 ·rw [YB z]
 ·rw [a2Z z,Y8 (UJ _),Y8 z]
theorem T4 (l:List (Int×Int)){i:Int}(h:0<=i):fI (l.map PP) none (some i)=(l.take i.toNat).map PP:=by
 obtain ⟨n,rfl⟩:=a1v h
 unfold fI
 rw [HT.sIx_nat,HT.sIx_none,a0N,<- a1g,Uz,Xq,a0a]
 congr 1
 rcases a4e n l.length with z|z
 ·rw [YB z]
 ·rw [a2Z z,Xc (UJ _),Xc z]
theorem Gj {n z:Int}(h:-100<=n/\n<=100){μ:Hm}{Q:D×Hm->Prop}:W (bH (.int n) (.int z) μ) Q↔Q (.int (n * z),μ):=dM (.inl ⟨by omega,by omega⟩)
theorem T5 {n:Int}(h:0<=n/\n<=1000){μ:Hm}{Q:D×Hm->Prop}:W (nF (.int 10) (.int n) μ) Q↔Q (.int (10 ^ n.toNat),μ):=Qa ⟨h.1,by omega,by decide⟩
noncomputable def m5 (L:Int×Int->Ly)(ls row:List (Int×Int)):Kv:=row.map fun q=>(q,fT ls (L q))
noncomputable abbrev RO (ns:List Int)(t c l:Nat)(o4 o5 o6 o7 o8 o9 o10 o11:Option D):aL:=[some (.rol (ns.map D.int)),some (.loc t),some (.loc c),some (.loc l),o4,o5,o6,o7,o8,o9,o10,o11]
theorem T6 (k:Nat)(ns:List Int)(t c:Nat)(kvs:List (List Int×D))(qs:List (Int×Int))(L:Int×Int->Ly)(hq:qs≠[]/\qs.length<=100)(nd:qs.Nodup)(μ:Hm)(ht:μ[t]? = some (.dT kvs))(hc:μ[c]? = some (.lst (qs.map PP)))
  (hv:∀ q∈qs,bC kvs (a8 q)=some (LD (L q)))(Q:D×Hm->Prop)(H:∀ a ls row μ',μ <+: μ'->row.Perm qs->μ'[a]? = some (.dT (bN (m5 L ls row)))->Q (.loc a,μ')):W (f (k+2) "_law_led_on" [.rol (ns.map D.int),.loc t,.loc c] μ) Q:=by
 rw [Rw,W_fin]
 generalize hT:aH (cB (b8 (aA 8)) (cH 9) (aH (aV 10 (aB aI (aA 1) (aA 9))) (aH (cB (b8 (aA 3)) (cH 11) (aV 10 (aG (f (k+1) "_law_over") (aC (aA 10) (aC (aA 11) aD))))) (iA (aA 7) (aA 9) (aA 10))))) (aS (aA 7))=T
 simp only [bG,bU,dY,aJ,UH,UI]
 refine ⟨Vk _,?_⟩
 simp only [dQ]
 refine (qS (j:=0)).mpr ?_
 simp only [aM,aJ,aT,aW,aE,aX]
 refine iH k ns 18 (by decide) _ _ fun μ1 p1=>?_
 refine (cF (by decide)).mpr ?_
 have h4:0<=cL ns 18 % 4/\cL ns 18 % 4<4:=⟨VI _ (by decide),VB _ (by decide)⟩
 generalize cL ns 18 % 4=r at h4
 refine ⟨⟨by omega,by omega⟩,?_⟩
 have l0:μ1[μ.length]? = some (.lst []):=aN p1 (bB _ _)
 have q1:μ <+: μ1:=(aQ _ _).trans p1
 refine qU (fun i ρ μ'=>μ <+: μ'/\∃ (ls:List (Int×Int))(o4 o5:Option D),μ'[μ.length]? = some (.lst (ls.map PP))/\ls.length<=i/\i<=4/\ρ=RO ns t c μ.length o4 o5 none none none none none none) ⟨q1,[],none,none,l0,UJ _,by omega,rfl⟩ ?_ ?_
 ·rintro i ρ μ2 hi ⟨p2,ls,o4,o5,gl,hl,hi4,rfl⟩
  refine ⟨RO ns t c μ.length (some (.int (0+(i:Int)))) o5 none none none none none none,rfl,?_⟩
  simp only [bG,bU,aW,aM,aJ,aT,aE,aF,aX,c8]
  refine iH k ns _ (by omega) _ _ fun μ3 p3=>?_
  simp only [UH,UI,gE]
  refine gJ ?_
  simp only [aE,aF]
  refine ⟨gM (aN p3 gl),?_⟩
  simp only [aM,aJ,eS,aT,aE,aF,aX,dY]
  generalize cL ns (19+(0+(i:Int)))=z
  refine (cF (by decide)).mpr ((gG (by decide) (by decide)).mpr ?_)
  refine (T5 (by decide)).mpr ((Gj (by decide)).mpr ⟨gO,?_⟩)
  refine (gG (by decide) (by decide)).mpr ((cF (by decide)).mpr ?_)
  have p4:=aQ μ3 (C.lst [D.int 9,D.int (2 * 10 ^ (50:Int).toNat)])
  have g4:=bB μ3 (C.lst [D.int 9,D.int (2 * 10 ^ (50:Int).toNat)])
  have h2:0<=z / 8 % 2/\z / 8 % 2<2:=⟨VI _ (by decide),VB _ (by decide)⟩
  have hpos:(0:Int)<2 * 10 ^ (50:Int).toNat:=by decide
  generalize (2:Int) * 10 ^ (50:Int).toNat=N at p4 g4 hpos
  generalize z / 8 % 2=y at h2
  generalize μ3++[C.lst [D.int 9,D.int N]]=μ4 at p4 g4
  have hat:∃ M:Int,0<M/\atI [D.int 9,D.int N] y=some (.int M):=by
   have:y=0\/y=1:=by omega
   rcases this with rfl|rfl
   ·exact ⟨9,by decide,rfl⟩
   ·exact ⟨N,by omega,rfl⟩
  obtain ⟨M,hM,hat⟩:=hat
  refine (lH g4 hat).mpr ((cF hM).mpr ?_)
  simp only [tY]
  refine (Gj (by decide)).mpr ⟨gO,?_⟩
  refine (jK (aN (p3.trans p4) gl) (by rw [Uz,U4];omega)).mpr ?_
  refine ⟨eA (p2.trans (p3.trans p4)) (UJ _) _,ls++[(z % 4,4 * (z / 4 % M - 4))],_,_,?_,by rw [U5];simp;omega,by omega,rfl⟩
  rw [dZ (aN (p3.trans p4) gl),Vb]
  rfl
 ·rintro ρ μ2 ⟨p2,ls,o4,o5,gl,hl,hi4,rfl⟩
  simp only [bG,bU,aT,aW,aM,aJ,aE,aF,aX]
  refine iH k ns 22 (by decide) _ _ fun μ3 p3=>?_
  have c3:=aN (p2.trans p3) hc
  refine (gG (by decide) (by decide)).mpr ((mS c3).mpr ?_)
  have hn:(0:Int)<(((qs.map PP).length:Nat):Int):=by
   rw [Uz]
   have:=V8.mpr hq.1
   omega
  refine (cF hn).mpr ?_
  have hi:0<=cL ns 22 / 2 % ((qs.map PP).length:Nat):=VI _ (by omega)
  generalize cL ns 22 / 2 % ((qs.map PP).length:Nat)=i at hi
  simp only [UH,UI,lI,bG,bU,aT]
  have p4:=aQ μ3 (C.dT [])
  have g4:=bB μ3 (C.dT [])
  generalize hμ4:μ3++[C.dT []]=μ4 at p4 g4
  refine t8 ?_
  simp only [aE,aF]
  refine ⟨c,rfl,?_⟩
  simp only [oM,oK,aE,aF]
  refine ⟨_,aN p4 c3,?_⟩
  refine t8 ?_
  simp only [aE,aF]
  refine ⟨c,rfl,?_⟩
  simp only [oM,oK,aE,aF]
  refine ⟨_,aN (p4.trans (aQ _ _)) c3,?_⟩
  rw [T3 qs hi,T4 qs hi]
  refine (qV (aN (aQ _ _) (bB _ _)) (bB _ _) (by rw [Uz,Uz,U4];have:=XE (l:=qs) (i:=i.toNat);have:=Xz i.toNat qs;omega)).mpr ?_
  rw [<- Vb]
  have hperm:(qs.drop i.toNat++qs.take i.toNat).Perm qs:=List.perm_append_comm.trans (by rw [Zd])
  generalize hrow:qs.drop i.toNat++qs.take i.toNat=row at hperm
  have p5:=(aQ μ4 (C.lst ((qs.drop i.toNat).map PP))).trans ((aQ _ (C.lst ((qs.take i.toNat).map PP))).trans (aQ _ (C.lst (row.map PP))))
  have g5:=bB ((μ4++[C.lst ((qs.drop i.toNat).map PP)])++[C.lst ((qs.take i.toNat).map PP)]) (C.lst (row.map PP))
  generalize ((μ4++[C.lst ((qs.drop i.toNat).map PP)])++[C.lst ((qs.take i.toNat).map PP)])++[C.lst (row.map PP)]=μ5 at p5 g5
  generalize ((μ4++[C.lst ((qs.drop i.toNat).map PP)])++[C.lst ((qs.take i.toNat).map PP)]).length=b at g5
  simp only [UH,UI]
  have q25:μ <+: μ5:=p2.trans (p3.trans (p4.trans p5))
  have bO:∀ (P:Fl×aL×Hm->Prop)(row:List (Int×Int))(b:Nat)(μ6:Hm),(∀ ρ' μ',μ <+: μ'->μ'[μ3.length]? = some (.dT (bN (m5 L ls row)))->P (.rt (.loc μ3.length),ρ',μ'))->row.Perm qs->μ5 <+: μ6->μ6[b]? = some (.lst (row.map PP))->
    W (T (RO ns t c μ.length o4 o5 (some (.int i)) (some (.loc μ3.length)) (some (.loc b)) none none none) μ6) P:=by
   intro P row b μ6 HP hpm p6 gb
   subst hT
   simp only [bG,dQ,w_iSeq,aE,aF]
   refine (c4 gb).mpr ?_
   have ndr:row.Nodup:=hpm.nodup_iff.mpr nd
   have hlr:row.length<=100:=by rw [hpm.length_eq];exact hq.2
   have q26:=q25.trans p6
   have d6:μ6[μ3.length]? = some (.dT []):=aN (p5.trans p6) g4
   have hb3:b≠μ3.length:=fun e=>by rw [e,d6] at gb;cases gb
   have l6:μ6[μ.length]? = some (.lst (ls.map PP)):=aN (p3.trans (p4.trans (p5.trans p6))) gl
   have hl3:μ.length≠μ3.length:=fun e=>by rw [e,d6] at l6;cases l6
   have hlt:μ.length<μ3.length:=by
    have:=(UA.mp (aN p3 gl)).1
    exact this
   refine fQ (fun j ρ μ'=>μ <+: μ'/\μ'[μ3.length]? = some (.dT (bN (m5 L ls (row.take j))))/\μ'[b]? = some (.lst (row.map PP))/\μ'[μ.length]? = some (.lst (ls.map PP))/\∃ o9 o10 o11,ρ=RO ns t c μ.length o4 o5 (some (.int i)) (some (.loc μ3.length)) (some (.loc b)) o9 o10 o11) ⟨q26,d6,gb,l6,none,none,none,rfl⟩ (fun j ρ μ' h=>h.2.2.1) ?_ ?_
   ·rintro j d ρ μ7 hd ⟨h1,h2,h3,h5,o9,o10,o11,rfl⟩
    obtain ⟨q,hqq,rfl⟩:=iJ hd
    have hmem:q∈qs:=hpm.mem_iff.mp (Ve hqq)
    refine ⟨RO ns t c μ.length o4 o5 (some (.int i)) (some (.loc μ3.length)) (some (.loc b)) (some (PP q)) o10 o11,rfl,?_⟩
    simp only [bG,bU,aT,aE,aF]
    refine (fC (aN h1 ht) (cR q) (hv q hmem)).mpr ?_
    simp only [UH,UI,dQ,w_iSeq,aE,aF]
    refine (c4 h5).mpr ?_
    refine fQ (fun m ρ μ'=>μ'=μ7/\∃ o11,ρ=RO ns t c μ.length o4 o5 (some (.int i)) (some (.loc μ3.length)) (some (.loc b)) (some (PP q)) (some (LD (fT (ls.take m) (L q)))) o11) ⟨rfl,o11,rfl⟩ (fun m ρ μ' h=>by rw [h.1];exact h5) ?_ ?_
    ·rintro m d ρ μ8 hd ⟨rfl,o11,rfl⟩
     obtain ⟨l,hll,rfl⟩:=iJ hd
     refine ⟨RO ns t c μ.length o4 o5 (some (.int i)) (some (.loc μ3.length)) (some (.loc b)) (some (PP q)) (some (LD (fT (ls.take m) (L q)))) (some (PP l)),rfl,?_⟩
     simp only [bU,aW,aM,aJ,aE,aF]
     refine T1 k _ l.1 l.2 _ _ ?_
     simp only [UH,UI]
     refine ⟨trivial,some (PP l),?_⟩
     unfold fT
     rw [F6 hll]
    ·rintro ρ μ8 ⟨rfl,o11,rfl⟩
     rw [Uz,V6]
     simp only [oN,aE,aF]
     have hj:j<row.length:=(UA.mp hqq).1
     have hnew:q∉(m5 L ls (row.take j)).map (·.1):=by
      unfold m5
      rw [UU]
      intro hz
      obtain ⟨x,hx,e⟩:=UR.mp hz
      have e:x=q:=e
      subst e
      have e2:row.take (j+1)=row.take j++[x]:=by rw [YR,hqq];rfl
      have nd2:=ndr.sublist (a2B (j+1) row)
      rw [e2,WV] at nd2
      exact nd2.2.2 x hx x (Vp.mpr rfl) rfl
     refine (oO h2 (cR q) ?_).mpr ?_
     ·unfold bN m5
      rw [Uz,Uz,U4]
      have:=List.length_take_le j row
      omega
     ·rw [FY hnew]
      refine ⟨eA h1 (by omega) _,?_,?_,?_,_,_,_,rfl⟩
      ·rw [dZ h2,YR,hqq]
       unfold m5
       rw [Vb]
       rfl
      ·rw [U1 (VH hb3)];exact h3
      ·rw [U1 (VH hl3)];exact h5
   ·rintro ρ μ7 ⟨h1,h2,h3,h5,o9,o10,o11,rfl⟩
    rw [Uz,V6] at h2
    simp only [w_mRet,aE,aF]
    exact HP _ _ h1 h2
  simp only [bG,dJ,cQ,aT,aW,aM,aJ,aE,aF,aX]
  refine iH k ns 22 (by decide) _ _ fun μ6 p6=>?_
  refine (cF (by decide)).mpr ?_
  simp only [fA]
  split
  ·simp only [bU,aW,aM,aJ,aE,aF]
   refine (Qw (aN p6 g5)).mpr ?_
   simp only [UH,UI]
   have er:(row.map PP).reverse=row.reverse.map PP:=(List.map_reverse ..).symm
   rw [er]
   exact bO _ row.reverse _ _ (fun ρ' μ' h1 h2=>H _ _ _ _ h1 ((a2C row).trans hperm) h2) ((a2C row).trans hperm) (p6.trans (aQ _ _)) (bB _ _)
  ·simp only [cZ]
   exact bO _ row _ _ (fun ρ' μ' h1 h2=>H _ _ _ _ h1 hperm h2) hperm p6 (aN p6 g5)
theorem uM {F:Int×Int->Ly}{row:List (Int×Int)}(nd:row.Nodup){q:Int×Int}(h:q∈row):bC (bN (row.map fun q=>(q,F q))) (a8 q)=some (LD (F q)):=by
 refine zS (FZ (by rw [UU];exact (by simpa [a1K] using nd))) ?_
 unfold bN
 rw [UU]
 exact UR.mpr ⟨q,h,rfl⟩
theorem z7 (F:Int×Int->Ly)(row:List (Int×Int)):(bN (row.map fun q=>(q,F q))).map (·.1)=row.map a8:=by
 unfold bN
 rw [UU,UU]
 rfl
theorem z8 (F:Int×Int->Ly)(row:List (Int×Int)):(bN (row.map fun q=>(q,F q))).length=row.length:=by
 unfold bN
 rw [Uz,Uz]
theorem z9 (μ:Hm)(xs:List D):GI μ ((μ++[C.dT []])++[C.lst xs]) μ.length []:=
 ⟨(aQ _ _).trans (aQ _ _),UJ _,aN (aQ _ _) (bB _ _),Zl,Zl,fun z hz=>nomatch hz⟩
theorem T7 (k t:Nat)(F:Int×Int->Ly)(hF:∀ q,Dih (F q))(row qs:List (Int×Int))(hpm:row.Perm qs)(hs:(qs.map a8).Pairwise fun x y=>HT.lexLt y x=false)(hn:1<=qs.length/\qs.length<64)(nd:qs.Nodup)(μ:Hm)(ht:μ[t]? = some (.dT (bN (row.map fun q=>(q,F q)))))
  (Q:D×Hm->Prop)(H:∀ a Z μ',GI μ μ' a Z->GZ Z=eL (fun q=>a9 (F q) q) qs->Q (.loc a,μ')):W (f (k+2) "stacks" [.loc t] μ) Q:=by
 have ndr:row.Nodup:=hpm.nodup_iff.mpr nd
 have hlr:row.length=qs.length:=hpm.length_eq
 rw [Rf,W_fin]
 simp only [bG,bU,lI,UH,UI,dQ,w_iSeq,aW,aM,aJ,aE,aF]
 refine (zX (aN (aQ _ _) ht) (by rw [z8];omega) fun p hp z=>?_).mpr ?_
 ·have:p.1∈row.map a8:=by rw [<- z7 F];exact UR.mpr ⟨p,hp,rfl⟩
  obtain ⟨x,_,e⟩:=UR.mp this
  rw [z] at e
  cases e
 have es:(dP (bN (row.map fun q=>(q,F q)))).map (fun k=>D.tup (k.1.map D.int))=qs.map PP:=by
  have e0:=TN (l:=bN (row.map fun q=>(q,F q))) (by rw [z8];omega) (by rw [z7];exact hpm.map a8) hs
  rw [<- TQ,<- e0,UU]
  rfl
 rw [es]
 refine (c4 (bB _ _)).mpr ?_
 have hb:(μ++[C.dT []]).length=μ.length+1:=by simp
 have g0:=bB (μ++[C.dT []]) (C.lst (qs.map PP))
 have I0:=z9 μ (qs.map PP)
 rw [hb] at g0 ⊢
 generalize (μ++[C.dT []])++[C.lst (qs.map PP)]=μ1 at g0 I0
 refine fQ (fun i ρ μ'=>∃ Z o2,GI μ μ' μ.length Z/\GZ Z=eL (fun q=>a9 (F q) q) (qs.take i)/\μ'[μ.length+1]? = some (.lst (qs.map PP))/\(∀ z∈Z,μ.length+1<z.2.2)/\ρ=[some (.loc t),some (.loc μ.length),o2]) ⟨[],none,I0,rfl,g0,(fun z hz=>nomatch hz),rfl⟩ (fun i ρ μ' h=>let ⟨Z,o2,_,_,g,_⟩:=h;g) ?_ ?_
 ·rintro i d ρ μ2 hd ⟨Z,o2,I,eG,gb,hbz,rfl⟩
  obtain ⟨q,hq,rfl⟩:=iJ hd
  have hmem:q∈row:=hpm.mem_iff.mpr (Ve hq)
  refine ⟨[some (.loc t),some (.loc μ.length),some (PP q)],rfl,?_⟩
  simp only [gE]
  refine gJ (q9 ?_)
  simp only [aE,aF]
  refine ⟨rA I.dic,?_⟩
  simp only [aM,aJ,aW,aT,aE,aF,dY]
  refine (fC (aN I.pre ht) (cR q) (uM ndr hmem)).mpr ?_
  refine (uE k (F q) (hF q) q.1 q.2 _ _).mpr ⟨Vk _,?_⟩
  have sm:=oZ eG (oX _ _)
  have ht2:=Xz i qs
  refine Gf I (a9 (F q) q) q (by have:=sm.1;omega) (fun z hz=>by have:=sm.2 z hz;omega) _ fun Z' μ' I' eG' kp nw=>?_
  refine ⟨Z',some (PP q),I',by rw [eG',eG,uL hq],kp _ _ gb (by omega) (fun z hz=>by have:=hbz z hz;omega),fun z hz=>?_,rfl⟩
  rcases nw z hz with ⟨y,hy,e⟩|e
  ·rw [<- e];exact hbz y hy
  ·have:=(UA.mp gb).1
   omega
 ·rintro ρ μ2 ⟨Z,o2,I,eG,gb,hbz,rfl⟩
  rw [Uz,V6] at eG
  simp only [w_mRet,aE,aF]
  exact H _ _ _ I eG
theorem T8 (k:Nat)(q:Int×Int)(μ:Hm)(Q:D×Hm->Prop)(H:∀ a μ',μ <+: μ'->μ'[a]? = some (.lst (((iZ q).filter jP).map PP))->Q (.loc a,μ')):W (f (k+2) "sides_of" [PP q] μ) Q:=by
 rw [QL,W_fin]
 simp only [w_mRet]
 refine fB (xs:=(iZ q).map PP) (p:=fun d=>jP (dR d)) (v:=fun d=>d) ?_
 refine w_iSeq.mpr (y8 rfl ?_)
 rw [FV,W_some]
 have g1:(μ++[C.lst [P (q.1 - 1) q.2,P q.1 (q.2 - 1),P q.1 (q.2+1),P (q.1+1) q.2]])[μ.length]? = some (.lst ((iZ q).map PP)):=bB _ _
 refine (c4 g1).mpr ⟨iV g1,rfl,zR,fun d μ' hd hp=>?_,fun d μ' hd _ hp=>?_,fun μ' hp hg=>?_⟩
 ·obtain ⟨u,v,rfl⟩:=jM hd
  simp only [Vc,Vf,iS,aW,aM,aJ,aE,aF,FU,iU]
  exact ⟨rfl,U0 _⟩
 ·simp only [Vc,Vf,aE,aF]
  exact ⟨trivial,U0 _⟩
 ·refine H _ _ ((aQ _ _).trans hp) ?_
  rw [hg,lJ jP]
theorem T9 (k:Nat)(w h:Int)(hw:1<=w/\w<=3)(hh:1<=h/\h<=3)(μ:Hm)(Q:D×Hm->Prop)(H:∀ a μ',μ <+: μ'->μ'[a]? = some (.lst (((c9 w h).filter iL).map PP))->Q (.loc a,μ')):W (f (k+2) "edges_in" [.int w,.int h] μ) Q:=by
 rw [Q0,W_fin]
 simp only [w_mRet]
 refine fB (xs:=(c9 w h).map PP) (p:=fun d=>iL (dR d)) (v:=fun d=>d) ?_
 simp only [w_iSeq,aW,aM,aJ,aE,aF]
 refine zD _ w h (by omega) (by omega) _ _ fun a μ1 p1 g1 l1=>?_
 refine (c4 g1).mpr ⟨iV g1,rfl,?_,fun d μ' hd hp=>?_,fun d μ' hd _ hp=>?_,fun μ' hp hg=>?_⟩
 ·have:=zE (w:=w) (h:=h) (by omega) (by omega)
  rw [Uz,U4];omega
 ·obtain ⟨u,v,rfl⟩:=jM hd
  simp only [Vc,Vf,iS,aW,aM,aJ,aE,aF,FT,iU]
  exact ⟨rfl,U0 _⟩
 ·simp only [Vc,Vf,aE,aF]
  exact ⟨trivial,U0 _⟩
 ·refine H _ _ (p1.trans hp) ?_
  rw [hg,lJ iL]
noncomputable def Aa (e:Int×Int):Bool:=match (iZ e).filter jP with|q::_=>(cG e.1 e.2).contains q|[]=>false
theorem Ab:∀ w∈[(1:Int),2,3],∀ h∈[(1:Int),2,3],(c9 w h).filter iL=bZ w h/\bZ w h≠[]/\(bV w h).Nodup/\(((bV w h).map a8).map Tb.hashT).Nodup:=by decide +kernel
theorem Ua:∀ w∈[(1:Int),2,3],∀ h∈[(1:Int),2,3],∀ e∈bZ w h,Aa e=true:=by decide +kernel
theorem Ub:∀ w∈[(1:Int),2,3],∀ h∈[(1:Int),2,3],((bV w h).map a8).Pairwise fun x y=>HT.lexLt y x=false:=by decide +kernel
theorem Uc {e:Int×Int}(h:Aa e=true):∃ q∈cG e.1 e.2,atI (((iZ e).filter jP).map PP) 0=some (PP q):=by
 unfold Aa at h
 split at h
 ·rename_i q r z
  refine ⟨q,Zg.mp h,?_⟩
  rw [z]
  unfold atI
  rw [qX (a4H 0) (by simp)]
  rfl
 ·cases h
theorem Ud (k t:Nat){w h:Int}(hw:1<=w/\w<=3)(hh:1<=h/\h<=3)(ms:List ((Int×Int)×Str))(F:Int×Int->Ly)(hF:∀ q,Dih (F q))(row:List (Int×Int))(hpm:row.Perm (bV w h))(g:Int×Int->Int×Int)(hg:∀ e∈bZ w h,∀ q∈cG e.1 e.2,a9 (F q) e=g e)(μ:Hm)(ht:μ[t]? = some (.dT (bN (row.map fun q=>(q,F q)))))
  (Q:D×Hm->Prop)(H:∀ a Z μ',GI μ μ' a Z->GZ Z=eL g (bZ w h)->Q (.loc a,μ')):W (f (k+3) "edges_laid" [SH w h ms,.loc t] μ) Q:=by
 obtain ⟨e9,_,nd,_⟩:=Ab w (cI hw) h (cI hh)
 obtain ⟨_,hl9,k3⟩:=oS w (cI hw) h (cI hh)
 have ndr:row.Nodup:=hpm.nodup_iff.mpr nd
 rw [Rg,W_fin]
 simp only [bG,bU,lI,UH,UI,dQ,w_iSeq,aW,aM,aJ,aT,aX,aE,aF,mY,mZ]
 refine T9 k w h hw hh _ _ fun b μ1 p1 g1=>?_
 rw [e9] at g1
 refine (c4 g1).mpr ?_
 have d1:μ1[μ.length]? = some (.dT []):=aN p1 (bB _ _)
 have I0:GI μ μ1 μ.length []:=⟨(aQ _ _).trans p1,UJ _,d1,Zl,Zl,fun z hz=>nomatch hz⟩
 have hba:b≠μ.length:=fun e=>by rw [e,d1] at g1;cases g1
 refine fQ (fun i ρ μ'=>∃ Z o3,GI μ μ' μ.length Z/\GZ Z=eL g ((bZ w h).take i)/\μ'[b]? = some (.lst ((bZ w h).map PP))/\(∀ z∈Z,b<z.2.2)/\ρ=[some (SH w h ms),some (.loc t),some (.loc μ.length),o3]) ⟨[],none,I0,rfl,g1,(fun z hz=>nomatch hz),rfl⟩ (fun i ρ μ' h=>let ⟨Z,o2,_,_,g,_⟩:=h;g) ?_ ?_
 ·rintro i d ρ μ2 hd ⟨Z,o3,I,eG,gb,hbz,rfl⟩
  obtain ⟨e,he,rfl⟩:=iJ hd
  have hmem:e∈bZ w h:=Ve he
  refine ⟨[some (SH w h ms),some (.loc t),some (.loc μ.length),some (PP e)],rfl,?_⟩
  simp only [gE]
  refine gJ (q9 ?_)
  simp only [aE,aF]
  refine ⟨rA I.dic,?_⟩
  simp only [aM,aJ,aW,aT,aX,aE,aF,dY]
  refine T8 k e _ _ fun c μ3 p3 g3=>?_
  obtain ⟨q,hq,hat⟩:=Uc (Ua w (cI hw) h (cI hh) e hmem)
  refine (lH g3 hat).mpr ?_
  have hqr:q∈row:=hpm.mem_iff.mpr (k3 e hmem q hq)
  refine (fC (aN (I.pre.trans p3) ht) (cR q) (uM ndr hqr)).mpr ?_
  refine (uE (k+1) (F q) (hF q) e.1 e.2 _ _).mpr ⟨Vk _,?_⟩
  rw [show ((e.1,e.2):Int×Int)=e from rfl,hg e hmem q hq]
  have sm:=oZ eG (oX _ _)
  have ht2:=Xz i (bZ w h)
  refine Gf (I.more p3) (g e) e (by have:=sm.1;omega) (fun z hz=>by have:=sm.2 z hz;omega) _ fun Z' μ' I' eG' kp nw=>?_
  refine ⟨Z',some (PP e),I',by rw [eG',eG,uL he],kp _ _ (aN p3 gb) hba (fun z hz=>by have:=hbz z hz;omega),fun z hz=>?_,rfl⟩
  rcases nw z hz with ⟨y,hy,e⟩|e
  ·rw [<- e];exact hbz y hy
  ·have:=(UA.mp (aN p3 gb)).1
   omega
 ·rintro ρ μ2 ⟨Z,o2,I,eG,gb,hbz,rfl⟩
  rw [Uz,V6] at eG
  simp only [w_mRet,aE,aF]
  exact H _ _ _ I eG
theorem Ue {μ:Hm}{a:Nat}{kvs:List (List Int×D)}{Q:D×Hm->Prop}(h:μ[a]? = some (.dT kvs)):W (eN [.loc a,.ty "dict"] μ) Q↔Q (.bl true,μ):=by
 have:eN [.loc a,.ty "dict"] μ=some (.bl true,μ):=by
  simp only [eN,pM,h,UZ]
  rfl
 rw [this]
 exact W_some
theorem Ug {μ:Hm}{a:Nat}{kvs:List (List Int×D)}{y d:D}{k:List Int}{Q:D×Hm->Prop}(h:μ[a]? = some (.dF kvs))(hk:cS y=some k)(hv:bC kvs k=some d):W (aI (.loc a) y μ) Q↔Q (d,μ):=by
 have:aI (.loc a) y μ=some (d,μ):=by
  simp only [aI,h,hk,UZ,hv,U7]
 rw [this]
 exact W_some
theorem Uh {i:Nat}{m1 m2:ME}{ρ:aL}{μ:Hm}{a:Nat}{kvs:List (List Int×D)}{Q:D×Hm->Prop}(h:ρ[i]? = some (some (.loc a)))(hc:μ[a]? = some (.dT kvs))
  (H:W (m1 ρ (μ.set a (.dF kvs))) fun r=>r.2[a]? = some (.dF kvs)/\Q (r.1,r.2.set a (.dT kvs))):W (oB i m1 m2 ρ μ) Q:=by
 have e:oA i ρ μ=some (a,kvs):=by simp only [oA,h,hc]
 unfold oB
 rw [e]
 rw [W_bind]
 refine bT H fun r q=>?_
 rw [q.1]
 exact W_some.mpr q.2
theorem Ui {μ μ1:Hm}{a:Nat}{kvs:List (List Int×D)}(hc:μ[a]? = some (.dT kvs))(h:μ.set a (.dF kvs) <+: μ1):μ <+: μ1.set a (.dT kvs):=by
 obtain ⟨t,rfl⟩:=h
 have hl:a<μ.length:=(UA.mp hc).1
 rw [List.set_append_left _ _ (by rw [Wg];exact hl),a3R]
 have:μ.set a (.dT kvs)=μ:=by
  refine YU fun j=>?_
  by_cases e:a=j
  ·subst e
   rw [VC hl,hc]
  ·rw [U1 e]
 rw [this]
 exact List.prefix_append _ _
theorem Uj (Z:Zr):(bS Z).map (·.1)=((GZ Z).map (·.1)).map a8:=by
 rw [zW]
 unfold bS
 rw [UU,UU]
 rfl
noncomputable def pA (G:Gr):List (Int×Int):=(cE (fun i j=>HT.lexLt (((G.map (·.1)).map a8).getD i []) (((G.map (·.1)).map a8).getD j [])) G.length).map fun i=>(G.map (·.1)).getD i (0,0)
theorem Gk {Z:Zr}(h0:0<Z.length):(dP (bS Z)).map (fun k=>D.tup (k.1.map D.int))=(pA (GZ Z)).map PP:=by
 unfold dP pA
 rw [Uj,m4,oY]
 have hmem:∀ i∈cE (fun i j=>HT.lexLt ((((GZ Z).map (·.1)).map a8).getD i []) ((((GZ Z).map (·.1)).map a8).getD j [])) Z.length,i<Z.length:=fun i hi=>VU.mp ((gD _ (n:=Z.length) h0).mem_iff.mp hi)
 generalize cE (fun i j=>HT.lexLt ((((GZ Z).map (·.1)).map a8).getD i []) ((((GZ Z).map (·.1)).map a8).getD j [])) Z.length=S at hmem
 rw [UU,UU]
 refine Vx fun i hi=>?_
 have hi:=hmem i hi
 show D.tup (((bS Z).getD i ([],.non)).1.map D.int)=PP (((GZ Z).map (·.1)).getD i (0,0))
 unfold bS GZ
 simp [VA,hi]
 rfl
theorem Gm {μ:Hm}{a b:Nat}{ps:List (Int×Int)}{ne:Bool}{Q:D×Hm->Prop}(ha:μ[a]? = some (.lst (ps.map PP)))(hb:μ[b]? = some (.lst (ps.map PP))):W (aZ ne (.loc a) (.loc b) μ) Q↔Q (.bl (if ne then false else true),μ):=by
 rw [Eo ha hb,beq_self_eq_true]
 cases ne<;>rfl
theorem Uk {Z1 Z2:Zr}(e:GZ Z1=GZ Z2){z:(Int×Int)×List (Int×Int)×Nat}(hz:z∈Z2):∃ y∈Z1,y.1=z.1/\y.2.1=z.2.1:=by
 have:(z.1,z.2.1)∈GZ Z1:=by rw [e];exact UR.mpr ⟨z,hz,rfl⟩
 obtain ⟨y,hy,ey⟩:=UR.mp this
 exact ⟨y,hy,(Ye ey).1,(Ye ey).2⟩
theorem Gn (k:Nat){μ0 μ1 μ:Hm}{a1 a2:Nat}{Z1 Z2:Zr}(I1:GI μ0 μ a1 Z1)(I2:GI μ1 μ a2 Z2)(e:GZ Z1=GZ Z2)(h1:1<=Z1.length/\Z1.length<64)(hne:a1≠a2)(Q:D×Hm->Prop)(H:∀ μ',μ <+: μ'->Q (.bl true,μ')) :
  W (f (k+1) "_law_by_place" [.loc a1,.loc a2] μ) Q:=by
 have el:Z1.length=Z2.length:=by rw [<- oY,e,oY]
 have nek:∀ Z:Zr,∀ p∈bS Z,p.1≠[]:=fun Z p hp z=>by
  obtain ⟨x,_,rfl⟩:=UR.mp hp
  cases z
 rw [Ru,W_fin]
 simp only [bG,dJ,oJ,tX,iS,aW,aM,aJ,aE,aF,aX]
 refine (Ue I1.dic).mpr ?_
 simp only [iU,WI,UN,if_false,cQ,aT,aW,aM,aJ,aE,aF]
 refine (zX I1.dic (by rw [m4];omega) (nek Z1)).mpr ?_
 refine (zX (aN (aQ _ _) I2.dic) (by rw [m4];omega) (nek Z2)).mpr ?_
 rw [Gk (by omega),Gk (by omega),e]
 refine (Gm (aN (aQ _ _) (bB _ _)) (bB _ _)).mpr ?_
 simp only [if_true,UN,if_false,cZ,w_mRet,aW,aM,aJ]
 have p2:=(aQ μ (C.lst ((pA (GZ Z2)).map PP))).trans (aQ _ (C.lst ((pA (GZ Z2)).map PP)))
 generalize (μ++[C.lst ((pA (GZ Z2)).map PP)])++[C.lst ((pA (GZ Z2)).map PP)]=μ2 at p2
 have J1:=I1.more p2
 have J2:=I2.more p2
 refine Uh (a:=a2) (kvs:=bS Z2) rfl J2.dic ?_
 have stay:∀ {c x},c≠a2->μ2[c]? = some x->(μ2.set a2 (.dF (bS Z2)))[c]? = some x:=fun {c x} hc e=>by rw [U1 (VH hc)];exact e
 have gF:(μ2.set a2 (.dF (bS Z2)))[a2]? = some (.dF (bS Z2)):=dZ J2.dic
 refine fB (xs:=iC (bS Z2)) (p:=fun _=>true) (v:=fun _=>.bl true) ?_
 have hit:mN (aA 1) [some (.loc a1),some (.loc a2)] (μ2.set a2 (.dF (bS Z2)))=some (hW (.tup (iC (bS Z2))),(bS Z2).length+1,μ2.set a2 (.dF (bS Z2))):=by
  simp only [mN,aA,a1m,List.getElem?_cons_zero,UZ,gF]
 rw [hit]
 refine W_some.mpr ⟨Ej,by rw [iC,Uz],by rw [iC,Uz,m4,U4];omega,fun d μ' hd hp=>w_mTrue.mpr ⟨rfl,U0 _⟩,fun d μ' hd _ hp=>?_,fun μ' hp hg=>?_⟩
 ·obtain ⟨kd,hk,rfl⟩:=UR.mp hd
  obtain ⟨z,hz,rfl⟩:=UR.mp hk
  obtain ⟨y,hy,ey1,ey2⟩:=Uk e hz
  have gk:cS (D.tup ((a8 z.1).map D.int))=some (a8 z.1):=cR z.1
  simp only [Vc,Vf,mR,aW,aM,aJ,aT,aX,aE,aF]
  have v1:bC (bS Z1) (a8 z.1)=some (.loc y.2.2):=by rw [<- ey1];exact oW J1.kd hy
  have c1:=aN hp (stay hne J1.dic)
  have l1:=aN hp (stay (fun w=>by rw [<- w] at gF;have:=(J1.at_ y hy).2;rw [w,J2.dic] at this;cases this) (J1.at_ y hy).2)
  have l2:=aN hp (stay (J2.ne hz) (J2.at_ z hz).2)
  refine (fC c1 gk v1).mpr ((Qo l1).mpr ?_)
  simp only [if_true,aT,aE,aF]
  refine (fC c1 gk v1).mpr ((Ug (aN hp gF) gk (oW J2.kd hz)).mpr ?_)
  rw [ey2] at l1
  refine (Gm l1 l2).mpr ?_
  exact ⟨rfl,U0 _⟩
 ·refine ⟨aN hp gF,?_⟩
  have pb:=Ui J2.dic hp
  have hb:(μ2.set a2 (.dF (bS Z2))).length≠a2:=by
   rw [Wg]
   have:=(UA.mp J2.dic).1
   omega
  have e1:((iC (bS Z2)).filter fun _=>true).map (fun _=>D.bl true)=((bS Z2).map fun _=>true).map D.bl:=by
   rw [oQ,iC,UU,UU]
   rfl
  rw [e1] at hg
  refine (Eu (bs:=(bS Z2).map fun _=>true) (by rw [U1 (VH hb)];exact hg)).mpr ?_
  have:((bS Z2).map fun _=>true).all id=true:=by rw [W7];intro x hx;obtain ⟨_,_,rfl⟩:=UR.mp hx;rfl
  rw [this]
  exact H _ (p2.trans pb)
theorem Ul {μ:Hm}{a:Nat}{kvs:List (List Int×D)}{Q:D×Hm->Prop}(h:μ[a]? = some (.dT kvs)):W (oD (.loc a) [] μ) Q↔Q (.non,μ.set a (.dT [])):=by
 simp only [oD,h]
 exact W_some
theorem Gp (k:Nat){μ0 μ:Hm}{a:Nat}{Z:Zr}(I:GI μ0 μ a Z)(hZ:Z.length<=100)(hl:∀ z∈Z,z.2.1.length<=100)(Q:D×Hm->Prop)(H:∀ μ',μ0 <+: μ'->μ'[a]? = some (.dT [])->(∀ c x,μ[c]? = some x->c≠a->(∀ z∈Z,z.2.2≠c)->μ'[c]? = some x)->Q (.loc a,μ')):W (f (k+1) "_law_spoil" [.loc a] μ) Q:=by
 rw [Rv,W_fin]
 simp only [bG,dQ,w_iSeq,aW,aM,aJ,aE,aF]
 refine (yX I.dic).mpr ((c4 (bB _ _)).mpr ?_)
 have hlt:∀ z∈Z,z.2.2<μ.length:=fun z hz=>(UA.mp (I.at_ z hz).2).1
 have hla:a<μ.length:=(UA.mp I.dic).1
 have J:=I.more (aQ μ (C.lst ((bS Z).map fun k=>D.tup (k.1.map D.int))))
 have g:=bB μ (C.lst ((bS Z).map fun k=>D.tup (k.1.map D.int)))
 have kp0:∀ c x,μ[c]? = some x->(μ++[C.lst ((bS Z).map fun k=>D.tup (k.1.map D.int))])[c]? = some x:=fun c x e=>aN (aQ _ _) e
 generalize μ++[C.lst ((bS Z).map fun k=>D.tup (k.1.map D.int))]=μ1 at J g kp0
 refine fQ (fun i ρ μ'=>i<=Z.length/\μ0 <+: μ'/\μ'[a]? = some (.dT (bS Z))/\μ'[μ.length]? = some (.lst ((bS Z).map fun k=>D.tup (k.1.map D.int)))/\(∀ z∈Z,∃ xs:List D,xs.length<=100+i/\μ'[z.2.2]? = some (.lst xs))/\(∀ c x,μ[c]? = some x->c≠a->(∀ z∈Z,z.2.2≠c)->μ'[c]? = some x)/\∃ o1,ρ=[some (.loc a),o1])
  ⟨Vk _,J.pre,J.dic,g,fun z hz=>⟨_,by rw [Uz];have:=hl z hz;omega,(J.at_ z hz).2⟩,fun c x e _ _=>kp0 c x e,none,rfl⟩ (fun i ρ μ' h=>h.2.2.2.1) ?_ ?_
 ·rintro i d ρ μ2 hd ⟨hi,h1,h2,h3,h4,h5,o1,rfl⟩
  have hiZ:i<Z.length:=by
   have:=(UA.mp hd).1
   rwa [Uz,m4] at this
  obtain ⟨kd,hk,rfl⟩:=UR.mp (Ve hd)
  obtain ⟨z,hz,rfl⟩:=UR.mp hk
  obtain ⟨xs,hx,gx⟩:=h4 z hz
  refine ⟨[some (.loc a),some (D.tup ((a8 z.1).map D.int))],rfl,?_⟩
  simp only [gE]
  refine gJ ?_
  simp only [aT,aE,aF]
  refine (fC h2 (cR z.1) (oW I.kd hz)).mpr ⟨gM gx,?_⟩
  simp only [aM,aJ,aX]
  refine (jK gx (by rw [U4];omega)).mpr ?_
  refine ⟨by omega,eA h1 (I.at_ z hz).1 _,by rw [U1 (I.ne hz)];exact h2,by rw [U1 (UY (hlt z hz))];exact h3,fun y hy=>?_,fun c x e c1 c2=>by rw [U1 (c2 z hz)];exact h5 c x e c1 c2,_,rfl⟩
  obtain ⟨ys,hy1,hy2⟩:=h4 y hy
  by_cases ez:z.2.2=y.2.2
  ·refine ⟨xs++[.int 0],by rw [U5];simp;omega,?_⟩
   rw [<- ez]
   exact dZ gx
  ·exact ⟨ys,by omega,by rw [U1 ez];exact hy2⟩
 ·rintro ρ μ2 ⟨hi,h1,h2,h3,h4,h5,o1,rfl⟩
  simp only [gE]
  refine q9 ?_
  simp only [aE]
  refine ⟨rA h2,?_⟩
  simp only [aJ]
  refine (Ul h2).mpr ?_
  simp only [w_mRet,aE]
  exact H _ (eA h1 I.lo _) (dZ h2) fun c x e c1 c2=>by rw [U1 (VH c1)];exact h5 c x e c1 c2
theorem Gq {μ:Hm}{a b:Nat}{Q:D×Hm->Prop}(ha:μ[a]? = some (.dT []))(hb:μ[b]? = some (.dT [])):W (dH true (.loc a) (.loc b) μ) Q↔Q (.bl false,μ):=by
 have:dH true (.loc a) (.loc b) μ=some (.bl false,μ):=by
  simp only [dH,ha,hb]
  rfl
 rw [this]
 exact W_some
theorem Um (μ:Hm)(A:Ly):b9 8 μ (LD A) (LD A)=some true:=by
 have:b9 8 μ (LD A) (LD A)=some (A.a == A.a&&(A.b == A.b&&(A.c == A.c&&(A.d == A.d&&(A.e == A.e&&(A.g == A.g&&true)))))):=rfl
 rw [this]
 simp only [beq_self_eq_true,a1h]
theorem Gs (μ:Hm){F:Int×Int->Ly}{row:List (Int×Int)}(nd:row.Nodup):∀ qs:List (Int×Int),(∀ q∈qs,q∈row)->mO μ (bN (row.map fun q=>(q,F q))) (bN (qs.map fun q=>(q,F q)))=some true
 | [],_=>rfl
 | q::qs,h=>by
  have ih:=Gs μ (F:=F) nd qs fun x hx=>h x (UX _ hx)
  show (match bC (bN (row.map fun q=>(q,F q))) (a8 q) with|none=>some false|some y=>(b9 8 μ (LD (F q)) y).bind fun e=>(mO μ (bN (row.map fun q=>(q,F q))) (bN (qs.map fun q=>(q,F q)))).map fun b=>e&&b)=some true
  rw [uM nd (h q (U2 ..)),ih]
  dsimp only
  rw [Um]
  rfl
theorem Uo {μ:Hm}{a b:Nat}{F:Int×Int->Ly}{row:List (Int×Int)}(nd:row.Nodup){Q:D×Hm->Prop}(ha:μ[a]? = some (.dT (bN (row.map fun q=>(q,F q)))))(hb:μ[b]? = some (.dT (bN (row.map fun q=>(q,F q))))):W (dH true (.loc a) (.loc b) μ) Q↔Q (.bl false,μ):=by
 have:dH true (.loc a) (.loc b) μ=some (.bl false,μ):=by
  simp only [dH,ha,hb,if_true,Gs μ nd row (fun _ h=>h),U7]
  rfl
 rw [this]
 exact W_some
theorem w_eqPP {p:Int×Int}{μ:Hm}{Q:D×Hm->Prop}:W (aZ true (PP p) (PP p) μ) Q↔Q (.bl false,μ):=by
 rw [show (PP p:D)=.tup [.int p.1,.int p.2] from rfl,w_neP]
 simp
theorem Up {w h:Int}{ms:List ((Int×Int)×Str)}(hb:(c9 w h).find? (kI ms)=none):∀ c∈c9 w h,eF c=true->gQ (bR ms) c.1 c.2=true:=fun c hc hi=>by
 have:=Xd.mp hb c hc
 unfold kI at this
 rw [hi] at this
 simpa using this
theorem Uq (e:Int×Int):bY e e=e:=by
 obtain ⟨x,y⟩:=e
 unfold bY
 split
 ·split<;>(refine VT ?_ ?_<;>dsimp only<;>omega)
 ·split<;>(refine VT ?_ ?_<;>dsimp only<;>omega)
theorem Ur {w h:Int}(hw:1<=w/\w<=3)(hh:1<=h/\h<=3){ms:List ((Int×Int)×Str)}(hb:(c9 w h).find? (kI ms)=none)(ls:List (Int×Int)):∀ e∈bZ w h,∀ q∈cG e.1 e.2,∀ q'∈cG e.1 e.2,a9 (fT ls (bW (gU (bR ms) w h) q)) e=a9 (fT ls (bW (gU (bR ms) w h) q')) e:=by
 intro e he q hq q' hq'
 rw [zY,zY]
 congr 1
 have hg:=Tf hw hh (Up hb) e he q hq
 rcases (zM hq).2.2 q' hq' with rfl|rfl
 ·rfl
 ·rw [hg,FE]
  unfold iK
  split
  ·rw [Uq]
  ·rfl
noncomputable abbrev RH (ns:List Int)(w h:Int)(ms:List ((Int×Int)×Str))(a2 a3 a4:Nat)(o5 o6 o7 o8 o9 o10 o11 o12 o13:Option D):aL:=[some (.rol (ns.map D.int)),some (SH w h ms),some (.loc a2),some (.loc a3),some (.loc a4),o5,o6,o7,o8,o9,o10,o11,o12,o13]
theorem GI.base {μ0 μ1 μ:Hm}{a:Nat}{Z:Zr}(I:GI μ1 μ a Z)(h:μ0 <+: μ1):GI μ0 μ a Z:=⟨h.trans I.pre,VG h.length_le I.lo,I.dic,I.kd,I.bd,fun z hz=>⟨VG h.length_le (I.at_ z hz).1,(I.at_ z hz).2⟩⟩
noncomputable def Ac (k:Nat):MS:=aH (aV 12 (aG (f k "stacks") (aC (aA 2) aD))) (aH (aV 13 (aG (f k "edges_laid") (aC (aA 1) (aC (aA 2) aD)))) (aH (bF (eE (fW (dU (aG (f k "_law_by_place") (aC (aA 12) (aC (aA 4) aD))))) (fW (dU (aG (f k "_law_by_place") (aC (aA 13) (aC (aA 7) aD)))))) (aS (mC (.bl false))) bJ) (bF (eE (aR (aB (dH true) (aG (f k "_law_spoil") (aC (aA 12) aD)) eZ)) (eE (aR (aB (dH true) (aG (f k "_law_spoil") (aC (aA 13) aD)) eZ)) (aR (aB (dH true) (aA 2) (aA 3))))) (aS (mC (.bl false))) bJ)))
theorem Us (k:Nat)(ns:List Int){w h:Int}(hw:1<=w/\w<=3)(hh:1<=h/\h<=3)(ms:List ((Int×Int)×Str))(F:Int×Int->Ly)(hF:∀ q,Dih (F q))(row:List (Int×Int))(hpm:row.Perm (bV w h))(g:Int×Int->Int×Int)(hg:∀ e∈bZ w h,∀ q∈cG e.1 e.2,a9 (F q) e=g e)
  (a2 a3 a4 a7:Nat)(o5 o6 o8 o9 o10 o11 o12 o13:Option D)(μ:Hm)(g2:μ[a2]? = some (.dT (bN (row.map fun q=>(q,F q)))))(g3:μ[a3]? = some (.dT (bN (row.map fun q=>(q,F q))))){μ4 μ7:Hm}{Z4 Z7:Zr}(I4:GI μ4 μ a4 Z4)(I7:GI μ7 μ a7 Z7)
  (e4:GZ Z4=eL (fun q=>a9 (F q) q) (bV w h))(e7:GZ Z7=eL g (bZ w h))(Q:Fl×aL×Hm->Prop)(H:∀ o12 o13 μ',μ <+: μ'->Q (.nx,RH ns w h ms a2 a3 a4 o5 o6 (some (.loc a7)) o8 o9 o10 o11 o12 o13,μ')) :
  W (Ac (k+7) (RH ns w h ms a2 a3 a4 o5 o6 (some (.loc a7)) o8 o9 o10 o11 o12 o13) μ) Q:=by
 obtain ⟨_,hine,nd,_⟩:=Ab w (cI hw) h (cI hh)
 obtain ⟨⟨hqne,hq36⟩,hl9,_⟩:=oS w (cI hw) h (cI hh)
 have hqpos:=V8.mpr hqne
 have hipos:=V8.mpr hine
 have ndr:row.Nodup:=hpm.nodup_iff.mpr nd
 unfold Ac
 simp only [bG,bU,aW,aM,aJ,aE,aF]
 refine T7 (k+5) a2 F hF row _ hpm (Ub w (cI hw) h (cI hh)) (by omega) nd μ g2 _ fun a Z μ1 I eG=>?_
 simp only [UH,UI,aE,aF]
 refine Ud (k+4) a2 hw hh ms F hF row hpm g hg μ1 (aN I.pre g2) _ fun a' Z' μ2 I' eG'=>?_
 simp only [UH,UI,dJ,oJ,tX,iS,aW,aM,aJ,aE,aF]
 have J:=I.more I'.pre
 have pm2:μ <+: μ2:=I.pre.trans I'.pre
 have sZ:=oZ eG (oX _ _)
 have sZ':=oZ eG' (oX _ _)
 have pZ:1<=Z.length:=by
  rw [<- oY,eG]
  exact V8.mpr (Gh hqne)
 have pZ':1<=Z'.length:=by
  rw [<- oY,eG']
  exact V8.mpr (Gh hine)
 have l4:a4<μ.length:=(UA.mp I4.dic).1
 have l7:a7<μ.length:=(UA.mp I7.dic).1
 have hlo:=I.lo
 have hlo':=I'.lo
 have hlen:μ.length<=μ1.length:=I.pre.length_le
 refine Gn (k+6) J (I4.more pm2) (eG.trans e4.symm) (by have:=sZ.1;omega) (by omega) _ fun μ3 p3=>?_
 simp only [iU,WI,UN,if_false,aE,aF]
 refine Gn (k+6) (I'.more p3) (I7.more (pm2.trans p3)) (eG'.trans e7.symm) (by have:=sZ'.1;omega) (by omega) _ fun μ5 p5=>?_
 simp only [iU,WI,UN,if_false,cZ,bG,dJ,oJ,cQ,aT,aW,aM,aJ,aE,aF]
 have K:=J.more (p3.trans p5)
 have K':=(I'.base I.pre).more (p3.trans p5)
 refine Gp (k+6) K (by have:=sZ.1;omega) (fun z hz=>by have:=sZ.2 z hz;omega) _ fun μ6 p6 d6 kp6=>?_
 simp only [lI]
 refine (Gq (aN (aQ _ _) d6) (bB _ _)).mpr ?_
 simp only [UN,if_false,cQ,aT,aW,aM,aJ,aE,aF]
 have old:∀ z∈Z,z.2.2<μ1.length:=fun z hz=>(UA.mp (I.at_ z hz).2).1
 have ha1:a<μ1.length:=(UA.mp I.dic).1
 have L':GI μ (μ6++[C.dT []]) a' Z':=by
  refine ⟨p6.trans (aQ _ _),K'.lo,aN (aQ _ _) (kp6 _ _ K'.dic (by omega) fun z hz=>by have:=old z hz;omega),K'.kd,K'.bd,fun y hy=>⟨(K'.at_ y hy).1,aN (aQ _ _) (kp6 _ _ (K'.at_ y hy).2 ?_ fun z hz=>?_)⟩⟩
  ·have:=(I'.at_ y hy).1
   omega
  ·have:=(I'.at_ y hy).1
   have:=old z hz
   omega
 refine Gp (k+6) L' (by have:=sZ'.1;omega) (fun z hz=>by have:=sZ'.2 z hz;omega) _ fun μ8 p8 d8 kp8=>?_
 simp only [lI]
 refine (Gq (aN (aQ _ _) d8) (bB _ _)).mpr ?_
 simp only [UN,if_false,cQ,aT,aE,aF]
 have p9:=p8.trans (aQ μ8 (C.dT []))
 refine (Uo ndr (aN p9 g2) (aN p9 g3)).mpr ?_
 simp only [UN,if_false,cZ]
 exact H _ _ _ p9
theorem Ut (k:Nat)(ns:List Int)(hns:ns.length<=63)(μ:Hm):W (f (k+8) "law" [.rol (ns.map D.int)] μ) fun r=>r.1=.bl true:=by
 rw [Ry,W_fin]
 generalize hR:aH (aV 12 (aG (f (k+7) "stacks") (aC (aA 2) aD))) (aH (aV 13 (aG (f (k+7) "edges_laid") (aC (aA 1) (aC (aA 2) aD)))) (aH (bF (eE (fW (dU (aG (f (k+7) "_law_by_place") (aC (aA 12) (aC (aA 4) aD))))) (fW (dU (aG (f (k+7) "_law_by_place") (aC (aA 13) (aC (aA 7) aD)))))) (aS (mC (.bl false))) bJ) (bF (eE (aR (aB (dH true) (aG (f (k+7) "_law_spoil") (aC (aA 12) aD)) eZ)) (eE (aR (aB (dH true) (aG (f (k+7) "_law_spoil") (aC (aA 13) aD)) eZ)) (aR (aB (dH true) (aA 2) (aA 3))))) (aS (mC (.bl false))) bJ)))=R
 have eR:R=Ac (k+7):=hR.symm
 clear hR
 simp only [bG,bU,aW,aM,aJ,aE,aX,dY]
 refine ⟨by decide,?_⟩
 refine Tg (k+3) ns _ [0,0,0,3] (by decide) _ (bB _ _) _ fun w h ms μ1 hw hh p1 hl=>?_
 simp only [UH,UI,dJ,cQ,aT,aW,aM,aJ,aE,aF,aX]
 refine Fy (k+2) hw hh ms _ _ fun μ2 p2=>?_
 cases hb:(c9 w h).find? (kI ms) with
 | some c=>
  simp only [uD,Qq,if_true,w_mRet,aX]
 | none=>
  obtain ⟨_,hine,nd,hhash⟩:=Ab w (cI hw) h (cI hh)
  obtain ⟨⟨hqne,hq36⟩,hl9,k3⟩:=oS w (cI hw) h (cI hh)
  simp only [uD,Es,UN,if_false,cZ,bG,bU,aW,aM,aJ,aE,aF]
  refine TH k hw hh ms hb _ _ fun t kvs μ3 p3 g3 hv=>?_
  simp only [UH,UI,aT,aX,aE,aF,mY,mZ]
  refine zH (k+6) w h hw hh _ _ ?_
  refine T6 (k+5) ns t _ kvs (bV w h) (bW (gU (bR ms) w h)) ⟨hqne,by omega⟩ nd _ (aN (aQ _ _) g3) (bB _ _) hv _ fun a2 ls row μ5 p5 hpm g5=>?_
  have hF:∀ q,Dih (fT ls (bW (gU (bR ms) w h) q)):=fun q=>Gi ls (F0 _ _ _ q)
  have hse:=Ur hw hh hb ls
  have hval:∀ q∈bV w h,bC (bN (row.map fun q=>(q,fT ls (bW (gU (bR ms) w h) q)))) (a8 q)=some (LD (fT ls (bW (gU (bR ms) w h) q))):=fun q hq=>uM (hpm.nodup_iff.mpr nd) (hpm.mem_iff.mpr hq)
  have g5':μ5[a2]? = some (.dT (bN (row.map fun q=>(q,fT ls (bW (gU (bR ms) w h) q))))):=g5
  clear g5
  generalize hFe:(fun q=>fT ls (bW (gU (bR ms) w h) q))=F at hF hse hval g5'
  have hF:∀ q,Dih (F q):=fun q=>by rw [<- hFe];exact hF q
  have hse:∀ e∈bZ w h,∀ q∈cG e.1 e.2,∀ q'∈cG e.1 e.2,a9 (F q) e=a9 (F q') e:=by rw [<- hFe];exact hse
  have hval:∀ q∈bV w h,bC (bN (row.map fun q=>(q,F q))) (a8 q)=some (LD (F q)):=by rw [<- hFe];exact hval
  have g5:μ5[a2]? = some (.dT (bN (row.map fun q=>(q,F q)))):=by rw [<- hFe];exact g5'
  clear g5' hFe
  have hlen:(bN (row.map fun q=>(q,F q)))≠[]/\((bN (row.map fun q=>(q,F q))).map fun p=>Tb.hashT p.1).Nodup:=by
   constructor
   ·intro z
    have:=congrArg Vq z
    rw [z8,hpm.length_eq] at this
    exact hqne (X0.mp this)
   ·have e1:((bN (row.map fun q=>(q,F q))).map fun p=>Tb.hashT p.1)=(row.map a8).map Tb.hashT:=by
     rw [<- z7 F,UU]
     rfl
    rw [e1]
    exact ((hpm.map a8).map Tb.hashT).nodup_iff.mpr hhash
  simp only [UH,UI,aE,aF]
  refine (TR g5 hlen).mpr ?_
  simp only [UH,UI,lI,dQ,w_iSeq,aW,aM,aJ,aT,aX,aE,aF,mY,mZ]
  have g6:=bB μ5 (C.dT (bN (row.map fun q=>(q,F q))))
  have p6:=aQ μ5 (C.dT (bN (row.map fun q=>(q,F q))))
  generalize hμ6:μ5++[C.dT (bN (row.map fun q=>(q,F q)))]=μ6 at g6 p6
  refine zH (k+6) w h hw hh _ _ ?_
  refine (c4 (bB _ _)).mpr ?_
  have hb6:(μ6++[C.dT []]).length=μ6.length+1:=by simp
  have g7:=bB (μ6++[C.dT []]) (C.lst ((bV w h).map PP))
  have I7:=z9 μ6 ((bV w h).map PP)
  rw [hb6] at g7 ⊢
  generalize (μ6++[C.dT []])++[C.lst ((bV w h).map PP)]=μ7 at g7 I7
  refine fQ (fun i ρ μ'=>∃ Z o5 o6,GI μ6 μ' μ6.length Z/\GZ Z=eL (fun q=>a9 (F q) q) ((bV w h).take i)/\μ'[μ6.length+1]? = some (.lst ((bV w h).map PP))/\(∀ z∈Z,μ6.length+1<z.2.2)/\ρ=RH ns w h ms a2 μ5.length μ6.length o5 o6 none none none none none none none) ⟨[],none,none,I7,rfl,g7,(fun z hz=>nomatch hz),rfl⟩ (fun i ρ μ' h=>let ⟨Z,o5,o6,_,_,g,_⟩:=h;g) ?_ ?_
  ·rintro i d ρ μ8 hd ⟨Z,o5,o6,I,eG,gb,hbz,rfl⟩
   obtain ⟨q,hq,rfl⟩:=iJ hd
   have hmem:q∈bV w h:=Ve hq
   refine ⟨RH ns w h ms a2 μ5.length μ6.length (some (PP q)) o6 none none none none none none none,rfl,?_⟩
   simp only [bG,bU,aW,aM,aJ,aT,aE,aF]
   refine (fC (aN I.pre g6) (cR q) (hval q hmem)).mpr ?_
   refine zZ (k+6) (F q) (hF q) q.1 q.2 _ _ ?_
   simp only [UH,UI,oN,aT]
   refine q9 ?_
   simp only [aE,aF]
   refine ⟨rA I.dic,?_⟩
   simp only [aM,aJ,aE,aF,dY]
   refine ⟨Vk _,?_⟩
   have sm:=oZ eG (oX _ _)
   have ht2:=Xz i (bV w h)
   have st:=Gg I (a9 (F q) q) q (by have:=sm.1;omega) (fun z hz=>by have:=sm.2 z hz;omega) (fun μ'=>∃ Z o5 o6,GI μ6 μ' μ6.length Z/\GZ Z=eL (fun q=>a9 (F q) q) ((bV w h).take (i+1))/\μ'[μ6.length+1]? = some (.lst ((bV w h).map PP))/\(∀ z∈Z,μ6.length+1<z.2.2)/\RH ns w h ms a2 μ5.length μ6.length (some (PP q)) (some (PP (a9 (F q) (q.1,q.2)))) none none none none none none none=RH ns w h ms a2 μ5.length μ6.length o5 o6 none none none none none none none) fun Z' μ' I' eG' kp nw=>?_
   ·refine bT st fun r hr=>⟨by show (1:Nat)<=UM;decide,?_⟩
    exact hr
   ·refine ⟨Z',_,_,I',by rw [eG',eG,uL hq],kp _ _ gb (by omega) (fun z hz=>by have:=hbz z hz;omega),fun z hz=>?_,rfl⟩
    rcases nw z hz with ⟨y,hy,e⟩|e
    ·rw [<- e];exact hbz y hy
    ·have:=(UA.mp gb).1
     omega
  ·rintro ρ μ8 ⟨Z4,o5,o6,I4,e4,_,_,rfl⟩
   rw [Uz,V6] at e4
   simp only [UH,UI,lI,dQ,w_iSeq,aW,aM,aJ,aT,aX,aE,aF,mY,mZ,bG,bU]
   refine Fd (k+6) w h hw hh _ _ ?_
   refine (c4 (bB _ _)).mpr ?_
   have hb8:(μ8++[C.dT []]).length=μ8.length+1:=by simp
   have g9:=bB (μ8++[C.dT []]) (C.lst ((bZ w h).map PP))
   have I9:=z9 μ8 ((bZ w h).map PP)
   rw [hb8] at g9 ⊢
   generalize (μ8++[C.dT []])++[C.lst ((bZ w h).map PP)]=μ9 at g9 I9
   have p8:=I4.pre
   refine fQ (fun i ρ μ'=>∃ Z o6 o8 o9 o10,GI μ8 μ' μ8.length Z/\GZ Z=eL (fun e=>a9 (F ((cG e.1 e.2).headD (0,0))) e) ((bZ w h).take i)/\μ'[μ8.length+1]? = some (.lst ((bZ w h).map PP))/\(∀ z∈Z,μ8.length+1<z.2.2)/\ρ=RH ns w h ms a2 μ5.length μ6.length o5 o6 (some (.loc μ8.length)) o8 o9 o10 none none none) ⟨[],o6,none,none,none,I9,rfl,g9,(fun z hz=>nomatch hz),rfl⟩ (fun i ρ μ' h=>let ⟨Z,o6,o8,o9,o10,_,_,g,_⟩:=h;g) ?_ ?_
   ·rintro i d ρ μ10 hd ⟨Z,o6,o8,o9,o10,I,eG,gb,hbz,rfl⟩
    obtain ⟨e,he,rfl⟩:=iJ hd
    have hmem:e∈bZ w h:=Ve he
    refine ⟨RH ns w h ms a2 μ5.length μ6.length o5 o6 (some (.loc μ8.length)) (some (PP e)) o9 o10 none none none,rfl,?_⟩
    simp only [bG,qR,aW,aM,aJ,aE,aF]
    refine Fh (k+6) e.1 e.2 _ _ fun b q1 q2 μ11 p11 gq h1 h2=>?_
    refine (Ei gq).mpr ?_
    simp only [UH,UI,bU,aW,aM,aJ,aT,aE,aF]
    have q6:μ6 <+: μ11:=p8.trans (I.pre.trans p11)
    refine (fC (aN q6 g6) (cR q1) (hval q1 (k3 e hmem q1 h1))).mpr ?_
    refine zZ (k+6) (F q1) (hF q1) e.1 e.2 _ _ ?_
    simp only [UH,UI,dJ,cQ,aT,aW,aM,aJ,aE,aF]
    refine (fC (aN q6 g6) (cR q2) (hval q2 (k3 e hmem q2 h2))).mpr ?_
    refine zZ (k+6) (F q2) (hF q2) e.1 e.2 _ _ ?_
    have hd0:(cG e.1 e.2).headD (0,0)∈cG e.1 e.2:=by
     obtain ⟨x,y,hxy⟩:=zL e.1 e.2
     rw [hxy]
     exact U2 ..
    have ee:((e.1,e.2):Int×Int)=e:=rfl
    rw [ee,hse e hmem q1 h1 _ hd0,hse e hmem q2 h2 _ hd0]
    refine w_eqPP.mpr ?_
    simp only [UN,if_false,cZ,oN,aT]
    refine q9 ?_
    simp only [aE,aF]
    have I':=I.more p11
    refine ⟨rA I'.dic,?_⟩
    simp only [aM,aJ,aE,aF,dY]
    refine ⟨Vk _,?_⟩
    have sm:=oZ eG (oX _ _)
    have ht2:=Xz i (bZ w h)
    have st:=Gg I' (a9 (F ((cG e.1 e.2).headD (0,0))) e) e (by have:=sm.1;omega) (fun z hz=>by have:=sm.2 z hz;omega) (fun μ'=>∃ Z o6 o8 o9 o10,GI μ8 μ' μ8.length Z/\GZ Z=eL (fun e=>a9 (F ((cG e.1 e.2).headD (0,0))) e) ((bZ w h).take (i+1))/\μ'[μ8.length+1]? = some (.lst ((bZ w h).map PP))/\(∀ z∈Z,μ8.length+1<z.2.2)/\RH ns w h ms a2 μ5.length μ6.length o5 (some (PP (a9 (F ((cG e.1 e.2).headD (0,0))) e))) (some (.loc μ8.length)) (some (PP e)) (some (PP q1)) (some (PP q2)) none none none=RH ns w h ms a2 μ5.length μ6.length o5 o6 (some (.loc μ8.length)) o8 o9 o10 none none none) fun Z' μ' I'' eG' kp nw=>?_
    ·refine bT st fun r hr=>⟨by show (1:Nat)<=UM;decide,?_⟩
     exact hr
    ·refine ⟨Z',_,_,_,_,I'',by rw [eG',eG,uL he],kp _ _ (aN p11 gb) (by omega) (fun z hz=>by have:=hbz z hz;omega),fun z hz=>?_,rfl⟩
     rcases nw z hz with ⟨y,hy,e⟩|e
     ·rw [<- e];exact hbz y hy
     ·have:=(UA.mp (aN p11 gb)).1
      omega
   ·rintro ρ μ10 ⟨Z7,o6,o8,o9,o10,I7',e7,_,_,rfl⟩
    rw [Uz,V6] at e7
    refine (qS (j:=0)).mpr ?_
    simp only [aM,aJ,aX]
    refine ⟨by decide,?_⟩
    have q10:=p8.trans I7'.pre
    refine qU (n:=2) (fun i ρ μ'=>μ10 <+: μ'/\∃ o11 o12 o13,ρ=RH ns w h ms a2 μ5.length μ6.length o5 o6 (some (.loc μ8.length)) o8 o9 o10 o11 o12 o13) ⟨U0 _,none,none,none,rfl⟩ ?_ ?_
    ·rintro i ρ μ11 hi ⟨p11,o11,o12,o13,rfl⟩
     refine ⟨RH ns w h ms a2 μ5.length μ6.length o5 o6 (some (.loc μ8.length)) o8 o9 o10 (some (.int (0+(i:Int)))) o12 o13,rfl,?_⟩
     rw [eR]
     have hge:∀ e∈bZ w h,∀ q∈cG e.1 e.2,a9 (F q) e=a9 (F ((cG e.1 e.2).headD (0,0))) e:=fun e he q hq=>hse e he q hq _ (by
      obtain ⟨x,y,hxy⟩:=zL e.1 e.2
      rw [hxy]
      exact U2 ..)
     have q11:=q10.trans p11
     refine Us k ns hw hh ms F hF row hpm _ hge a2 μ5.length μ6.length μ8.length o5 o6 o8 o9 o10 _ o12 o13 μ11 (aN (p6.trans q11) g5) (aN q11 g6) (I4.more (I7'.pre.trans p11)) (I7'.more p11) e4 e7 _ fun o12' o13' μ12 p12=>?_
     exact ⟨p11.trans p12,_,_,_,rfl⟩
    ·rintro ρ μ11 ⟨p11,o11,o12,o13,rfl⟩
     simp only [w_mRet,aX]
theorem Uu:∀ ns:List Int,ns.length<=63->∃ μ',jI S ds 8 "law" [.rol (ns.map D.int)] []=some (.bl true,μ'):=fun ns h63=>by
 obtain ⟨⟨d,μ'⟩,h1,h2⟩:=Ut 0 ns h63 []
 dsimp only at h2
 subst h2
 refine ⟨μ',?_⟩
 unfold f at h1
 exact h1
end Lw
namespace Lw
open PySem L2 L3
theorem dz (Q:X2):tV (Kx Q) ds:=by unfold tV;kernel_rfl
theorem cz (Q:X2):Ef (Kx Q) S.con=true:=by kernel_rfl
theorem nz (Q:X2):S.no.map (Y2 (Kx Q) We)=S.no.map fun _=>some none:=by kernel_rfl
theorem Uv {P:Va}{w:Vu}{Q:X2}
  {h:VL}{mg:Str → Option UC}(X:(Kx Q).In h)(G:h.Ns We mg):TxtOk P w (Kx Q) mg S ds ∧ ∃ f fd,Fun (Kx Q) "law" "law" (aP 59) f fd ∧ mg "law" = some (.ref f) ∧ ∀ (s:UE)(u:UC),a0I s fd ⟨[u],[]⟩ [("_law_script",u)]:=by
 refine ⟨⟨PY (by decide +kernel),PZ fun p hp=>(Ec X G (dz Q) p hp).1,P0 (P6 X G (cz Q)),fun x kvs e=>?_,P1 (P5 X G (nz Q))⟩,P4 X G (dz Q) (by kernel_rfl) (by kernel_rfl)⟩
 ·cases e
end Lw
open PySem PySem.W PyProof.Rows
set_option maxRecDepth 100000 in
set_option maxHeartbeats 0 in
theorem PySem.Challenge.cw_creasecourt_k44_stacks_and_edges_holds : PySem.Challenge.rw_creasecourt_k44_stacks_and_edges.Holds := by
 w_on
 refine holds_law (by decide +kernel) fun said=>?_
 refine holds_open (q:=Lw.Vw) (loose:=[]) (Xt:=fun s=>xlAt Lw.Vw [] s&&recOk (a3N (a2z (a1l VY))) s) (XP:=XL Lw.Vw []) (Yf:=Hook.obs (a4X Lw.Kx Lw.As Lw.pH)) (Ya:=Hook.val (a4X Lw.Kx Lw.As Lw.pH)) (YP:=Hook.says (a4X Lw.Kx Lw.As Lw.pH)) (N:=4264) Lw.run (Hook.of _) (Hook.keeps _) (fun s e=>xl_of s (XA.mp e).1) XL.keeps (by rfl) (by rfl) (by rfl) (fun s e=>recFacts_of (XA.mp e).2) (by rfl) (by first|assumption|decide +kernel) (by decide +kernel) ⟨rfl,rfl,rfl,rfl,rfl,by decide +kernel⟩ ?hw ?hc
 case hw=>w_witness2
 k_fill
 refine L3.walkM (l:=VY) (S:=Lw.S) (ds:=Lw.ds) (k:=8) (st:=Lw.aP 59) (x:="_law_script") rfl rfl ⟨rfl,by decide,by decide⟩ (fun w h Y=>PySem.W.kIn_of Y) (by kernel_rfl) (by kernel_rfl) ?F (fun ns h _=>Lw.Uu ns h)
 case F=>
  intro w mg h KX G
  refine' Lw.Uv (P:=VZ) (w:=w)  KX G
