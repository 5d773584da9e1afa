import PyProof.Rows.All
import Wide.All
import OpenK.AllK
import Wide.FinOn
import PyProof.EqAt
import PyProof.EqKinds
import PyProof.TupleCall
import KE.KDictSum
import PyProof.SliceStr2
import PyProof.NeKinds
import PyProof.StrWalks
import PyProof.ConsumeWalk
import KE.KSortTup
import PyProof.StationsW
import OpenK.KOwn
import PyProof.RulesAs
import PyProof.NsDelKeeps
import PyProof.InstStoreFacts
import OpenK.KCls
import PyProof.ExcArgs
import PyProof.ExcAttrAll.ValueError
import KE.KIsAll
import PyProof.Rows.SetFrom
import PyProof.Rows.SortStr
import PyProof.SumAny
import PyProof.EnumMake
import KE.KRevIter
import PyProof.MeetsStr
import PyProof.ListRange
import PyProof.Rows.Range3
import KE.KDictList
import PyProof.PureStr
import PyProof.WalkInts
import PyProof.ConsumeS
import PyProof.ZipIter
import PyProof.AttrMissHeap
import KE.KDictOf
import PyProof.DictItems
import KE.KItemsList
import KE.KEqDict
import PyProof.DictValues
import PyProof.DictWalks
import PyProof.Rows.StrNews
import PySem.Challenge.RW_creasecourt_k27_whole_faces_counted_by_c
open Array renaming getElem?_toList->Ul,toList_push->U1,toList_inj->Vn,toList_append->VB,length_toList->VC,getD->WQ,getElem?_eq_none->W4,toList_eraseIdxIfInBounds->Y0,replicate->Zl,toList_setIfInBounds->ZM,getElem?_eq_getElem->ZV,size_setIfInBounds->Z5,toList_reverse->a0B,toList_extract->a0C,append_assoc->a0U,toList->a2z,map->a3L
open Bool renaming and_eq_true->S0,false_eq_true->S9,false_ne_true->TC,not_true->US,not_false->U6,not_eq_true'->Ws,xor_false->Wx,false_xor->Wy,and_eq_true_iff->Wz,or_eq_true->WO,not_eq_true->Xl,false_and->Yv,xor_self->a0b,xor_comm->a0c,and_true->a0d,eq_iff_iff->a1Z,and_false->a2i,or_false->a2x,false_or->a2y
open Classical renaming byContradiction->XO,propDecidable->X1,choose->YM,choose_spec->ZU
open False renaming elim->Vh
open ForInStep renaming yield->WC
open Int renaming toNat_natCast->UE,add_zero->UL,emod_lt_of_pos->Vb,emod_nonneg->VW,add_assoc->Wm,emod_add_emod->Wt,le_of_lt->Xd,sub_add_cancel->X0,add_sub_cancel->YT,le_refl->Zr,zero_add->a0z,natCast_nonneg->a1y,add_right_neg->a1K,mul_nonneg->a2w,sub_zero->a3b,add_comm->a3c
open List renaming getElem?_eq_some_iff->SN,getElem?_eq_getElem->SO,length_map->SQ,length_append->SV,size_toArray->SW,set_cons_zero->SY,set_cons_succ->S1,mem_cons_of_mem->S3,map_cons->S5,getElem?_append_left->S7,append_assoc->Tc,mem_cons_self->Td,mem_append->Tf,getElem?_append_right->Tg,mem_of_getElem?->Th,length_cons->Ti,mem_cons->To,mem_singleton->Tq,mem_map->Ts,getD_eq_getElem?_getD->Tt,length_take->Tu,getElem?_map->Tx,range->Tz,zipWith_cons_cons->TB,take_append_drop->TK,map_map->TM,pairwise_iff_getElem->TN,cons_append->TR,mem_range->TV,nodup_cons->TX,getD->TY,pairwise_map->TZ,mem_filter->T4,mem_append_right->T5,length_drop->T8,length->Ua,getElem?_toArray->Ub,getElem?_eq_none->Ue,nil_append->Ug,append_nil->Uh,prefix_refl->Uk,length_reverse->Uo,all_cons->Up,find?_cons->Uu,mem_append_left->Uv,getElem?_set_self->Uw,getElem?_take_of_lt->Ux,length_filter_le->UA,toList_toArray->UB,mem_reverse->UC,pairwise_append->UI,getElem?_set_ne->UJ,map_append->UN,length_nil->UO,map_congr_left->UP,getElem?_reverse->UQ,drop_eq_getElem_cons->UZ,getElem_of_mem->U0,length_eq_zero_iff->Vc,ext_getElem?->Vk,drop_of_length_le->Vl,getElem_mem->Vo,all_eq_true->Vp,replicate->Vt,filter_cons_of_pos->Vv,filter_cons_of_neg->Vx,take_of_length_le->VE,perm_append_comm->VI,mem_iff_getElem?->VJ,length_singleton->VL,length_replicate->VM,take_sublist->VS,nodup_append->VT,mem_of_mem_take->VU,getElem?_replicate->V3,filter_cons->V4,drop_zero->V5,pairwise_cons->Wa,map_nil->Wb,getElem?_drop->Wc,filter_append->We,length_set->Wj,getElem?_of_mem->Ww,getElem?_eq_none_iff->WG,filter_sublist->WH,filter_map->WM,getElem?_cons_succ->WW,eraseIdx_cons_succ->WX,filter_congr->W7,drop_sublist->W8,set_append_right->Xf,pairwise_reverse->Xg,take_length->Xi,range'_succ->Xj,lookup_cons->Xk,any_cons->XB,range'->XD,mem_of_mem_drop->XE,getElem?_range->XN,nodup_nil->XX,Nodup->XY,reverse_perm->X6,getElem_take->X7,nodup_range->Yc,mem_flatMap->Yd,eq_nil_or_concat->Yo,concat_eq_append->Yp,take_zero->Yt,lookup->Yu,take_succ_cons->YE,reverse_append->YF,flatMap_append->YG,filterMap_cons->YH,map_take->YK,map_drop->YL,mem_filterMap->YO,zipWith->YV,length_range->YW,getElem_drop->YX,take_append_of_le_length->Zi,drop_append_of_le_length->Zj,range_succ->Zp,of_mem_zip->Zq,take_left->ZR,drop_left->ZS,drop_drop->ZT,extract_eq_drop_take->Z3,pairwise_singleton->a0j,map_id'->a0m,getElem?_zipWith->a0w,dropLast_eq_take->a0x,contains_iff_mem->a0y,take_set_of_le->a0O,takeWhile_cons->a0P,mem_map_of_mem->a0Q,map_eq_nil_iff->a0R,length_zipWith->a0S,length_pos_iff->a0T,zip_cons_cons->a1d,take_add_one->a1v,reverse_cons->a1w,map_inj_left->a1x,take_prefix->a1F,isEmpty_nil->a1G,getElem_inj->a1H,ext_getElem->a1I,countP_cons->a1J,foldl_cons->a1V,drop_left'->a1W,take_succ->a2g,map->a2h,map_id->a2Y
open List.Pairwise renaming sublist->UU,imp_of_mem->VH,nil->Ym,map->a2Z,filterMap->a3a
open List.Perm renaming refl->XG,eq_of_pairwise->XW,trans->YS
open List.Sublist renaming length_le->a3B
open List.cons renaming injEq->a0G
open Nat renaming le_refl->SX,ne_of_lt->Tp,lt_of_lt_of_le->TF,le_trans->TQ,zero_le->Um,lt_irrefl->Vj,ne_of_gt->Vr,add_sub_cancel_left->Vy,zero_add->VG,lt_or_ge->Wi,lt_trans->WE,not_lt_zero->WS,sub_self->Xa,lt_trichotomy->Xb,le_of_lt->Xc,not_lt->Xw,lt_succ_self->XA,succ_pos->Y5,sub_zero->Y6,lt_succ_of_lt->Y7,le_of_eq->Y8,add_zero->Y9,zero_lt_succ->Zh,le_succ->Zo,min_eq_left->ZH,lt_succ_iff->ZI,add_assoc->a0i,exists_eq_add_of_le->a0l,succ_mul->a0v,lt_of_succ_lt->a1D,le_of_lt_succ->a1E,lt_of_not_le->a1S,le_of_not_lt->a1T,min_self->a2W,lt_asymm->a2X,log2_lt->a3A,mod_lt->a3W
open Ne renaming symm->UM
open Option renaming bind_eq_some_iff->SF,map_eq_some_iff->SS,bind_some->T1,map_some->T9,isSome_map->WY,isSome_some->XS,getD_none->a1b,none->a2v
open Option.some renaming inj->TL
open Or renaming inr->a0F,inl->a1C
open PUnit renaming unit->a2U
open Prod.mk renaming injEq->Vd,inj->Yl
open PyProof.Rows renaming seqObj->UH,callWith_type1->U5,SortSt->Vq,IntsAre->Wr,callWith_builtin1->WR,SortKind->WZ,entry_list_sort->W5,slot_list_sort->Xm,args_list_sort->Xs,sortedHeap->Yx,AllBare->Y1,listUpdate_at->Za,lt_int->ZF,envOfC->ZG,pendingOf->ZY,seqEpoch_at->Z7,subscriptTail->a0K,subscriptTail_builtinR->a1i,plain_sorted->a1j,entry_sorted->a1l,args_sorted1->a1m,mergeAt'->a1O,kind_sorted->a1P,arrOf->a1Q,Subscript_->a2u,IsTup->a2L,list_sort_plain->a3j,get?_update_seq->a3k,wpAny_notIn_heap->a3m,sortedAll_old->a3n,sortedAll_at->a3o,pow_int_small->a3p,pow_int->a3q,oneLt_int->a3r,mul_int->a3s,kindOf->a3t,floordiv_int->a3u,entry_proto_collect'->a3v,entry_list_iadd'->a3w,call_len_slot->a3x,assign_Tuple_tuple->a3y,assign_Tuple->a3z,sortedHeap_old->a3N,mirror->a3R,keyLt'->a3S
open PyProof.Rows.Boot renaming sorted->VY,list->V8,tuple->W2,dict->W9,str->a1p,len->a1q,int->a1r,bool->a1s
open PyProof.Rows.SortSt renaming mk'->Tw
open PySem renaming wpAny_bind->SG,Value->SK,Shared->SM,wpAny_pure->SU,sizeLine->S8,Program->Tj,wpAny->Tn,model->Tr,Around->Tv,World->TH,starEach->TU,sizeLine_eq->T3,DictEntry->T6,wpAny_mono->T7,wpAny_holding->Uc,wpAny_dictEntries->Ud,sysModules->Ui,Heap->Uj,compareOp->Uq,mem_of_lookup->Uz,wpAny_call_entry->UG,wpAny_newObj_type->UR,cLine->UT,Pos->UY,bootBuiltins->U4,mainGlobals->U8,wpAny_notOrdered_dict->U9,tupleKind->Va,wpAny_Call_Name_kw->Ve,Obj->Vu,FuncData->VA,wpAny_truthy_bool->VD,assignEach->VF,attributeBase->VN,wpAny_dictEpoch->VZ,intKind->V1,NameKind->V2,Paired->V6,wpAny_Call_method0_late->Wf,backTo->Wg,Scope->Wh,wpAny_setField_rec->Wq,wpAny_passesOwn->Wu,behindInMarks->Wv,evalArgs_none->WD,wpAny_rule->WI,binaryOp->WJ,Keyword->WN,rawInt->WU,Params->W0,CmpOp->W3,codeAny_builtin->W6,foldedSetIterable->Xp,compEnvC->Xq,atKey->Xr,wpAny_isInstance->XI,plainId_quiet->XQ,wpAny_field->XT,sliceBounds->XU,call_meetsIn->X5,swapsWith->X8,codeAny->Yg,wpAny_newList->Yh,pyNext->Yi,SetTable->Yr,wpAny_isOneOf_itemiter->Yw,wpAny_updateSeq->YA,wpAny_specialOf->YB,wpAny_execs_nil->YC,letOwnedTupleGo->YD,keywordEach->YQ,firstArgMember->YR,Env->YU,assign->Zf,wpAny_typeOf->Zu,wpAny_pyIter_slot->Zv,valueAt->Zw,getItem->Zx,codeAny_mono->Zy,callerA->Zz,BindsTo->ZL,wpAny_forIn_list->ZW,pyIter->ZX,PassesOwn->Z2,subscripted->Z6,size_of_entries->a0e,wpAny_richCompare_same_room->a0k,wpAny_setField->a0n,wpAny_newTuple->a0o,wpAny_load->a0p,call_meets->a0q,callType_codes->a0r,bindArgs->a0s,backToKw->a0t,Operator->a0u,wpAny_standAt->a0H,wpAny_attempt->a0I,swappedStores->a0J,Sem->a0L,wpAny_pyNext_tuple_item->a0V,wpAny_callSpecial?_slot->a0W,bindL->a0X,bindC->a0Y,wpAny_pyNext_tuple_end->a1e,wpAny_pyNext_list_item->a1f,wpAny_Call_method_late->a1g,typeOf->a1h,isTrue->a1k,Result->a1o,wpAny_pyNext_list_end->a1z,wpAny_isOneOf_keyiter->a1A,wpAny_letGo->a1M,setField->a1N,Model->a1U,IntMulOk->a1X,GenState->a1Y,wpAny_dictFind_heap->a2a,pairTrees_cons_walk->a2b,wpAny_pyIter_tuple->a2j,wpAny_getItem_heap->a2k,wpAny_Name->a2l,typeLookup->a2m,pairTrees_nil_walk->a2n,getattributeRaised->a2p,closureFor->a2q,checkCount->a2r,builtinsNs->a2s,Tok->a2t,wpAny_pyIter_list->a2A,wpAny_assign_Name->a2B,storedH->a2C,slot_list_getitem->a2D,relabel->a2E,atKey_none_of_get->a2F,MeetsIn->a2K,wpAny_execs_cons->a2N,updateSeq->a2O,lastMarks->a2P,kt_code_dict_new->a2Q,cellsFrom->a2R,call->a2S,wpAny_loadPart'->a3h,typeNameOfWhole->a3i,Fin->a3l,wpAny_fieldsOf->a3M,recursionLimit->a3O,putAt->a3P,newExc->a3Q,isSubtype_stop->a3U,entry_at->a3V,HeapKind->a3Y
open PySem.Around renaming under_plainId->VR
open PySem.Builtin renaming sorted->YN
open PySem.Builtin.Dict renaming showsAll->UW,dictSlotArgs->Wl,updateFrom->WA,entriesForEmpty->YI,selfAndRest->YZ,samePairs->Zd,pairItems->Ze,takeOut->Zs,quietEq->Zt,noArgs->ZK,readDirectly->a3E,pendingCount->a3F,mergeDict->a3G,merge->a3H,keyAndDefault->a3I,dictSlotNone->a3J,addKeywords->a3K
open PySem.Builtin.Dict_items renaming ownsTuple->VQ,ownedTupleIsFree->X3,ownedTupleFields->X4,pairFromOwner->X9,newIterator->Ye,dictOf->Ys
open PySem.Builtin.Int renaming intBits->TJ,intTooBig->WT
open PySem.Builtin.List renaming listExtendWith->V7,listTooLong->XH,listSameRef->YY,listItems->Zc,listUpdate->a3D
open PySem.Builtin.Range renaming rangeSize->a3g
open PySem.Builtin.Str renaming occurrences->Uy
open PySem.Builtin.Tuple renaming tupleHashOf->a3e,tupleCompareSizes->a3f
open PySem.Calls renaming callWith_builtin->Vi,spliced_cons->V9,spliced_nil->Wo,call_function_entry->X2,Name_function_global->ZJ,evalArgs_plain->a0A
open PySem.Challenge renaming rw_creasecourt_k27_whole_faces_counted_by_c->Us,pw_creasecourt_k27_whole_faces_counted_by_c->Ut
open PySem.Data renaming fields->a3d,dict->a4a
open PySem.F renaming plainAttrs_dict->VX,slot_dict_items->WK,slot_dict_keys->WV,slot_dict_getitem->Zm,args_dict_items_1->Zn,entry_dict_items->ZD,args_dict_keys_1->ZE,type_dict_items->ZO,plainAttrs_list->ZP,entry_dict_keys->ZQ,type_dict_keys->Z1,sub_dict_dict->Z9,slot_dict_pop->a0a,slot_dict_ne->a0f,slot_dict_eq->a0g
open PySem.Heap renaming get?_push_of_some->SR,lt_size->S6,get?_push_size->Te,get?_update_other->UX,get?_update_self->Vm,SameBut->WB,size_push->XZ,ExtBut->Zk,size_update->a1L
open PySem.Heap.DictOf renaming new->a3Z
open PySem.Heap.DictOfH renaming new->a3C
open PySem.Heap.IsSliceOf renaming new->a2M
open PySem.Heap.SameBut renaming update->Wn,refl->Z4
open PySem.NameKind renaming free->Vz,cell->VP
open PySem.Obj renaming mapSeq->UD,data_mapDictKeys->Yz,isFreed_of_dict->a1c,data_mapFields->a1u,mapFields->a2J
open PySem.Obj.ExactDict renaming mapDictKeys->a2V
open PySem.Paired renaming snoc->Yn,length->Yy
open PySem.PassesOwn renaming never->a0E
open PySem.SeqAt renaming ne_of_list_tuple->Vg,EqAt->ZA
open PySem.SeqAt.EqAt renaming int_int->Z8
open PySem.SetTable renaming below->Ur,has->ZN,slot->a1n
open PySem.SetTable.below renaming go->Xv
open PySem.SetTable.layClean renaming free->XF
open PySem.SetTable.probe renaming go->Xu
open PySem.Str renaming ofString->Yj
open PySem.Value renaming ref->S2,none->UK,type->WL,bool->Xe,int->XR,str->Y2,isStrOf->a2c,builtin->a2d,isInt->a2H
open PySem.W renaming Frag->SJ,kasC_bind->S4,kasC_pure->Ta,kasC_range->U7,keepIn->Vf,fnOf->VO,kasC_modify->V0,kasC_get->Xn,kasC->Xo,findIn->XJ,nsIn->Yb,codeIn->Yk,kasC_lift->Yq,methodObj->YJ,mg_of->ZC,hashAt->ZZ,cellsFrom_some->Z0,specialIn->a0D,plainGet->a0M,kdl_call->a0N,instObj->a0Z,OpenLaw->a1a,WalkO->a1B,isFn->a1R,kdl_slot_keys_iter->a2o,kHook->a3T,KdlSrc->a3X
open PySem.W.OpenLaw renaming row->a0h
open PySem.W.OpenRow renaming toRowW->a1t
open PySem.W.RowW renaming records->a2I
open PySem.W.WData renaming int->XC,weightAll->XM,layable->Zb,weight->Zg,layableAll->a2T
open PySem.W.WShape renaming has->a2G
open Std.Legacy.Range renaming size->a2e,forIn_eq_forIn_range'->a2f
open Sum renaming inr->Y3,inl->Y4
open True renaming intro->Xh
local macro_rules|`(tactic| omega) => `(tactic| lia)
set_option compiler.extract_closed false
set_option bootstrap.genMatcherCode false
set_option Elab.async false
set_option linter.all false
set_option maxRecDepth 100000
set_option linter.all false
namespace L2
open PySem PySem.Spec PyProof.Rows
noncomputable abbrev aF:=Sum Int Str
noncomputable def lE:aF->SK->Bool
 | .inl k,v=>a2H k v
 | .inr x,v=>a2c x v
noncomputable def Aq (w:TH):aF->Int
 | .inl k=>hashInt k
 | .inr x=>hashStr w x
theorem i0:∀ {k:aF}{v:SK},lE k v=true->(∃ i t,k=Y4 i/\v=XR i t)\/(∃ x t,k=Y3 x/\v=Y2 x t)
 | .inl i,v,h=>by
  obtain ⟨t,e⟩:=Value.isInt_shape (k:=i) (v:=v) h
  exact .inl ⟨i,t,rfl,e⟩
 | .inr x,v,h=>by
  obtain ⟨t,e⟩:=Value.isStrOf_shape (x:=x) (v:=v) h
  exact .inr ⟨x,t,rfl,e⟩
theorem F1 (i:Int)(t:a2t):lE (.inl i) (.int i t)=true:=by simp [lE,a2H]
theorem F2 (x:Str)(t:a2t):lE (.inr x) (.str x t)=true:=by simp [lE,a2c]
theorem F4 (a b:Int):decide ((Y4 a:aF)=Y4 b)=(a == b):=by
 by_cases e:a=b
 ·subst e;simp
 ·have h:¬ (Y4 a:aF)=Y4 b:=fun q=>e (Sum.inl.inj q)
  rw [decide_eq_false h]
  exact (beq_eq_false_iff_ne.mpr e).symm
theorem F5 (a b:Str):decide ((Y3 a:aF)=Y3 b)=decide (a=b):=by
 by_cases e:a=b
 ·subst e;simp
 ·have h:¬ (Y3 a:aF)=Y3 b:=fun q=>e (Sum.inr.inj q)
  rw [decide_eq_false h,decide_eq_false e]
theorem F6 (a:Int)(b:Str):decide ((Y4 a:aF)=Y3 b)=false:=decide_eq_false (fun q=>nomatch q)
theorem F7 (a:Str)(b:Int):decide ((Y3 a:aF)=Y4 b)=false:=decide_eq_false (fun q=>nomatch q)
noncomputable def c8 (prog:Tj)(w:TH):PySem.KeyKind prog w aF where
 is:=lE
 hash:=Aq w
 inj:=fun v a b g d=>by
  rcases i0 g with ⟨i,t,rfl,rfl⟩|⟨x,t,rfl,rfl⟩
  ·rcases i0 d with ⟨j,u,rfl,e⟩|⟨y,u,rfl,e⟩
   ·injection e with e1 _;rw [e1]
   ·exact nomatch e
  ·rcases i0 d with ⟨j,u,rfl,e⟩|⟨y,u,rfl,e⟩
   ·exact nomatch e
   ·injection e with e1 _;rw [e1]
 byValue:=fun k v h=>by
  rcases i0 h with ⟨i,t,rfl,rfl⟩|⟨x,t,rfl,rfl⟩<;>rfl
 pyHash:=fun c h=>by
  rcases i0 c with ⟨i,t,rfl,rfl⟩|⟨x,t,rfl,rfl⟩
  ·exact wpAny_pyHash_int h
  ·exact wpAny_pyHash_str h
 eqBool:=fun l c h=>by
  rcases i0 l with ⟨i,t,rfl,rfl⟩|⟨x,t,rfl,rfl⟩
  ·rcases i0 c with ⟨j,u,rfl,rfl⟩|⟨y,u,rfl,rfl⟩
   ·rw [F4] at h;exact wpAny_eqBool_int h
   ·rw [F6] at h;exact SeqAt.EqAt.int_str i t y u _ _ _ _ h
  ·rcases i0 c with ⟨j,u,rfl,rfl⟩|⟨y,u,rfl,rfl⟩
   ·rw [F7] at h;exact SeqAt.EqAt.str_int x t j u _ _ _ _ h
   ·rw [F5] at h;exact wpAny_eqBool_str h
 «strs»:=fun k x t v h=>by
  rcases i0 h with ⟨i,u,rfl,e⟩|⟨y,u,rfl,e⟩
  ·exact nomatch e
  ·injection e with e1 _
   subst e1
   cases v<;>rfl
theorem F8 (prog:Tj)(w:TH)(i:Int)(t:a2t):(c8 prog w).is (.inl i) (.int i t)=true:=F1 i t
theorem F9 (prog:Tj)(w:TH)(x:Str)(t:a2t):(c8 prog w).is (.inr x) (.str x t)=true:=F2 x t
end L2
namespace L2
open PySem PySem.Spec PyProof.Rows
inductive V where
 | non|bl (b:Bool)|int (i:Int)|str (x:Str)|byt (b:Array UInt8)|flt (b:UInt64)|ref (a:Addr)|ty (n:String)
 deriving DecidableEq
noncomputable def RelV:V->SK->Prop
 | .non,u=>u=UK
 | .bl b,u=>u=Xe b
 | .int i,u=>∃ t,u=XR i t
 | .str x,u=>∃ t,u=Y2 x t
 | .byt b,u=>∃ t,u=Value.bytes b t
 | .flt b,u=>∃ t,u=Value.float b t
 | .ref a,u=>u=S2 a
 | .ty n,u=>u=WL n
noncomputable abbrev Vals:List V->List SK->Prop:=V6 RelV
theorem Vals.length {xs:List V}{us:List SK}(r:Vals xs us):xs.length=us.length:=Yy r
theorem Vals.get:∀ {xs:List V}{us:List SK}{i:Nat}{x:V},Vals xs us->xs[i]? = some x->∃ u,us[i]? = some u/\RelV x u
 | _,_,_,_,.nil,e=>by simp at e
 | _,_,0,_,.cons r _,e=>by simp at e;subst e;exact ⟨_,rfl,r⟩
 | _,_,i+1,x,.cons _ t,e=>by
  obtain ⟨u,a,b⟩:=Vals.get (i:=i) (x:=x) t (by simpa using e)
  exact ⟨u,by simpa using a,b⟩
theorem Vals.set {x:V}{u:SK}(r:RelV x u):∀ {xs:List V}{us:List SK}(i:Nat),Vals xs us->Vals (xs.set i x) (us.set i u)
 | _,_,_,.nil=>.nil
 | _,_,0,.cons _ t=>.cons r t
 | _,_,i+1,.cons q t=>.cons q (Vals.set r i t)
theorem Vals.append:∀ {xs a:List V}{us ws:List SK},Vals xs us->Vals a ws->Vals (xs++a) (us++ws)
 | _,_,_,_,.nil,s=>s
 | _,_,_,_,.cons r t,s=>.cons r (Vals.append t s)
theorem Vals.take:∀ {xs:List V}{us:List SK}(n:Nat),Vals xs us->Vals (xs.take n) (us.take n)
 | _,_,0,_=>.nil
 | _,_,_+1,.nil=>.nil
 | _,_,n+1,.cons r t=>.cons r (Vals.take n t)
theorem Vals.drop:∀ {xs:List V}{us:List SK}(n:Nat),Vals xs us->Vals (xs.drop n) (us.drop n)
 | _,_,0,r=>r
 | _,_,_+1,.nil=>.nil
 | _,_,n+1,.cons _ t=>Vals.drop n t
noncomputable def RelO:Option V->Option SK->Prop
 | some v,some u=>RelV v u
 | none,none=>True
 | _,_=>False
noncomputable def KV {κ:Type}:List (κ×V)->List (κ×SK)->Prop:=V6 fun (p:κ×V)(q:κ×SK)=>p.1=q.1/\RelV p.2 q.2
noncomputable def kV:aF->V
 | .inl i=>.int i
 | .inr x=>.str x
inductive HO where
 | lst (xs:List V)
 | tup (xs:List V)
 | dK (kvs:List (aF×V))|dT (kvs:List (List aF×V))
 | set (S:Int->Bool)(n:Nat)
 | ins (C dx:Addr)(fs:List (Str×V))
 | own (x:Addr)
 | xd (fs:List (Str×V))
 | met (f x:Addr)
 | rng (lo hi:Int)
 | frz (o:Vu)(u:HO)
 | tbl (ps:Array SK)
 | ext (φ:Uj->Prop)
noncomputable abbrev Hp:=Addr->Option HO
noncomputable def aI (H:Hp)(a:Addr)(o:HO):Hp:=fun b=>if b=a then some o else H b
theorem cR {H:Hp}{a:Addr}{o:HO}:aI H a o a=some o:=by unfold aI;rw [if_pos rfl]
theorem bO {H:Hp}{a b:Addr}{o:HO}(h:b≠a):aI H a o b=H b:=by unfold aI;rw [if_neg h]
theorem lF {H:Hp}{a b:Addr}{o:HO}(h:H a=some o)(h':H b=none):a≠b:=by
 intro e;subst e;rw [h] at h';cases h'
section
variable (P:Tj)(w:TH)
noncomputable def TupN (h:Uj)(a:Addr)(xs:Array SK):Prop:=∃ o,h.get? a=some o/\o.cls=.type "tuple"/\∃ n,o.data=.seq xs n/\o.dict=none
theorem TupN.tup {h:Uj}{a:Addr}{xs:Array SK}(x:TupN h a xs):a2L h a xs:=let ⟨o,e,c,n,d,_⟩:=x;⟨o,e,c,n,d⟩
theorem TupN.new (h:Uj)(items:Array SK):TupN (h.push { cls:=.type "tuple",data:=.seq items }) h.objs.size items:=⟨_,Te _ rfl,rfl,_,rfl,rfl⟩
noncomputable def ObjOk (H:Hp)(h:Uj)(a:Addr):HO->Prop
 | .lst c=>c.length<=S8/\∃ (b:List SK)(n:Nat),Vals c b/\h.get? a=some { cls:=.type "list",data:=.seq b.toArray n }
 | .tup c=>c.length<=S8/\∃ b:List SK,Vals c b/\TupN h a b.toArray
 | .dK kvs=>kvs.length<=S8/\(a == Ui)=false/\∃ j,KV kvs j/\h.DictOf (c8 P w) a j
 | .dT kvs=>kvs.length<=S8/\(a == Ui)=false/\∃ c:List (List aF×Addr×SK),
   V6 (fun (p:List aF×V)(q:List aF×Addr×SK)=>p.1=q.1/\H q.2.1=some (.tup (p.1.map kV))/\RelV p.2 q.2.2) kvs c /\
   ∃ o e l,h.get? a=some o/\o.ExactDict/\o.data=.dict e l/\e.toList=c.map (entryOfKey (Va (c8 P w)))/\(c.map (·.1)).Nodup
 | .set S n=>h.SetOf (V1 P w) a S n
 | .ins C dx fs=>H dx=some (.own a)/\fs.length<=1000/\dx≠a/\h.get? a=some (a0Z C dx) /\
   ∃ d,h.Ns1 dx d/\(∀ f,RelO (fs.lookup f) (d f))/\PySem.Within d (fs.map (·.1))
 | .own _=>∃ o,h.get? a=some o
 | .xd fs=>∃ d,h.Ns1 a d/\∀ f,RelO (fs.lookup f) (d f)
 | .rng lo hi=>∃ t u v,h.get? a=some { cls:=.type "range",data:=.fields #[.int lo t,.int hi u,.int 1 v] }
 | .frz o u=>h.get? a=some o/\ObjOk H h a u
 | .tbl ps=>h.get? a=some { cls:=.none,data:=.fields ps }
 | .met f x=>h.get? a=some (YJ (.ref f) (.ref x))
 | .ext φ=>φ h/\(∃ o,h.get? a=some o)/\∀ g i:Uj,φ g->(∀ o,g.get? a=some o->i.get? a=some o)->φ i
noncomputable def HOk (H:Hp)(h:Uj):Prop:=∀ a o,H a=some o->ObjOk P w H h a o
end
section
variable {P:Tj}{w:TH}{H H':Hp}{h h':Uj}{a:Addr}{o:HO}
theorem ObjOk.lt (x:ObjOk P w H h a o):a<h.objs.size:=by
 cases o with
 | lst c=>obtain ⟨_,_,_,_,e⟩:=x;exact S6 e
 | tup c=>obtain ⟨_,_,_,p⟩:=x;exact p.tup.lt
 | dK b=>obtain ⟨_,_,_,_,o,_,_,e,_⟩:=x;exact S6 e
 | dT b=>obtain ⟨_,_,_,_,o,_,_,e,_⟩:=x;exact S6 e
 | set S n=>obtain ⟨o,_,_,_,e,_⟩:=x;exact S6 e
 | ins C d fs=>obtain ⟨_,_,_,e,_⟩:=x;exact S6 e
 | own y=>obtain ⟨_,e⟩:=x;exact S6 e
 | xd fs=>obtain ⟨_,⟨_,_,_,e,_⟩,_⟩:=x;exact S6 e
 | rng i g=>obtain ⟨_,_,_,e⟩:=x;exact S6 e
 | frz j u=>obtain ⟨e,_⟩:=x;exact S6 e
 | tbl l=>exact S6 (show h.get? a=some _ from x)
 | met f y=>exact S6 (show h.get? a=some _ from x)
 | ext m=>obtain ⟨_,⟨_,e⟩,_⟩:=x;exact S6 e
theorem V6.mapP {c d:Type}{F G:c->d->Prop}:∀ {l₁:List c}{l₂:List d},V6 F l₁ l₂->(∀ a b,F a b->G a b)->V6 G l₁ l₂
 | _,_,.nil,_=>.nil
 | _,_,.cons r t,f=>.cons (f _ _ r) (V6.mapP t f)
theorem ObjOk.stay (x:ObjOk P w H h a o)(k:∀ b u,(b=a\/H b=some (.own a))->h.get? b=some u->h'.get? b=some u)
  (I:∀ b,H b=some (.own a)->H' b=some (.own a))(K:∀ b m,H b=some (.tup m)->H' b=some (.tup m)):ObjOk P w H' h' a o:=by
 induction o with
 | lst m=>obtain ⟨z,l,n,r,e⟩:=x;exact ⟨z,l,n,r,k _ _ (.inl rfl) e⟩
 | tup m=>obtain ⟨z,l,r,g,e,c⟩:=x;exact ⟨z,l,r,g,k _ _ (.inl rfl) e,c⟩
 | dK s=>obtain ⟨z,y,M,r,g,j,i,e,c⟩:=x;exact ⟨z,y,M,r,g,j,i,k _ _ (.inl rfl) e,c⟩
 | dT s=>
  obtain ⟨z,y,m,r,g,j,i,e,c⟩:=x
  exact ⟨z,y,m,V6.mapP r fun p q z=>⟨z.1,K _ _ z.2.1,z.2.2⟩,g,j,i,k _ _ (.inl rfl) e,c⟩
 | set S n=>obtain ⟨g,j,i,t,e,c⟩:=x;exact ⟨g,j,i,t,k _ _ (.inl rfl) e,c⟩
 | ins C N fs=>
  obtain ⟨d,z,ne,e,A,⟨B,j,i,G,c⟩,r⟩:=x
  exact ⟨I _ d,z,ne,k _ _ (.inl rfl) e,A,⟨B,j,i,k _ _ (.inr d) G,c⟩,r⟩
 | own y=>obtain ⟨g,e⟩:=x;exact ⟨g,k _ _ (.inl rfl) e⟩
 | xd fs=>obtain ⟨A,⟨B,j,i,e,c⟩,r⟩:=x;exact ⟨A,⟨B,j,i,k _ _ (.inl rfl) e,c⟩,r⟩
 | rng Q O=>obtain ⟨t,u,v,e⟩:=x;exact ⟨t,u,v,k _ _ (.inl rfl) e⟩
 | frz g u L=>obtain ⟨e,q⟩:=x;exact ⟨k _ _ (.inl rfl) e,L q⟩
 | tbl E=>
  have e:h.get? a=some { cls:=.none,data:=.fields E }:=x
  show h'.get? a=some { cls:=.none,data:=.fields E }
  exact k a _ (.inl rfl) e
 | met f y=>
  have e:h.get? a=some (YJ (.ref f) (.ref y)):=x
  show h'.get? a=some (YJ (.ref f) (.ref y))
  exact k a _ (.inl rfl) e
 | ext R=>obtain ⟨p,⟨o,e⟩,st⟩:=x;exact ⟨st _ _ p fun o q=>k _ _ (.inl rfl) q,⟨o,k _ _ (.inl rfl) e⟩,st⟩
theorem HOk.lt (x:HOk P w H h)(e:H a=some o):a<h.objs.size:=(x a o e).lt
theorem HOk.fresh (x:HOk P w H h)(e:h.objs.size<=a):H a=none:=by
 cases q:H a with
 | none=>rfl
 | some u=>exact absurd (TF (x.lt q) e) (Vj _)
theorem HOk.kept (x:HOk P w H h)(k:∀ b u,h.get? b=some u->h'.get? b=some u):HOk P w H h':=fun a o e=>
 (x a o e).stay (fun b u _ q=>k b u q) (fun _ q=>q) fun _ _ q=>q
theorem HOk.laid (x:HOk P w H h)(k:∀ b u,h.get? b=some u->h'.get? b=some u)(i:h.objs.size<=a)(new:ObjOk P w (aI H a o) h' a o):HOk P w (aI H a o) h':=fun b u e=>by
 have g:=x.fresh i
 by_cases d:b=a
 ·subst d;rw [cR] at e;cases e;exact new
 ·rw [bO d] at e
  exact (x b u e).stay (fun c v _ q=>k c v q) (fun c q=>by rw [bO (lF q g)];exact q) fun c j q=>by rw [bO (lF q g)];exact q
end
noncomputable def Rd (H:Hp)(a:Addr)(u:HO):Prop:=H a=some u\/∃ o,H a=some (.frz o u)
theorem Rd.of {H:Hp}{a:Addr}{u:HO}(h:H a=some u):Rd H a u:=.inl h
theorem Rd.ok {P:Tj}{w:TH}{H:Hp}{h:Uj}{a:Addr}{u:HO}(r:Rd H a u)(x:HOk P w H h):ObjOk P w H h a u:=by
 rcases r with r|⟨o,r⟩
 ·exact x a u r
 ·obtain ⟨_,q⟩:=x a _ r
  exact q
noncomputable def oV:Option HO->Prop
 | some (.lst _)=>True
 | some (.dK _)=>True
 | some (.dT _)=>True
 | some (.set _ _)=>True
 | some (.ins _ _ _)=>True
 | some (.ext _)=>True
 | _=>False
section
variable {P:Tj}{w:TH}{H:Hp}{h h':Uj}{x e:Addr}{o':HO}
theorem HOk.write (ok:HOk P w H h)(j:oV (H x))(n:e=x\/H e=some (.own x))(k:∀ b u,b≠e->h.get? b=some u->h'.get? b=some u)(m:∃ u,h'.get? e=some u)
  (new:ObjOk P w (aI H x o') h' x o'):HOk P w (aI H x o') h':=fun b u q=>by
 have d:∀ c y,H c=some (.own y)->c≠x:=fun c y r z=>by subst z;rw [r] at j;exact j
 have g:∀ c l,H c=some (.tup l)->c≠x:=fun c l r z=>by subst z;rw [r] at j;exact j
 by_cases i:b=x
 ·subst i;rw [cR] at q;cases q;exact new
 ·rw [bO i] at q
  by_cases a:b=e
  ·have o:H b=some (.own x):=by
    rcases n with z|z
    ·exact absurd (a.trans z) i
    ·rw [a];exact z
   rw [q] at o;cases o
   obtain ⟨v,p⟩:=m
   exact ⟨v,by rw [a];exact p⟩
  ·refine (ok b u q).stay (fun c v hc r=>k c v ?_ r) (fun c r=>by rw [bO (d c b r)];exact r) fun c l r=>by rw [bO (g c l r)];exact r
   rcases hc with rfl|hc
   ·exact a
   ·rintro rfl
    rcases n with z|z
    ·exact d c b hc z
    ·rw [hc] at z;cases z;exact i rfl
end
structure Un (fs ex:List Addr)(H H':Hp)(h h':Uj):Prop where
 keep:∀ b o,h.get? b=some o->H b=none->b∉fs->b∉ex->h'.get? b=some o
 slot:∀ b o,h.get? b=some o->H b=none->b∈fs->b∉ex->∃ sl,h'.get? b=some { o with slots:=sl }
 free:∀ b o,h.get? b=some o->H b=none->b∉ex->H' b=none
 there:∀ b o,h.get? b=some o->b∉ex->∃ o',h'.get? b=some o'
 tups:∀ b xs,H b=some (.tup xs)->H' b=some (.tup xs)
 frzs:∀ b o u,H b=some (.frz o u)->H' b=some (.frz o u)
 tbls:∀ b ps,H b=some (.tbl ps)->∃ more,H' b=some (.tbl (ps++more))
section
variable {fs fs' ex ex':List Addr}{H H1 H2:Hp}{h h1 h2 h':Uj}{a x e:Addr}{o:HO}
theorem Un.any (u:Un fs ex H H1 h h1){b:Addr}{c:Vu}(q:h.get? b=some c)(n:H b=none)(g:b∉ex):∃ i,h1.get? b=some { c with slots:=i }:=by
 by_cases d:b∈fs
 ·exact u.slot b c q n d g
 ·exact ⟨c.slots,u.keep b c q n d g⟩
theorem Un.trans (a:Un fs ex H H1 h h1)(b:Un fs ex H1 H2 h1 h2):Un fs ex H H2 h h2 where
 keep:=fun c g q n hc d=>b.keep c g (a.keep c g q n hc d) (a.free c g q n d) hc d
 slot:=fun c g q n hc d=>by
  obtain ⟨v,i⟩:=a.slot c g q n hc d
  obtain ⟨p,l⟩:=b.slot c _ i (a.free c g q n d) hc d
  exact ⟨p,l⟩
 free:=fun c g q n d=>by
  obtain ⟨m,i⟩:=a.there c g q d
  exact b.free c m i (a.free c g q n d) d
 there:=fun c g q d=>by
  obtain ⟨m,i⟩:=a.there c g q d
  exact b.there c m i d
 tups:=fun c j q=>b.tups c j (a.tups c j q)
 frzs:=fun c g j q=>b.frzs c g j (a.frzs c g j q)
 tbls:=fun c u q=>by
  obtain ⟨r,i⟩:=a.tbls c u q
  obtain ⟨s,l⟩:=b.tbls c _ i
  exact ⟨r++s,by rw [l,a0U]⟩
theorem Un.kept (k:∀ b u,h.get? b=some u->h'.get? b=some u):Un fs ex H H h h':=
 ⟨fun b c q _ _ _=>k b c q,fun b c q _ _ _=>⟨c.slots,k b c q⟩,fun _ _ _ n _=>n,fun b c q _=>⟨c,k b c q⟩,fun _ _ q=>q,fun _ _ _ q=>q,fun _ d q=>⟨#[],by rw [q];simp⟩⟩
theorem Un.refl:Un fs ex H H h h:=Un.kept fun _ _ q=>q
theorem Un.laid (k:∀ b u,h.get? b=some u->h'.get? b=some u)(d:h.objs.size<=a)(c:H a=none):Un fs ex H (aI H a o) h h' where
 keep:=fun b u q _ _ _=>k b u q
 slot:=fun b u q _ _ _=>⟨u.slots,k b u q⟩
 free:=fun b u q n _=>by rw [bO (Tp (TF (S6 q) d))];exact n
 there:=fun b u q _=>⟨u,k b u q⟩
 tups:=fun b g q=>by rw [bO (lF q c)];exact q
 frzs:=fun b u g q=>by rw [bO (lF q c)];exact q
 tbls:=fun b i q=>⟨#[],by rw [bO (lF q c),q];simp⟩
theorem Un.write (d:oV (H x))(m:e=x\/H e=some (.own x))(k:∀ b u,b≠e->h.get? b=some u->h'.get? b=some u)(g:∃ u,h'.get? e=some u):Un fs ex H (aI H x o) h h':=by
 have l:∀ b,H b=none->b≠x:=fun b n z=>by subst z;rw [n] at d;exact d
 have j:∀ b,H b=none->b≠e:=fun b n z=>by
  subst z
  rcases m with r|r
  ·exact l b n r
  ·rw [n] at r;cases r
 have i:∀ b u,H b=some u->¬ oV (some u)->b≠x:=fun b u q p z=>by subst z;rw [q] at d;exact p d
 refine ⟨fun b u q n _ _=>k b u (j b n) q,fun b u q n _ _=>⟨u.slots,k b u (j b n) q⟩,fun b u q n _=>by rw [bO (l b n)];exact n,fun b u q _=>?_,
  fun b s q=>by rw [bO (i b _ q fun z=>z)];exact q,fun b u s q=>by rw [bO (i b _ q fun z=>z)];exact q,fun b v q=>⟨#[],by rw [bO (i b _ q fun z=>z),q];simp⟩⟩
 by_cases c:b=e
 ·subst c;exact g
 ·exact ⟨u,k b u c q⟩
theorem Un.mono (u:Un fs ex H H1 h h1)(j:∀ b∈fs,b∈fs')(g:∀ b∈ex,b∈ex'):Un fs' ex' H H1 h h1:=
 ⟨fun b d q n i c=>u.keep b d q n (fun z=>i (j b z)) fun z=>c (g b z),fun _ _ q n _ c=>u.any q n fun z=>c (g _ z),fun b d q n c=>u.free b d q n fun z=>c (g b z),fun b d q c=>u.there b d q fun z=>c (g b z),u.tups,u.frzs,u.tbls⟩
end
noncomputable def qS (h:Uj)(H:Hp):List Addr:=(Tz h.objs.size).filter fun a=>(H a).isSome
noncomputable def i5 (h:Uj)(H:Hp):Uj:=PySem.W.hideAll h (qS h H)
theorem Ga (h:Uj)(H:Hp):(i5 h H).objs.size=h.objs.size:=PySem.W.hideAll_size _ _
theorem Gb {h:Uj}{H:Hp}{b:Addr}{o:Vu}(e:h.get? b=some o)(n:H b=none):(i5 h H).get? b=some o:=
 PySem.W.hideAll_get _ e fun a=>by
  have q:(H b).isSome=true:=(T4.mp a).2
  rw [n] at q;simp at q
theorem Gd {h:Uj}{H:Hp}{b:Addr}{o:Vu}(e:(i5 h H).get? b=some o):h.get? b=some o/\H b=none:=by
 have a:h.get? b=some o:=PySem.W.of_hideAll (qS h H) e
 refine ⟨a,?_⟩
 cases q:H b with
 | none=>rfl
 | some x=>
  have c:b∈qS h H:=T4.mpr ⟨TV.mpr (S6 a),by simp [q]⟩
  have z:(i5 h H).get? b=none:=PySem.W.hideAll_none (qS h H) c
  rw [z] at e;cases e
noncomputable def Ge (g h:Uj)(L:Addr):List (Addr×Vu):=(Tz h.objs.size).filterMap fun a=>if a=L\/(g.get? a).isSome=true then none else (h.get? a).map fun o=>(a,o)
noncomputable def rest (g h:Uj)(L d:Addr):List (Addr×Vu):=(Ge g h L).filter fun p=>decide (p.1≠d)
end L2
namespace L2
open PySem PySem.Spec PyProof.Rows
structure Mod (K:SJ)(mg:Str->Option SK)(base:Uj):Prop where
 kin:K.In base
 glob:base.Ns U8 mg
 blt:∃ mb,base.Ns a2s mb/\∀ x:Str,x ≠ "__name__"->mb x=U4 x
 nolimit:base.NoLimit
structure Cx where
 prog:Tj
 w:TH
 K:SJ
 mg:Str->Option SK
 base:Uj
 A:Tv
 N:List Str
 s₀:SM
 H₀:Hp
 env:YU
 outer:List YU
 stack:List YU
 ex:List Addr
 fn:Str->Bool
 calm:Bool
 pn:List (Addr×Vu)
 xe:SK->SM->Prop
noncomputable def fT (l:List YU):List Addr:=l.filterMap (·.frame)
noncomputable abbrev Cx.fs (X:Cx):List Addr:=fT X.outer
noncomputable def oW (a:Wh)(x:Str):Prop:=a.names.lookup x=some .local\/a.names.lookup x=some .cell\/a.names.lookup x=some .free
noncomputable def Loc (a:Wh)(x:Str):Prop:=a.names.lookup x=some .local\/a.names.lookup x=some .cell
noncomputable def Gf (env:YU)(h:Uj)(m:Str->Option SK)(x:Str)(u:SK):Prop:=
 (env.kindOf x=some .local/\m x=some u)\/((env.kindOf x=some .cell\/env.kindOf x=some .free)/\∃ c,env.cells.lookup x=some c/\h.IsCell c (some u))
structure Cx.Ok (X:Cx):Prop where
 mod:Mod X.K X.mg X.base
 kind:X.env.scope.kind=.function
 glob:X.env.globals=U8
 blt:X.env.builtins=a2s
 above:X.s₀.heap.objs.size<=X.env.locals
 inj:∀ x y c,X.env.cells.lookup x=some c->X.env.cells.lookup y=some c->x=y
 has:∀ x,(X.env.kindOf x=some .cell\/X.env.kindOf x=some .free)->∃ c,X.env.cells.lookup x=some c
 cab:∀ x c,X.fn x=true->X.env.cells.lookup x=some c->X.s₀.heap.objs.size<=c
 hd:X.calm=true->X.A.handled=none
 frames:X.A.frames=some X.stack
 stk:X.stack=X.outer\/(X.stack=X.env::X.outer/\X.env.frame=some X.env.locals)
 exf:∀ b∈X.ex,b≠X.env.locals/\∀ x c,X.env.cells.lookup x=some c->c≠b
 bs:∀ b o,X.base.get? b=some o->X.s₀.heap.get? b=some o/\X.H₀ b=none
 bsz:X.base.objs.size<=X.s₀.heap.objs.size
 noex:∀ b o,X.base.get? b=some o->b∉X.ex
 exfs:∀ b∈X.ex,b∉X.fs
 funs:X.s₀.heap.FunFrames X.base X.outer
 frf:∀ b∈X.fs,X.H₀ b=none
structure Inv (X:Cx)(a4b:List (Addr×Vu))(σ:List (Option V))(H:Hp)(s:SM):Prop where
 ok:X.Ok
 os:s.os=X.s₀.os
 bare:Y1 s.gens
 base:Un X.fs X.ex X.H₀ H X.s₀.heap s.heap
 loc:∃ m,s.heap.Ns X.env.locals m/\∀ (i:Nat)(x:Str)(v:V),X.N[i]? = some x->σ[i]? = some (some v)->oW X.env.scope x->∃ u,RelV v u/\Gf X.env s.heap m x u
 cell:∀ x c,X.env.cells.lookup x=some c->∃ v,s.heap.IsCell c v
 free:H X.env.locals=none
 freeC:∀ x c,X.env.cells.lookup x=some c->H c=none
 pin:∀ p∈X.pn++a4b,s.heap.get? p.1=some p.2/\H p.1=none/\p.1≠X.env.locals/\p.1∉X.fs/\∀ v,p.2.data≠.cell v
 hok:HOk X.prog X.w H s.heap
 len:σ.length=X.N.length
section
variable {X:Cx}{a4b:List (Addr×Vu)}{σ:List (Option V)}{H H':Hp}{s:SM}{h':Uj}
theorem Cx.Ok.nofr (ok:X.Ok){b:Addr}{o:Vu}(e:X.base.get? b=some o):b∉X.fs:=fun a=>by
 have:=(ok.funs.mem a).1
 rw [e] at this;cases this
theorem Inv.bs (I:Inv X a4b σ H s):∀ b o,X.base.get? b=some o->s.heap.get? b=some o/\H b=none:=fun b o e=>
 ⟨I.base.keep b o (I.ok.bs b o e).1 (I.ok.bs b o e).2 (I.ok.nofr e) (I.ok.noex b o e),I.base.free b o (I.ok.bs b o e).1 (I.ok.bs b o e).2 (I.ok.noex b o e)⟩
theorem Inv.bk (I:Inv X a4b σ H s):∀ b o,X.base.get? b=some o->s.heap.get? b=some o:=fun b o e=>(I.bs b o e).1
theorem Inv.mod (I:Inv X a4b σ H s):Mod X.K X.mg X.base:=I.ok.mod
theorem Inv.kIn (I:Inv X a4b σ H s):X.K.In s.heap:=I.ok.mod.kin.keeps I.bk
theorem Inv.nolimit (I:Inv X a4b σ H s):s.heap.NoLimit:=I.ok.mod.nolimit.keeps I.bk
theorem Inv.fr (I:Inv X a4b σ H s):∃ m,Fr X.base X.env.locals s.heap m:=
 let ⟨m,a,_⟩:=I.loc
 ⟨m,a,I.bk,TQ I.ok.bsz I.ok.above⟩
theorem Inv.lt (I:Inv X a4b σ H s):X.env.locals<s.heap.objs.size:=let ⟨_,a,_⟩:=I.loc;a.lt
theorem Inv.sz (I:Inv X a4b σ H s):X.s₀.heap.objs.size<=s.heap.objs.size:=TQ I.ok.above (Xc I.lt)
theorem Inv.nofs (I:Inv X a4b σ H s){a:Addr}(h:s.heap.objs.size<=a):a∉X.fs:=fun b=>by
 obtain ⟨_,o,c,_⟩:=I.ok.funs.mem b
 exact absurd (TF (S6 c) (TQ I.sz h)) (Vj _)
theorem Inv.cne (I:Inv X a4b σ H s):∀ x c,X.env.cells.lookup x=some c->c≠X.env.locals:=fun x c e z=>by
 obtain ⟨v,o,d,hd⟩:=I.cell x c e
 obtain ⟨m,⟨i,h,g,b,a,_⟩,_⟩:=I.loc
 rw [z,b] at d;cases d;rw [a] at hd;cases hd
theorem Inv.funs (I:Inv X a4b σ H s):s.heap.FunFrames X.base X.outer:=by
 have all:∀ (l:List YU),(∀ b∈fT l,b∈X.fs)->X.s₀.heap.FunFrames X.base l->s.heap.FunFrames X.base l:=by
  intro l
  induction l with
  | nil=>intro _ _;trivial
  | cons h r q=>
   intro g j
   obtain ⟨i,⟨L,o,d,m,n,hd⟩,p⟩:=j
   have a:L∈X.fs:=g L (by unfold fT;rw [YH,d];exact Td)
   obtain ⟨u,e⟩:=I.base.slot L o n (I.ok.frf L a) a fun z=>I.ok.exfs L z a
   exact ⟨i,⟨L,_,d,m,e,hd⟩,q (fun b c=>g b (by unfold fT;rw [YH,d];exact S3 _ c)) p⟩
 exact all X.outer (fun _ c=>c) I.ok.funs
theorem Inv.stack (I:Inv X a4b σ H s):s.heap.FunFrames X.base X.stack:=by
 rcases I.ok.stk with e|⟨e,a⟩
 ·rw [e];exact I.funs
 ·rw [e]
  obtain ⟨m,b,_⟩:=I.loc
  refine .cons (by rw [I.ok.kind];decide) a b ?_ I.funs
  exact Heap.get?_none_of_le (TQ I.ok.bsz I.ok.above)
theorem Inv.stkSub (I:Inv X a4b σ H s):∀ b∈fT X.stack,b∈X.env.locals::X.fs:=fun b a=>by
 rcases I.ok.stk with e|⟨e,c⟩
 ·rw [e] at a;exact S3 _ a
 ·rw [e] at a
  unfold fT at a
  rw [YH,c] at a
  exact a
theorem Inv.stkFree (I:Inv X a4b σ H s):∀ b∈fT X.stack,H b=none:=fun b a=>by
 rcases To.mp (I.stkSub b a) with e|a
 ·rw [e];exact I.free
 ·obtain ⟨_,o,c,_⟩:=I.ok.funs.mem a
  exact I.base.free b o c (I.ok.frf b a) fun z=>I.ok.exfs b z a
theorem Inv.step {g':Array a1Y}{t':Nat}{d':Drawn}{ch:List Addr}(I:Inv X a4b σ H s)
  (h:∀ b∈ch,(b∈X.ex\/X.s₀.heap.objs.size<=b)/\b≠X.env.locals/\(∀ x c,X.env.cells.lookup x=some c->c≠b)/\∀ p∈X.pn++a4b,p.1≠b)
  (j:∀ b o,b≠X.env.locals->b∉X.fs->b∉ch->s.heap.get? b=some o->H b=none->h'.get? b=some o)
  (slot:∀ b o,b≠X.env.locals->b∈X.fs->b∉ch->s.heap.get? b=some o->H b=none->∃ Y,h'.get? b=some { o with slots:=Y })(free:∀ b o,b∉ch->s.heap.get? b=some o->H b=none->H' b=none)
  (G:∀ b o,b∉ch->s.heap.get? b=some o->∃ O,h'.get? b=some O)
  (R:∀ b B,H b=some (.tup B)->H' b=some (.tup B))(M:∀ b o u,H b=some (.frz o u)->H' b=some (.frz o u))(Q:∀ b T,H b=some (.tbl T)->∃ more,H' b=some (.tbl (T++more)))
  (ns:∀ m,s.heap.Ns X.env.locals m->h'.Ns X.env.locals m)(U:HOk X.prog X.w H' h')(hg:Y1 g') :
  Inv X a4b σ H' { s with heap:=h',gens:=g',drawn:=d',toks:=t' }:=by
 have N:∀ b o,X.s₀.heap.get? b=some o->b≠X.env.locals:=fun b o e=>Tp (TF (S6 e) I.ok.above)
 have A:∀ b o,X.s₀.heap.get? b=some o->b∉X.ex->b∉ch:=fun b o e a E=>by
  rcases (h b E).1 with z|z
  ·exact a z
  ·exact absurd (TF (S6 e) z) (Vj _)
 have g:∀ x c,X.env.cells.lookup x=some c->∀ v,s.heap.IsCell c v->h'.IsCell c v:=fun x c e v ⟨o,K,hd⟩=>by
  have w:c∉ch:=fun z=>(h c z).2.2.1 x c e rfl
  by_cases hc:c∈X.fs
  ·obtain ⟨Y,q⟩:=slot c o (I.cne x c e) hc w K (I.freeC x c e)
   exact ⟨_,q,hd⟩
  ·exact ⟨o,j c o (I.cne x c e) hc w K (I.freeC x c e),hd⟩
 refine ⟨I.ok,I.os,hg,⟨fun b o e n E a=>?_,fun b o e n E a=>?_,fun b o e n a=>?_,fun b o e a=>?_,fun b B e=>R b B (I.base.tups b B e),fun b o B e=>M b o B (I.base.frzs b o B e),fun b T e=>?_⟩,?_,fun x c e=>?_,?_,fun x c e=>?_,fun p hp=>?_,U,I.len⟩
 ·exact j b o (N b o e) E (A b o e a) (I.base.keep b o e n E a) (I.base.free b o e n a)
 ·obtain ⟨Y,y⟩:=I.base.slot b o e n E a
  obtain ⟨Z,L⟩:=slot b _ (N b o e) E (A b o e a) y (I.base.free b o e n a)
  exact ⟨Z,L⟩
 ·obtain ⟨O,y⟩:=I.base.there b o e a
  exact free b O (A b o e a) y (I.base.free b o e n a)
 ·obtain ⟨O,y⟩:=I.base.there b o e a
  exact G b O (A b o e a) y
 ·obtain ⟨m1,y⟩:=I.base.tbls b T e
  obtain ⟨m2,L⟩:=Q b _ y
  exact ⟨m1++m2,by rw [L,a0U]⟩
 ·obtain ⟨m,hn,hl⟩:=I.loc
  refine ⟨m,ns m hn,fun i x v y L e3=>?_⟩
  obtain ⟨u,r,l⟩:=hl i x v y L e3
  refine ⟨u,r,?_⟩
  rcases l with l|⟨k,c,e,z⟩
  ·exact .inl l
  ·exact .inr ⟨k,c,e,g x c e _ z⟩
 ·obtain ⟨v,z⟩:=I.cell x c e
  exact ⟨v,g x c e v z⟩
 ·obtain ⟨m,⟨o,_,_,K,_⟩,_⟩:=I.loc
  exact free _ o (fun z=>(h _ z).2.1 rfl) K I.free
 ·obtain ⟨v,o,K,hd⟩:=I.cell x c e
  exact free c o (fun z=>(h c z).2.2.1 x c e rfl) K (I.freeC x c e)
 ·obtain ⟨e,n,ne,nf,d⟩:=I.pin p hp
  have w:p.1∉ch:=fun z=>(h p.1 z).2.2.2 p hp rfl
  exact ⟨j p.1 p.2 ne nf w e n,free p.1 p.2 w e n,ne,nf,d⟩
theorem Inv.un {t':Nat}(I:Inv X a4b σ H s)(u:Un X.fs [] H H' s.heap h')(h:HOk X.prog X.w H' h'):Inv X a4b σ H' { s with heap:=h',toks:=t' }:=by
 obtain ⟨m,⟨o,v,q,i,r⟩,_⟩:=id I.loc
 obtain ⟨y,j⟩:=u.any i I.free (by simp)
 exact I.step (g':=s.gens) (d':=s.drawn) (ch:=[]) (fun _ z=>nomatch z) (fun b o _ g _ e n=>u.keep b o e n g (by simp)) (fun b o _ g _ e n=>u.slot b o e n g (by simp)) (fun b o _ e n=>u.free b o e n (by simp)) (fun b o _ e=>u.there b o e (by simp)) u.tups u.frzs u.tbls (fun w l=>by
  obtain ⟨x,d,c,a,p⟩:=l
  rw [i] at a;cases a
  exact ⟨_,d,c,j,p⟩) h I.bare
theorem Inv.call {g':Array a1Y}{t':Nat}{d':Drawn}{ch:List Addr}(I:Inv X a4b σ H s)(u:Un (fT X.stack) ch H H' s.heap h')(j:HOk X.prog X.w H' h')(v:Y1 g')
  (a:∀ b∈ch,(b∈X.ex\/X.s₀.heap.objs.size<=b)/\b≠X.env.locals/\(∀ x c,X.env.cells.lookup x=some c->c≠b)/\∀ p∈X.pn++a4b,p.1≠b) :
  Inv X a4b σ H' { s with heap:=h',gens:=g',drawn:=d',toks:=t' }:=by
 obtain ⟨m,⟨o,B,A,l,r⟩,_⟩:=id I.loc
 obtain ⟨K,i⟩:=u.any l I.free fun z=>(a _ z).2.1 rfl
 exact I.step (ch:=ch) a (fun b o i q hc e n=>u.keep b o e n (fun z=>(To.mp (I.stkSub b z)).elim i q) hc) (fun b o _ _ hc e n=>u.any e n hc) (fun b o hc e n=>u.free b o e n hc) (fun b o hc e=>u.there b o e hc) u.tups u.frzs u.tbls (fun E w=>by
  obtain ⟨G,h,g,d,y⟩:=w
  rw [l] at d;cases d
  exact ⟨_,h,g,i,y⟩) j v
theorem Inv.turned {t':Nat}{a:Addr}(I:Inv X a4b σ H s)(k:∀ b o,b≠a->s.heap.get? b=some o->h'.get? b=some o)(A:H a=none)(g:a≠X.env.locals)
  (h1:a∈X.ex\/X.s₀.heap.objs.size<=a)(j:∀ x c,X.env.cells.lookup x=some c->c≠a)(l:∀ p∈X.pn++a4b,p.1≠a):Inv X a4b σ H { s with heap:=h',toks:=t' }:=by
 have d:∀ b u,H b=some u->b≠a:=fun b u e z=>by rw [z,A] at e;cases e
 refine I.step (g':=s.gens) (d':=s.drawn) (ch:=[a]) (fun b w=>?_) (fun b o _ _ hc e _=>k b o (fun z=>hc (by simp [z])) e) (fun b o _ _ hc e _=>⟨o.slots,k b o (fun z=>hc (by simp [z])) e⟩) (fun _ _ _ _ n=>n)
  (fun b o hc e=>⟨o,k b o (fun z=>hc (by simp [z])) e⟩) (fun _ _ e=>e) (fun _ _ _ e=>e) (fun b E e=>⟨#[],by rw [e];simp⟩) (fun m y=>?_) (fun b u e=>?_) I.bare
 ·have e:b=a:=by simpa using w
  subst e
  exact ⟨h1,g,j,l⟩
 ·obtain ⟨o,i,h,B,r⟩:=y
  exact ⟨o,i,h,k _ o (UM g) B,r⟩
 ·refine (I.hok b u e).stay (fun c v hc q=>k c v ?_ q) (fun _ q=>q) fun _ _ q=>q
  rcases hc with z|z
  ·rw [z];exact d b u e
  ·exact d c _ z
theorem Inv.tok (I:Inv X a4b σ H s)(t:Nat):Inv X a4b σ H { s with toks:=t }:=I.un (h':=s.heap) (t':=t) Un.refl I.hok
theorem Inv.kept {t':Nat}(I:Inv X a4b σ H s)(k:∀ b u,s.heap.get? b=some u->h'.get? b=some u):Inv X a4b σ H { s with heap:=h',toks:=t' }:=I.un (Un.kept k) (I.hok.kept k)
theorem Inv.laid {a:Addr}{o:HO}{t':Nat}(I:Inv X a4b σ H s)(k:∀ b u,s.heap.get? b=some u->h'.get? b=some u)(c:s.heap.objs.size<=a)(new:ObjOk X.prog X.w (aI H a o) h' a o) :
  Inv X a4b σ (aI H a o) { s with heap:=h',toks:=t' }:=I.un (Un.laid k c (I.hok.fresh c)) (I.hok.laid k c new)
theorem Inv.write {x e:Addr}{o:HO}{t':Nat}(I:Inv X a4b σ H s)(d:oV (H x))(c:e=x\/H e=some (.own x))(k:∀ b u,b≠e->s.heap.get? b=some u->h'.get? b=some u)(a:∃ u,h'.get? e=some u)
  (new:ObjOk X.prog X.w (aI H x o) h' x o):Inv X a4b σ (aI H x o) { s with heap:=h',toks:=t' }:=I.un (Un.write d c k a) (I.hok.write d c k a new)
theorem Inv.weak {a:List (Option V)}(I:Inv X a4b σ H s)(g:a.length=σ.length)(w:∀ (i:Nat) v,a[i]? = some (some v)->σ[i]? = some (some v)):Inv X a4b a H s:=
 ⟨I.ok,I.os,I.bare,I.base,let ⟨m,h,b⟩:=I.loc;⟨m,h,fun i x v c d e=>b i x v c (w i v d) e⟩,I.cell,I.free,I.freeC,I.pin,I.hok,g.trans I.len⟩
theorem Inv.pins_of {a:List (Addr×Vu)}(I:Inv X a4b σ H s)(h:∀ p∈a,s.heap.get? p.1=some p.2/\H p.1=none/\p.1≠X.env.locals/\p.1∉X.fs/\∀ v,p.2.data≠.cell v):Inv X a σ H s:=
 ⟨I.ok,I.os,I.bare,I.base,I.loc,I.cell,I.free,I.freeC,fun p b=>(Tf.mp b).elim (fun z=>I.pin p (Uv _ z)) (h p),I.hok,I.len⟩
theorem Ar {N:List Str}(e:N.Nodup){i j:Nat}{x:Str}(a:N[i]? = some x)(b:N[j]? = some x):i=j:=by
 obtain ⟨g,c⟩:=SN.mp a
 obtain ⟨h,d⟩:=SN.mp b
 exact (a1H e).mp (c.trans d.symm)
theorem Au {M:a1U}{A:Tv}{E:SK->SM->Prop}{i:Nat}{x:Str}{v:V}{u:SK}{Q:Unit->SM->Prop}(I:Inv X a4b σ H s)(hN:X.N.Nodup)(hi:X.N[i]? = some x)(B:Loc X.env.scope x)(r:RelV v u)
  (h:∀ s',Inv X a4b (σ.set i (some v)) H s'->(∃ a,WB a s.heap s'.heap/\(a=X.env.locals\/X.env.cells.lookup x=some a))->Q () s')(hf:X.fn x=true\/X.env.scope.names.lookup x=some .local:=by first|exact .inl rfl|exact .inr rfl|assumption):Tn M A (storeName X.env x u) Q E s:=by
 obtain ⟨m,hn,hl⟩:=id I.loc
 have Z:(X.env.scope.kind == .class||(X.env.scope.kind == .module&&X.env.locals != X.env.globals))=false:=by rw [I.ok.kind];rfl
 have L:i<σ.length:=by rw [I.len];exact (SN.mp hi).1
 have cne:=I.cne
 have w:∀ {a:Addr}{h':Uj},(∃ o,s.heap.get? a=some o/\H a=none)->WB a s.heap h'->HOk X.prog X.w H h':=fun {a h'} ha g b ob e=>by
  obtain ⟨_,_,G⟩:=ha
  refine (I.hok b ob e).stay (fun c w' hc q=>(g.2 c ?_).trans q) (fun _ q=>q) fun _ _ q=>q
  rintro rfl
  rcases hc with rfl|hc
  ·rw [G] at e;cases e
  ·rw [G] at hc;cases hc
 rcases B with N|N
 ·refine wpAny_storeName_local N hn (fun h' hn' g=>?_) Z
  obtain ⟨oL,_,_,hoL,_⟩:=id hn
  refine h _ ⟨I.ok,I.os,I.bare,⟨fun b o e n O B=>?_,fun b o e n O B=>?_,I.base.free,fun b o e B=>?_,I.base.tups,I.base.frzs,I.base.tbls⟩,⟨_,hn',fun j y v' l K e3=>?_⟩,fun y c e=>?_,I.free,I.freeC,fun p hp=>?_,w ⟨oL,hoL,I.free⟩ g,by simpa using I.len⟩ ⟨_,g,.inl rfl⟩
  ·exact (g.2 b (Tp (TF (S6 e) I.ok.above))).trans (I.base.keep b o e n O B)
  ·obtain ⟨sl,l⟩:=I.base.slot b o e n O B
   exact ⟨sl,(g.2 b (Tp (TF (S6 e) I.ok.above))).trans l⟩
  ·obtain ⟨o',l⟩:=I.base.there b o e B
   exact ⟨o',(g.2 b (Tp (TF (S6 e) I.ok.above))).trans l⟩
  ·by_cases T:j=i
   ·subst T
    rw [hi] at l;cases l
    rw [Uw L] at K
    cases K
    exact ⟨u,r,.inl ⟨N,by simp⟩⟩
   ·rw [UJ (UM T)] at K
    obtain ⟨u',r',q⟩:=hl j y v' l K e3
    refine ⟨u',r',?_⟩
    rcases q with ⟨k,e⟩|⟨k,c,e,z⟩
    ·refine .inl ⟨k,?_⟩
     have:y≠x:=fun e=>T (Ar hN l (e ▸ hi))
     simp [this,e]
    ·exact .inr ⟨k,c,e,z.sameBut g (cne y c e)⟩
  ·obtain ⟨w',z⟩:=I.cell y c e
   exact ⟨w',z.sameBut g (cne y c e)⟩
  ·obtain ⟨e,n,ne,nf,d⟩:=I.pin p hp
   exact ⟨(g.2 p.1 ne).trans e,n,ne,nf,d⟩
 ·have R:X.fn x=true:=by
   rcases hf with z|z
   ·exact z
   ·rw [z] at N;cases N
  obtain ⟨c,hc⟩:=I.ok.has x (.inl N)
  obtain ⟨w',z⟩:=I.cell x c hc
  refine wpAny_storeName_cell I.ok.kind N hc z (fun h' U g=>?_)
  obtain ⟨oc,hoc,hocd⟩:=id z
  refine h { s with heap:=h' } ⟨I.ok,I.os,I.bare,⟨fun b o e n O B=>?_,fun b o e n O B=>?_,I.base.free,fun b o e B=>?_,I.base.tups,I.base.frzs,I.base.tbls⟩,⟨m,hn.sameBut g (UM (cne x c hc)),fun j y v' l K e3=>?_⟩,fun y c' e=>?_,I.free,I.freeC,fun p hp=>?_,w ⟨oc,hoc,I.freeC x c hc⟩ g,by simpa using I.len⟩ ⟨c,g,.inr hc⟩
  ·exact (g.2 b (Tp (TF (S6 e) (I.ok.cab x c R hc)))).trans (I.base.keep b o e n O B)
  ·obtain ⟨sl,l⟩:=I.base.slot b o e n O B
   exact ⟨sl,(g.2 b (Tp (TF (S6 e) (I.ok.cab x c R hc)))).trans l⟩
  ·obtain ⟨o',l⟩:=I.base.there b o e B
   exact ⟨o',(g.2 b (Tp (TF (S6 e) (I.ok.cab x c R hc)))).trans l⟩
  ·by_cases T:j=i
   ·subst T
    rw [hi] at l;cases l
    rw [Uw L] at K
    cases K
    exact ⟨u,r,.inr ⟨.inl N,c,hc,U⟩⟩
   ·rw [UJ (UM T)] at K
    obtain ⟨u',r',q⟩:=hl j y v' l K e3
    refine ⟨u',r',?_⟩
    rcases q with q|⟨k,c',e,z'⟩
    ·exact .inl q
    ·refine .inr ⟨k,c',e,z'.sameBut g ?_⟩
     rintro rfl
     exact T (Ar hN l (I.ok.inj _ _ _ e hc ▸ hi))
  ·by_cases Y:c'=c
   ·subst Y;exact ⟨_,U⟩
   ·obtain ⟨w2,z2⟩:=I.cell y c' e
    exact ⟨w2,z2.sameBut g Y⟩
  ·obtain ⟨e,n,ne,nf,d⟩:=I.pin p hp
   refine ⟨(g.2 p.1 ?_).trans e,n,ne,nf,d⟩
   intro q
   rw [q,hoc] at e
   have q':oc=p.2:=TL e
   exact d w' (by rw [<- q'];exact hocd)
theorem Av {M:a1U}{A:Tv}{E:SK->SM->Prop}{i:Nat}{x:Str}{v:V}{u:SK}{Q:Unit->SM->Prop}(I:Inv X a4b σ H s)(c:X.N.Nodup)(e:X.N[i]? = some x)(g:Loc X.env.scope x)(r:RelV v u)
  (h:∀ a,Inv X a4b (σ.set i (some v)) H a->Q () a)(d:X.fn x=true\/X.env.scope.names.lookup x=some .local:=by first|exact .inl rfl|exact .inr rfl|assumption):Tn M A (storeName X.env x u) Q E s:=
 Au I c e g r (fun a b _=>h a b) d
end
noncomputable abbrev XK:=SK->Option Addr->Hp->Prop
noncomputable abbrev St:=List (Option V)
noncomputable abbrev VK:=V->Hp->Prop
noncomputable abbrev TE:=St->Hp->VK->Prop
noncomputable abbrev TT:=St->Hp->(Bool->Hp->Prop)->Prop
noncomputable abbrev TA:=St->Hp->(List V->Hp->Prop)->Prop
structure Ends where
 nx:St->Hp->Prop
 rt:VK
 bk:St->Hp->Prop:=fun _ _=>False
 ct:St->Hp->Prop:=fun _ _=>False
noncomputable abbrev TS:=Ends->St->Hp->Prop
noncomputable def EP (X:Cx)(a4b:List (Addr×Vu))(σ:St)(Q:VK)(u:SK)(b:SM):Prop:=∃ v a,Inv X a4b σ a b/\RelV v u/\Q v a
noncomputable def TP (X:Cx)(a4b:List (Addr×Vu))(σ:St)(Q:Bool->Hp->Prop)(b:Bool)(c:SM):Prop:=∃ a,Inv X a4b σ a c/\Q b a
noncomputable def AP (X:Cx)(a4b:List (Addr×Vu))(σ:St)(Q:List V->Hp->Prop)(us:List SK)(b:SM):Prop:=∃ vs a,Inv X a4b σ a b/\Vals vs us/\Q vs a
noncomputable def SP (X:Cx)(a4b:List (Addr×Vu))(D:Ends)(f:Flow)(c:SM):Prop:=
 match f with
 | .next=>∃ a b,Inv X a4b a b c/\D.nx a b
 | .brk=>∃ a b,Inv X a4b a b c/\D.bk a b
 | .cont=>∃ a b,Inv X a4b a b c/\D.ct a b
 | .ret u=>∃ v a b,Inv X a4b a b c/\RelV v u/\D.rt v b
noncomputable def PE (X:Cx)(e:Expr)(t:TE):Prop:=
 ∀ (a4b:List (Addr×Vu))(s:SM)(σ:St)(H:Hp)(Q:VK),Inv X a4b σ H s->t σ H Q->Tn (Tr X.prog X.w) X.A (eval e X.env) (EP X a4b σ Q) X.xe s
noncomputable def PT (X:Cx)(e:Expr)(t:TT):Prop:=
 ∀ (a4b:List (Addr×Vu))(s:SM)(σ:St)(H:Hp)(Q:Bool->Hp->Prop),Inv X a4b σ H s->t σ H Q->Tn (Tr X.prog X.w) X.A (a1k e X.env (eval e X.env)) (TP X a4b σ Q) X.xe s
noncomputable def PW (X:Cx)(e:Expr)(t:TT):Prop:=
 ∀ (a:a0L SK)(a4b:List (Addr×Vu))(s:SM)(σ:St)(H:Hp)(Q:Bool->Hp->Prop),Inv X a4b σ H s->t σ H Q->Tn (Tr X.prog X.w) X.A (a1k e X.env a) (TP X a4b σ Q) X.xe s
theorem PW.pt {X:Cx}{e:Expr}{t:TT}(h:PW X e t):PT X e t:=h _
noncomputable def PA (X:Cx)(es:List Expr)(t:TA):Prop:=
 ∀ (pos:UY)(a4b:List (Addr×Vu))(s:SM)(σ:St)(H:Hp)(Q:List V->Hp->Prop),Inv X a4b σ H s->t σ H Q->Tn (Tr X.prog X.w) X.A (spliced (Wg pos (TU es X.env))) (AP X a4b σ Q) X.xe s
noncomputable def PS (X:Cx)(st:Stmt)(t:TS):Prop:=
 ∀ (a4b:List (Addr×Vu))(s:SM)(σ:St)(H:Hp)(D:Ends),Inv X a4b σ H s->t D σ H->Tn (Tr X.prog X.w) X.A (exec st X.env) (SP X a4b D) X.xe s
noncomputable def PSs (X:Cx)(st:List Stmt)(t:TS):Prop:=
 ∀ (a4b:List (Addr×Vu))(s:SM)(σ:St)(H:Hp)(D:Ends),Inv X a4b σ H s->t D σ H->Tn (Tr X.prog X.w) X.A (execs st X.env) (SP X a4b D) X.xe s
theorem aP {c:Type}{t:a0L c}{Q b:c->SM->Prop}{M:a1U}{A:Tv}{E:SK->SM->Prop}{s:SM}(h:Tn M A t Q E s)(d:∀ a s,Q a s->b a s):Tn M A t b E s:=T7 h d fun _ _ x=>x
end L2
namespace L2
open PySem PySem.Spec PyProof.Rows
section
variable {X:Cx}
noncomputable def Aw (i:Nat):TE:=fun σ H Q=>∃ v,σ[i]? = some (some v)/\Q v H
noncomputable def tC (v:V):TE:=fun _ H Q=>Q v H
theorem Gg {i:Nat}{x:Str}{pos:UY}(j:X.N[i]? = some x)(q:oW X.env.scope x)(hd:(x == ("__debug__":Str))=false:=by decide) (g:(x == ("__classdict__":Str))=false:=by decide):PE X (.Name x pos) (Aw i):=by
 intro d s w H Q I h
 obtain ⟨v,e,h⟩:=h
 obtain ⟨m,p,n⟩:=I.loc
 obtain ⟨u,r,l⟩:=n i x v j e q
 have fin:EP X d w Q u s:=⟨v,H,I,r,h⟩
 rcases l with ⟨b,o⟩|⟨b,c,hc,a⟩
 ·exact a2l (wpAny_loadName_local I.ok.kind b p o fin) hd
 ·rcases b with b|b
  ·exact a2l (wpAny_loadName_cell I.ok.kind b hc a fin) hd
  ·exact a2l (wpAny_loadName_free I.ok.kind b hc a fin g) hd
theorem Gh {i j pos}:PE X (.Constant (.int i) j pos) (tC (.int i)):=fun _ _ _ H _ I h=>wpAny_Constant_int ⟨.int i,H,I.tok _,⟨_,rfl⟩,h⟩
theorem Gi {b j pos}:PE X (.Constant (.bool b) j pos) (tC (.bl b)):=fun _ _ _ H _ I h=>Constant_bool ⟨.bl b,H,I,rfl,h⟩
theorem Gj {j pos}:PE X (.Constant .none j pos) (tC .non):=fun _ _ _ H _ I h=>Constant_none ⟨.non,H,I,rfl,h⟩
theorem Gk {x j pos}:PE X (.Constant (.str x) j pos) (tC (.str x)):=fun _ _ _ H _ I h=>Calls.Constant_str ⟨.str x,H,I.tok _,⟨_,rfl⟩,h⟩
noncomputable def Gl (X:Cx)(x:Str):Prop:=X.env.kindOf x=some .globalImplicit
theorem uF {E:SK->SM->Prop}{a4b:List (Addr×Vu)}{s:SM}{σ:St}{H:Hp}{x:Str}{u:SK}{pos:UY}{Q:SK->SM->Prop}(I:Inv X a4b σ H s)(a:Gl X x)(b:X.mg x=some u)(h:Q u s)
  (hd:(x == ("__debug__":Str))=false:=by decide):Tn (Tr X.prog X.w) X.A (eval (.Name x pos) X.env) Q E s:=
 ZJ I.ok.kind a (Calls.loadGlobal_global (by rw [I.ok.glob];exact I.mod.glob.keeps I.bk) b h) hd
theorem iA {E:SK->SM->Prop}{a4b:List (Addr×Vu)}{s:SM}{σ:St}{H:Hp}{x:Str}{u:SK}{pos:UY}{Q:SK->SM->Prop}(I:Inv X a4b σ H s)(c:Gl X x)(d:X.mg x=none)(g:U4 x=some u)(h:Q u s)
  (e:x ≠ "__name__":=by decide) (hd:(x == ("__debug__":Str))=false:=by decide):Tn (Tr X.prog X.w) X.A (eval (.Name x pos) X.env) Q E s:=by
 obtain ⟨i,a,b⟩:=I.mod.blt
 exact ZJ I.ok.kind c (Calls.loadGlobal_builtin (by rw [I.ok.glob];exact I.mod.glob.keeps I.bk) d (by rw [I.ok.blt];exact a.keeps I.bk) ((b x e).trans g) h) hd
theorem Gm {x:Str}{v:V}{u:SK}{pos:UY}(a:Gl X x)(b:X.mg x=some u)(r:RelV v u)(hd:(x == ("__debug__":Str))=false:=by decide):PE X (.Name x pos) (tC v):=
 fun _ _ _ H _ I h=>uF I a b ⟨v,H,I,r,h⟩ hd
theorem Gp {x:Str}{v:V}{u:SK}{pos:UY}(a:Gl X x)(b:X.mg x=none)(d:U4 x=some u)(r:RelV v u)(c:x ≠ "__name__":=by decide) (hd:(x == ("__debug__":Str))=false:=by decide):PE X (.Name x pos) (tC v):=
 fun _ _ _ H _ I h=>iA I a b d ⟨v,H,I,r,h⟩ c hd
variable {a b:Expr}{ta tb:TE}{pos:UY}
variable {tA tB':TT}{rest:List Expr}
noncomputable def Gq (t u:TT):TT:=fun σ H Q=>t σ H fun c d=>if c=true then u σ d Q else Q false d
noncomputable def Gr (t u:TT):TT:=fun σ H Q=>t σ H fun c d=>if c=true then Q true d else u σ d Q
noncomputable def Gs (t:TT):TT:=fun σ H Q=>t σ H fun c d=>Q (!c) d
theorem Gu (g:PT X a tA):PW X (.BoolOp .And [a] pos) tA:=by
 intro l d s i H Q I h
 refine isTrue_and (aP (g d s i H Q I h) fun c j e=>?_)
 cases c with
 | true=>exact isTrue_and_nil e
 | false=>exact e
theorem Gv (g:PT X a tA):PW X (.BoolOp .Or [a] pos) tA:=by
 intro l d s i H Q I h
 refine isTrue_or (aP (g d s i H Q I h) fun c j e=>?_)
 cases c with
 | false=>exact isTrue_or_nil e
 | true=>exact e
theorem Gw (l:PT X a tA)(m:PW X (.BoolOp .And (b::rest) pos) tB'):PW X (.BoolOp .And (a::b::rest) pos) (Gq tA tB'):=by
 intro o d s j H Q I h
 refine isTrue_and (aP (l d s j H _ I h) fun c n ⟨e,g,i⟩=>?_)
 cases c with
 | true=>exact m o d n j e Q g i
 | false=>exact ⟨e,g,i⟩
theorem Gx (l:PT X a tA)(m:PW X (.BoolOp .Or (b::rest) pos) tB'):PW X (.BoolOp .Or (a::b::rest) pos) (Gr tA tB'):=by
 intro o d s j H Q I h
 refine isTrue_or (aP (l d s j H _ I h) fun c n ⟨e,g,i⟩=>?_)
 cases c with
 | true=>exact ⟨e,g,i⟩
 | false=>exact m o d n j e Q g i
theorem Gy (g:PT X a tA):PT X (.UnaryOp .Not a pos) (Gs tA):=by
 intro d s i H Q I h
 exact isTrue_not (g d s i H (fun c e=>Q (!c) e) I h)
noncomputable def Gz (ta tb:TE):TE:=fun σ H Q=>ta σ H fun x d=>∃ c,x=.bl c/\if c=true then tb σ d Q else Q (.bl false) d
noncomputable def GA (ta tb:TE):TE:=fun σ H Q=>ta σ H fun x d=>∃ c,x=.bl c/\if c=true then Q (.bl true) d else tb σ d Q
noncomputable def GB (ta:TE):TE:=fun σ H Q=>ta σ H fun x d=>∃ c,x=.bl c/\Q (.bl (!c)) d
theorem GC {op} {t:TE}(h:PE X a t):PE X (.BoolOp op [a] pos) t:=fun a4b s σ H Q I hw=>BoolOp_one (h a4b s σ H Q I hw)
theorem GD (l:PE X a ta)(m:PE X (.BoolOp .And (b::rest) pos) tb):PE X (.BoolOp .And (a::b::rest) pos) (Gz ta tb):=by
 intro d s j H Q I h
 refine BoolOp_and (aP (l d s j H _ I h) fun v o ⟨x,g,i,n,e⟩=>?_)
 obtain ⟨c,rfl,e⟩:=e
 cases n
 refine VD ?_
 cases c with
 | true=>exact m d o j g Q i e
 | false=>exact ⟨.bl false,g,i,rfl,e⟩
theorem GF (l:PE X a ta)(m:PE X (.BoolOp .Or (b::rest) pos) tb):PE X (.BoolOp .Or (a::b::rest) pos) (GA ta tb):=by
 intro d s j H Q I h
 refine BoolOp_or (aP (l d s j H _ I h) fun v o ⟨x,g,i,n,e⟩=>?_)
 obtain ⟨c,rfl,e⟩:=e
 cases n
 refine VD ?_
 cases c with
 | false=>exact m d o j g Q i e
 | true=>exact ⟨.bl true,g,i,rfl,e⟩
theorem GG (j:PE X a ta):PE X (.UnaryOp .Not a pos) (GB ta):=by
 intro d s m H Q I h
 refine UnaryOp_ (aP (j d s m H _ I h) fun v n ⟨x,g,i,l,e⟩=>?_)
 obtain ⟨c,rfl,e⟩:=e
 cases l
 exact not_of (VD ⟨.bl (!c),g,i,rfl,e⟩)
noncomputable def GH (t:TT)(ta tb:TE):TE:=fun σ H Q=>t σ H fun c d=>if c=true then ta σ d Q else tb σ d Q
theorem GI {c:Expr}(hc:PT X c tA)(n:PE X a ta)(o:PE X b tb):PE X (.IfExp c a b pos) (GH tA ta tb):=by
 intro e s g H Q I h
 refine wpAny_IfExp (aP (hc e s g H _ I h) fun d m ⟨i,j,l⟩=>?_)
 cases d with
 | true=>exact n e m g i Q j l
 | false=>exact o e m g i Q j l
end
end L2
namespace L2
open PySem PySem.Spec PyProof.Rows
noncomputable def SqL (K:SJ)(H:Hp)(a:Addr)(xs:List V):Prop:=
 Rd H a (.lst xs) \/
  ∃ (o:Vu)(b:Array SK)(n:Nat),K.lookup a=some o/\o.cls=.type "list"/\o.dict=none/\o.data=.seq b n/\b.size<=S8/\Vals xs b.toList
noncomputable def SqT (K:SJ)(H:Hp)(a:Addr)(xs:List V):Prop:=
 Rd H a (.tup xs) \/
  ∃ (o:Vu)(b:Array SK)(n:Nat),K.lookup a=some o/\o.cls=.type "tuple"/\o.dict=none/\o.data=.seq b n/\b.size<=S8/\Vals xs b.toList
noncomputable def GJ:SK->Option V
 | .none=>some .non
 | .bool b=>some (.bl b)
 | .int i _=>some (.int i)
 | .str x _=>some (.str x)
 | .bytes b _=>some (.byt b)
 | .float b _=>some (.flt b)
 | .ref a=>some (.ref a)
 | .type n=>some (.ty n)
 | _=>none
theorem RelV.abs {x:V}{u:SK}(r:RelV x u):GJ u=some x:=by
 cases x with
 | non=>cases r;rfl
 | bl _=>cases r;rfl
 | int _=>obtain ⟨t,rfl⟩:=r;rfl
 | str _=>obtain ⟨t,rfl⟩:=r;rfl
 | byt _=>obtain ⟨t,rfl⟩:=r;rfl
 | flt _=>obtain ⟨t,rfl⟩:=r;rfl
 | ref _=>cases r;rfl
 | ty _=>cases r;rfl
theorem RelV.inj {x y:V}{u:SK}(r:RelV x u)(q:RelV y u):x=y:=TL (r.abs.symm.trans q.abs)
theorem Vals.inj:∀ {xs a:List V}{us:List SK},Vals xs us->Vals a us->xs=a
 | _,_,_,.nil,.nil=>rfl
 | _,_,_,.cons r t,.cons r' t'=>by rw [r.inj r',Vals.inj t t']
section
variable {X:Cx}{a4b:List (Addr×Vu)}{σ:St}{H:Hp}{s:SM}{a:Addr}{xs ys:List V}
theorem SqL.of {K:SJ}(h:H a=some (.lst xs)):SqL K H a xs:=.inl (.inl h)
theorem SqT.of {K:SJ}(h:H a=some (.tup xs)):SqT K H a xs:=.inl (.inl h)
theorem Inv.list (I:Inv X a4b σ H s)(h:SqL X.K H a xs):∃ b:List SK,Vals xs b/\PlainL s.heap a b.toArray/\xs.length<=S8:=by
 rcases h with h|⟨o,b,n,c,hc,hd,d,g,r⟩
 ·obtain ⟨z,b,n,r,e⟩:=h.ok I.hok
  exact ⟨b,r,⟨_,n,e,rfl,rfl,rfl⟩,z⟩
 ·refine ⟨b.toList,r,⟨o,n,I.kIn a o c,hc,hd,by simpa using d⟩,?_⟩
  have e:=r.length
  simp only [VC] at e
  omega
theorem Inv.tuple (I:Inv X a4b σ H s)(h:SqT X.K H a xs):∃ b:List SK,Vals xs b/\a2L s.heap a b.toArray/\xs.length<=S8:=by
 rcases h with h|⟨o,b,n,c,hc,hd,d,g,r⟩
 ·obtain ⟨z,b,r,p⟩:=h.ok I.hok
  exact ⟨b,r,p.tup,z⟩
 ·refine ⟨b.toList,r,⟨o,I.kIn a o c,hc,n,by simpa using d⟩,?_⟩
  have e:=r.length
  simp only [VC] at e
  omega
theorem Inv.tupN (I:Inv X a4b σ H s)(h:SqT X.K H a xs):∃ b:List SK,Vals xs b/\TupN s.heap a b.toArray:=by
 rcases h with h|⟨o,b,n,c,hc,hd,d,e,r⟩
 ·obtain ⟨z,b,r,p⟩:=h.ok I.hok
  exact ⟨b,r,p⟩
 ·exact ⟨b.toList,r,o,I.kIn a o c,hc,n,by simpa using d,hd⟩
theorem Inv.list_inj (I:Inv X a4b σ H s)(h:SqL X.K H a xs)(h':SqL X.K H a ys):xs=ys:=by
 obtain ⟨c,r,⟨o,n,e,_,_,d⟩,_⟩:=I.list h
 obtain ⟨b,j,⟨m,l,i,_,_,g⟩,_⟩:=I.list h'
 rw [e] at i;cases i
 rw [d] at g
 injection g with d1 _
 have:c=b:=by simpa using congrArg a2z d1
 subst this
 exact r.inj j
theorem Inv.tuple_inj (I:Inv X a4b σ H s)(h:SqT X.K H a xs)(h':SqT X.K H a ys):xs=ys:=by
 obtain ⟨c,r,⟨o,e,_,n,d⟩,_⟩:=I.tuple h
 obtain ⟨b,j,⟨m,i,_,l,g⟩,_⟩:=I.tuple h'
 rw [e] at i;cases i
 rw [d] at g
 injection g with d1 _
 have:c=b:=by simpa using congrArg a2z d1
 subst this
 exact r.inj j
end
noncomputable abbrev Cx.wish (X:Cx)(E:SK->SM->Prop):Cx:={ X with xe:=E }
noncomputable abbrev Cx.nox (X:Cx):Cx:=X.wish fun _ _=>False
theorem Cx.Ok.wish {X:Cx}(ok:X.Ok)(E:SK->SM->Prop):(X.wish E).Ok:=
 ⟨ok.mod,ok.kind,ok.glob,ok.blt,ok.above,ok.inj,ok.has,ok.cab,ok.hd,ok.frames,ok.stk,ok.exf,ok.bs,ok.bsz,ok.noex,ok.exfs,ok.funs,ok.frf⟩
theorem Cx.Ok.unwish {X:Cx}{E:SK->SM->Prop}(ok:(X.wish E).Ok):X.Ok:=
 ⟨ok.mod,ok.kind,ok.glob,ok.blt,ok.above,ok.inj,ok.has,ok.cab,ok.hd,ok.frames,ok.stk,ok.exf,ok.bs,ok.bsz,ok.noex,ok.exfs,ok.funs,ok.frf⟩
section
variable {X:Cx}{a4b:List (Addr×Vu)}{σ:St}{H:Hp}{s:SM}{E:SK->SM->Prop}
theorem Inv.wish (I:Inv X a4b σ H s)(E:SK->SM->Prop):Inv (X.wish E) a4b σ H s:=⟨I.ok.wish E,I.os,I.bare,I.base,I.loc,I.cell,I.free,I.freeC,I.pin,I.hok,I.len⟩
theorem Inv.unwish (I:Inv (X.wish E) a4b σ H s):Inv X a4b σ H s:=⟨I.ok.unwish,I.os,I.bare,I.base,I.loc,I.cell,I.free,I.freeC,I.pin,I.hok,I.len⟩
theorem SP.unwish {D:Ends}{f:Flow}{c:SM}(h:SP (X.wish E) a4b D f c):SP X a4b D f c:=by
 cases f with
 | next=>obtain ⟨a,b,I,q⟩:=h;exact ⟨a,b,I.unwish,q⟩
 | brk=>obtain ⟨a,b,I,q⟩:=h;exact ⟨a,b,I.unwish,q⟩
 | cont=>obtain ⟨a,b,I,q⟩:=h;exact ⟨a,b,I.unwish,q⟩
 | ret u=>obtain ⟨v,a,b,I,r,q⟩:=h;exact ⟨v,a,b,I.unwish,r,q⟩
theorem PE.nox {e:Expr}{t:TE}(h:PE X.nox e t):PE X e t:=fun a4b s σ H Q I hw=>
 T7 (h a4b s σ H Q (I.wish _) hw) (fun _ _ ⟨v,a,b,r,q⟩=>⟨v,a,b.unwish,r,q⟩) fun _ _ z=>Vh z
theorem PT.nox {e:Expr}{t:TT}(h:PT X.nox e t):PT X e t:=fun a4b s σ H Q I hw=>
 T7 (h a4b s σ H Q (I.wish _) hw) (fun _ _ ⟨a,b,q⟩=>⟨a,b.unwish,q⟩) fun _ _ z=>Vh z
theorem PSs.nox {st:List Stmt}{t:TS}(h:PSs X.nox st t):PSs X st t:=fun a4b s σ H D I hw=>
 T7 (h a4b s σ H D (I.wish _) hw) (fun _ _ q=>q.unwish) fun _ _ z=>Vh z
end
section
variable {X:Cx}{st:Stmt}{rest:List Stmt}{t u:TS}{e:Expr}{te:TE}{pos:UY}
noncomputable def Ax:TS:=fun D σ H=>D.nx σ H
noncomputable def GK (t u:TS):TS:=fun D σ H=>t { D with nx:=u D } σ H
theorem GL:PSs X [] Ax:=fun _ _ σ H _ I h=>YC ⟨σ,H,I,h⟩
theorem GN (h1:PS X st t)(g:PSs X rest u):PSs X (st::rest) (GK t u):=by
 intro a s j H D I h
 refine a2N (aP (h1 a s j H { D with nx:=u D } I h) fun f i q=>?_)
 cases f with
 | next=>
  obtain ⟨b,c,d,q⟩:=q
  exact g a i b c D d q
 | ret v=>exact q
 | brk=>exact q
 | cont=>exact q
theorem GO (h1:PS X st t):PSs X [st] t:=by
 intro a s b H D I h
 refine a2N (aP (h1 a s b H D I h) fun f c q=>?_)
 cases f with
 | next=>exact YC q
 | ret v=>exact q
 | brk=>exact q
 | cont=>exact q
theorem GP:PS X (.Pass pos) Ax:=fun _ _ σ H _ I h=>wpAny_Pass ⟨σ,H,I,h⟩
theorem Inv.quiet {a4b:List (Addr×Vu)}{σ:St}{H:Hp}{s:SM}(I:Inv X a4b σ H s):interactive X.env=false:=by simp [interactive,I.ok.kind]
noncomputable def GQ (te:TE):TS:=fun D σ H=>te σ H fun _ a=>D.nx σ a
theorem GR (g:PE X e te)(i:X8 e none pos.line X.env=pure false:=by rfl):PS X (.Expr e pos) (GQ te):=by
 intro a s b H D I h
 exact wpAny_Expr_any (aP (g a s b H _ I h) fun v m ⟨x,c,d,l,j⟩=>⟨b,c,d,j⟩) I.quiet i
noncomputable def GS (te:TE):TS:=fun D σ H=>te σ H D.rt
theorem GU (g:PE X e te):PS X (.Return (some e) pos) (GS te):=by
 intro a s b H D I h
 exact wpAny_Return_some (aP (g a s b H _ I h) fun v l ⟨x,c,d,j,i⟩=>⟨x,b,c,d,j,i⟩)
noncomputable def GV:TS:=fun D _ H=>D.rt .non H
theorem GW:PS X (.Return none pos) GV:=fun _ _ σ H _ I h=>wpAny_Return_none ⟨.non,σ,H,I,rfl,h⟩
noncomputable def GX (c:TT)(t u:TS):TS:=fun D σ H=>c σ H fun b a=>if b=true then t D σ a else u D σ a
theorem GY {c:Expr}{a b:List Stmt}{o:TT}(hc:PT X c o)(p:PSs X a t)(q:PSs X b u):PS X (.If c a b pos) (GX o t u):=by
 intro g s i H D I h
 refine wpAny_If (aP (hc g s i H _ I h) fun d n ⟨j,l,m⟩=>?_)
 cases d with
 | true=>exact p g n i j D l m
 | false=>exact q g n i j D l m
end
noncomputable abbrev TG:=V->St->Hp->(St->Hp->Prop)->Prop
noncomputable abbrev mY:=List V->St->Hp->(St->Hp->Prop)->Prop
noncomputable def PG (X:Cx)(a:Expr)(t:TG):Prop:=
 ∀ (a4b:List (Addr×Vu))(s:SM)(σ:St)(H:Hp)(v:V)(u:SK)(Q:St->Hp->Prop),Inv X a4b σ H s->RelV v u->t v σ H Q->
  Tn (Tr X.prog X.w) X.A (Zf a X.env u) (fun _ d=>∃ b c,Inv X a4b b c d/\Q b c) X.xe s
noncomputable def oX (X:Cx)(d:List Expr)(t:mY):Prop:=
 ∀ (a4b:List (Addr×Vu))(s:SM)(σ:St)(H:Hp)(vs:List V)(us:List SK)(Q:St->Hp->Prop),Inv X a4b σ H s->Vals vs us->t vs σ H Q->
  Tn (Tr X.prog X.w) X.A (assignInOrder ((VF d X.env).map (·.2)) us) (fun _ c=>∃ a b,Inv X a4b a b c/\Q a b) X.xe s
section
variable {X:Cx}{pos:UY}
noncomputable def uG (i:Nat):TG:=fun v σ H Q=>Q (σ.set i (some v)) H
theorem Ay {i:Nat}{x:Str}(c:X.N.Nodup)(e:X.N[i]? = some x)(g:Loc X.env.scope x)(d:X.fn x=true\/X.env.scope.names.lookup x=some .local:=by first|exact .inl rfl|exact .inr rfl|assumption):PG X (.Name x pos) (uG i):=by
 intro b s l H v u Q I r h
 exact a2B (Av I c e g r (fun j a=>⟨_,H,a,h⟩) d)
noncomputable def Az:mY:=fun vs σ H Q=>vs=[]/\Q σ H
noncomputable def AA (t:TG)(u:mY):mY:=fun vs σ H Q=>∃ v r,vs=v::r/\t v σ H fun a b=>u r a b Q
theorem GZ:oX X [] Az:=by
 intro a s b H d c Q I r h
 obtain ⟨e,h⟩:=h
 subst e
 cases r
 exact assignInOrder_nil ⟨b,H,I,h⟩
theorem G0 {e:Expr}{es:List Expr}{t:TG}{u:mY}(h1:PG X e t)(i:oX X es u)
  (j:(VF (e::es) X.env).map (·.2)=Zf e X.env::(VF es X.env).map (·.2):=by rfl):oX X (e::es) (AA t u):=by
 intro a s o H w p Q I r h
 obtain ⟨v,q,g,h⟩:=h
 subst g
 cases r with
 | cons r m=>
  rw [j]
  refine assignInOrder_cons (aP (h1 a s o H _ _ _ I r h) fun _ n ⟨b,c,d,l⟩=>?_)
  exact i a n b c _ _ Q d m l
noncomputable def AB (b:TE)(g:TG):TS:=fun D σ H=>b σ H fun x a=>g x σ a D.nx
theorem G3 {tg e:Expr}{b:TE}{g:TG}(j:PE X e b)(l:PG X tg g)(m:swapsWithSole [tg] e pos.line X.env=pure false:=by rfl)(hw:a0J [tg] e X.env=pure none:=by rfl)
  (h1:(VF [tg] X.env).map (·.2)=[Zf tg X.env]:=by rfl):PS X (.Assign [tg] e pos) (AB b g):=by
 intro a s c H D I h
 refine wpAny_Assign_stores (aP (j a s c H _ I h) fun v p ⟨x,d,i,o,n⟩=>?_) m hw
 rw [h1]
 exact aP (l a p c d x v _ i o n) fun _ r q=>q
theorem G4 {i:Nat}{x:Str}{e:Expr}{c:TE}{a:UY}(l:X.N.Nodup)(o:X.N[i]? = some x)(q:Loc X.env.scope x)(m:PE X e c)(p:X8 e (some (.Name x a)) pos.line X.env=pure false:=by rfl)(n:X.fn x=true\/X.env.scope.names.lookup x=some .local:=by first|exact .inl rfl|exact .inr rfl|assumption) :
  PS X (.Assign [.Name x a] e pos) (AB c (uG i)):=by
 intro b s w H D I h
 refine wpAny_Assign_Name (aP (m b s w H _ I h) fun v z ⟨y,d,g,u,r⟩=>?_) p
 exact Av g l o q u (fun A j=>⟨_,d,j,r⟩) n
end
section
variable {X:Cx}{pos:UY}
noncomputable def G5 (c:TT)(h:TS):TS:=fun D σ H=>∃ W:Nat->St->Hp->Prop,(∃ m,W m σ H)/\∀ m σ H,W m σ H->
 c σ H fun b e=>if b=true then ∃ N:St->Hp->Prop,(∀ a d,N a d->∃ g,g<m/\W g a d)/\h { D with nx:=N,ct:=N,bk:=D.nx } σ e else D.nx σ e
theorem G6 {c:Expr}{body:List Stmt}{E:TT}{B:TS}(A:Z2 (Tr X.prog X.w) X.A X.env X.xe)(hc:PT X c E)(K:PSs X body B):PS X (.While c body [] pos) (G5 E B):=by
 intro e s U H D I h
 obtain ⟨W,⟨L,R⟩,turn⟩:=h
 refine wpAny_While (codeAny_whileLoop (fun n M=>∃ i u,Inv X e i u M/\W n i u) ?_ L ⟨U,H,I,R⟩)
 rintro n O ⟨d,w,G,T⟩
 refine Wu A (aP (hc e O d w _ G (turn n d w T)) fun b Q ⟨x,y,j⟩=>?_)
 cases b with
 | true=>
  obtain ⟨N,z,j⟩:=j
  rw [if_pos rfl]
  refine Wu A (aP (K e Q d x _ y j) fun f Y l=>?_)
  cases f with
  | next=>
   obtain ⟨a,g,m,q⟩:=l
   obtain ⟨p,o,r⟩:=z a g q
   exact ⟨p,o,a,g,m,r⟩
  | cont=>
   obtain ⟨a,g,m,q⟩:=l
   obtain ⟨p,o,r⟩:=z a g q
   exact ⟨p,o,a,g,m,r⟩
  | brk=>exact l
  | ret v=>exact l
 | false=>
  rw [if_neg TC]
  exact YC ⟨d,x,y,j⟩
end
structure It where
 go:Nat->Hp->Prop
 yld:Nat->Hp->V->Hp->Prop
 stop:Nat->Hp->Prop
noncomputable def gK (X:Cx)(a4b:List (Addr×Vu))(H:Hp)(b:Addr):Prop:=
 H b=none/\b≠X.env.locals/\b∉X.fs/\(b∈X.ex\/X.s₀.heap.objs.size<=b)/\(∀ x c,X.env.cells.lookup x=some c->c≠b)/\∀ p∈X.pn++a4b,p.1≠b
theorem Inv.fpOk {X:Cx}{a4b:List (Addr×Vu)}{σ:St}{H d:Hp}{s:SM}{b:Addr}(I:Inv X a4b σ H s)(a:s.heap.objs.size<=b)(g:d b=none):gK X a4b d b:=by
 refine ⟨g,Vr (TF I.lt a),I.nofs a,.inr (TQ I.sz a),fun x c e z=>?_,fun p h z=>?_⟩
 ·obtain ⟨v,q⟩:=I.cell x c e
  exact absurd (TF q.lt (by rw [z];exact a)) (Vj _)
 ·exact absurd (TF (S6 (I.pin p h).1) (by rw [z];exact a)) (Vj _)
structure Turn (P:Tj)(w:TH)(K:SJ)(tg:Expr)(J:It)(fp:List Addr)(it:Addr)(tn:Nat->Uj->Prop):Prop where
 mem:it∈fp
 obj:∀ i h,tn i h->∀ b∈fp,∃ o,h.get? b=some o/\∀ v,o.data≠.cell v
 keep:∀ i h h',tn i h->(∀ b∈fp,∀ o,h.get? b=some o->h'.get? b=some o)->tn i h'
 item:∀ (X:Cx),X.prog=P->X.w=w->X.K=K->X.calm=true->∀ (i:Nat)(a4b:List (Addr×Vu))(s:SM)(σ:St)(H:Hp)(E:SK->SM->Prop),Inv X a4b σ H s->(∀ b∈fp,gK X a4b H b)->tn i s.heap->J.go i H->
  Tn (Tr P w) X.A (Yi (.ref it)) (fun r s1=>∃ u,r=some u /\
   Tn (Tr P w) X.A (YD tg (.ref it) u) (fun _ s2=>∃ x H',Inv X a4b σ H' s2/\RelV x u/\J.yld i H x H'/\tn (i+1) s2.heap/\∀ b∈fp,H' b=none) E s1) E s
 done:∀ (X:Cx),X.prog=P->X.w=w->X.K=K->X.calm=true->∀ (i:Nat)(a4b:List (Addr×Vu))(s:SM)(σ:St)(H:Hp)(E:SK->SM->Prop),Inv X a4b σ H s->(∀ b∈fp,gK X a4b H b)->tn i s.heap->J.stop i H->
  Tn (Tr P w) X.A (Yi (.ref it)) (fun r s1=>r=none/\Inv X a4b σ H s1) E s
 self:∀ (A:Tv)(i:Nat)(s:SM)(Q:SK->SM->Prop)(E:SK->SM->Prop),tn i s.heap->Q (.ref it) s->Tn (Tr P w) A (ZX (.ref it)) Q E s
noncomputable abbrev TI:=St->Hp->(It->Hp->Prop)->Prop
noncomputable def qT (X:Cx)(a4b:List (Addr×Vu))(σ:St)(tg:Expr)(R:It->Hp->Prop)(c:SK)(g:SM):Prop:=
 ∃ (e:Addr)(d:List Addr)(h:Nat->Uj->Prop)(J:It)(a:Hp),c=.ref e/\Inv X a4b σ a g/\Turn X.prog X.w X.K tg J d e h/\h 0 g.heap/\(∀ b∈d,gK X a4b a b)/\R J a
noncomputable def PI (X:Cx)(tg iter:Expr)(b:TI):Prop:=
 ∀ (a4b:List (Addr×Vu))(s:SM)(σ:St)(H:Hp)(R:It->Hp->Prop),Inv X a4b σ H s->b σ H R->
  Tn (Tr X.prog X.w) X.A (eval iter X.env) (fun v a=>Tn (Tr X.prog X.w) X.A (ZX v) (qT X a4b σ tg R) X.xe a) X.xe s
theorem uH {M:a1U}{A:Tv}{E:SK->SM->Prop}{s:SM}{tg:Expr}{b:Addr}{u:SK}{o:Vu}{n:String}{vs:Array SK}{Q:Unit->SM->Prop}(d:s.heap.get? b=some o)(hc:o.cls=.type n)(hd:o.data=.fields vs)
  (c:["enumerate","zip","dict_itemiterator","dict_reverseitemiterator","odict_iterator","itertools.zip_longest","itertools.pairwise"].contains n=false) (a:Q () s):Tn M A (YD tg (.ref b) u) Q E s:=by
 unfold YD
 cases tg<;>first
  | exact SU a
  | (cases u<;>first
    | exact SU a
    | (refine SG (a0p d ?_)
       rw [hc,hd]
       show Tn M A (if (["enumerate","zip","dict_itemiterator","dict_reverseitemiterator","odict_iterator","itertools.zip_longest","itertools.pairwise"].contains n&&vs[0]? == some (WU _))=true then _ else _) Q E s
       rw [if_neg (by intro h;rw [c,Yv] at h;cases h)]
       exact SU a))
noncomputable def uI (K:SJ)(a:Addr):It:=
 ⟨fun i H=>∃ b x,SqL K H a b/\b[i]? = some x,fun i H x c=>c=H/\∀ b,SqL K H a b->b[i]? = some x,fun i H=>∃ b,SqL K H a b/\b.length<=i⟩
noncomputable def uJ (K:SJ)(a:Addr):It:=
 ⟨fun i H=>∃ b x,SqT K H a b/\b[i]? = some x,fun i H x c=>c=H/\∀ b,SqT K H a b->b[i]? = some x,fun i H=>∃ b,SqT K H a b/\b.length<=i⟩
noncomputable def oY (lo:Int)(n:Nat):It:=⟨fun i _=>i<n,fun i H x a=>a=H/\x=.int (lo+i),fun i _=>n<=i⟩
theorem G7 {P:Tj}{w:TH}{K:SJ}{tg:Expr}(a j:Addr):Turn P w K tg (uI K a) [j] j (fun i h=>h.IsListIter j a i) where
 mem:=by simp
 obj:=fun i h st b g=>by
  have e:b=j:=by simpa using g
  subst e
  obtain ⟨o,e,c,d⟩:=st
  exact ⟨o,e,fun v z=>by rw [d] at z;cases z⟩
 keep:=fun i h n st k=>st.at fun o e=>k j (by simp) o e
 item:=by
  intro X N hw M hc i l s U H E I q st O
  subst N hw M
  obtain ⟨xs,x,r,Q⟩:=O
  obtain ⟨R,T,p,hz⟩:=I.list r
  obtain ⟨u,hu,ru⟩:=T.get Q
  obtain ⟨y,A,f2,B,G,L⟩:=q j (by simp)
  refine a1f st p.isList (x:=u) (by simpa using hu) fun n m sb=>?_
  have Y:Inv X l U H { s with heap:=n }:=I.turned (t':=s.toks) (fun b o g e=>(sb.2 b g).trans e) y A B G L
  obtain ⟨o,e,c,d⟩:=id m
  exact ⟨u,rfl,uH (s:={ s with heap:=n }) e c d (by decide) ⟨x,H,Y,ru,⟨rfl,fun ys hy=>by rw [I.list_inj hy r];exact Q⟩,m,fun b g=>(q b g).1⟩⟩
 done:=by
  intro X N hw M hc i l s U H E I q st O
  subst N hw M
  obtain ⟨xs,r,Q⟩:=O
  obtain ⟨R,T,p,hz⟩:=I.list r
  obtain ⟨y,A,f2,B,G,L⟩:=q j (by simp)
  have hl:=T.length
  exact a1z (I.ok.hd hc) st p.isList (by simp;omega) fun n Z=>⟨rfl,I.turned (t':=s.toks) (fun b o g e=>Z b o g e) y A B G L⟩
 self:=fun _ _ _ _ _ st h=>wpAny_pyIter_listiter st h
theorem G8 {P:Tj}{w:TH}{K:SJ}{tg:Expr}(a j:Addr):Turn P w K tg (uJ K a) [j] j (fun i h=>h.IsTupleIter j a i) where
 mem:=by simp
 obj:=fun i h st b g=>by
  have e:b=j:=by simpa using g
  subst e
  obtain ⟨o,e,c,d⟩:=st
  exact ⟨o,e,fun v z=>by rw [d] at z;cases z⟩
 keep:=fun i h q st k=>st.at fun o e=>k j (by simp) o e
 item:=by
  intro X O hw N hc i m s U H E I r st Q
  subst O hw N
  obtain ⟨xs,x,y,R⟩:=Q
  obtain ⟨l,T,p,hz⟩:=I.tuple y
  obtain ⟨u,hu,ru⟩:=T.get R
  obtain ⟨A,B,f2,G,L,M⟩:=r j (by simp)
  refine a0V st (show s.heap.IsTuple a l.toArray from p) (x:=u) (by simpa using hu) fun q n sb=>?_
  have Y:Inv X m U H { s with heap:=q }:=I.turned (t':=s.toks) (fun b o g e=>(sb.2 b g).trans e) A B G L M
  obtain ⟨o,e,c,d⟩:=id n
  exact ⟨u,rfl,uH (s:={ s with heap:=q }) e c d (by decide) ⟨x,H,Y,ru,⟨rfl,fun ys hy=>by rw [I.tuple_inj hy y];exact R⟩,n,fun b g=>(r b g).1⟩⟩
 done:=by
  intro X O hw N hc i m s U H E I r st Q
  subst O hw N
  obtain ⟨xs,y,R⟩:=Q
  obtain ⟨l,T,p,hz⟩:=I.tuple y
  obtain ⟨A,B,f2,G,L,M⟩:=r j (by simp)
  have hl:=T.length
  exact a1e (I.ok.hd hc) st (show s.heap.IsTuple a l.toArray from p) (by simp;omega) fun q Z=>⟨rfl,I.turned (t':=s.toks) (fun b o g e=>Z b o g e) A B G L M⟩
 self:=fun _ _ _ _ _ st h=>wpAny_pyIter_tupleiter st h
theorem G9 {P:Tj}{w:TH}{K:SJ}{tg:Expr}(a:Addr)(lo:Int)(n:Nat):Turn P w K tg (oY lo n) [a] a (fun i h=>IsRangeIter h a (lo+(i:Nat) * 1) ((n:Int) - (i:Nat)) 1) where
 mem:=by simp
 obj:=fun i h st b c=>by
  have e:b=a:=by simpa using c
  subst e
  exact ⟨_,st,fun v z=>by
   have R:a3d _=Data.cell v:=z
   cases R⟩
 keep:=fun i h j st k=>k a (by simp) _ st
 item:=by
  intro X y hw x hc i d s G H E I l st A
  subst y hw x
  obtain ⟨m,p,N,q,r,u⟩:=l a (by simp)
  have W:=Walks.range (prog:=X.prog) (w:=X.w) (I.ok.hd hc) a lo 1 n
  refine W.item i s _ _ A st fun v j B O g Q=>?_
  obtain ⟨t,rfl⟩:=O
  have L:Inv X d G H { s with heap:=j,toks:=B }:=I.turned (fun b o c e=>Q b o (by simpa using c) e) m p q r u
  refine ⟨_,rfl,uH (s:={ s with heap:=j,toks:=B }) (n:="range_iterator") g rfl rfl (by decide) ⟨.int (lo+i),H,L,⟨t,?_⟩,⟨rfl,rfl⟩,g,fun b c=>(l b c).1⟩⟩
  rw [Int.mul_one]
 done:=by
  intro X y hw x hc i d s G H E I l st A
  subst y hw x
  obtain ⟨m,p,N,q,r,u⟩:=l a (by simp)
  exact wpAny_pyNext_range_end (I.ok.hd hc) st (by have:n<=i:=A;omega) fun j M=>⟨rfl,I.turned (t':=s.toks) (fun b o c e=>M b o c e) m p q r u⟩
 self:=fun _ _ _ _ _ st h=>wpAny_pyIter_rangeiter st h
end L2
namespace L2
open PySem PySem.Spec PyProof.Rows
section
variable {X:Cx}{tg:Expr}
theorem AD {a4b:List (Addr×Vu)}{σ:St}{H:Hp}{s:SM}{R:It->Hp->Prop}{E:SK->SM->Prop}{lo a:Int}{t u v:a2t}{tk:Nat}(I:Inv X a4b σ H s)(h1:-(2 ^ 62)<=lo)(h:lo<2 ^ 62)(i:-(2 ^ 62)<=a)(j:a<2 ^ 62)
  (q:R (oY lo (a - lo).toNat) H):Tn (Tr X.prog X.w) X.A (ZX (.ref s.heap.objs.size)) (qT X a4b σ tg R) E { s with heap:=s.heap.push { cls:=.type "range",data:=.fields #[.int lo t,.int a u,.int 1 v] },toks:=tk }:=by
 refine wpAny_pyIter_range (IsRange.new ..) (small_one h1 h i j) ?_
 have c:Inv X a4b σ H { s with heap:=s.heap.push { cls:=.type "range",data:=.fields #[.int lo t,.int a u,.int 1 v] },toks:=tk }:=I.kept fun b o e=>SR _ e
 refine ⟨(s.heap.push { cls:=.type "range",data:=.fields #[.int lo t,.int a u,.int 1 v] }).objs.size,[(s.heap.push { cls:=.type "range",data:=.fields #[.int lo t,.int a u,.int 1 v] }).objs.size],_,_,H,rfl,
  c.kept (t':=tk) fun b o e=>SR _ e,G9 _ lo (a - lo).toNat,?_,fun b l=>?_,q⟩
 ·have d:lo+((0:Nat):Int) * 1=lo:=by simp
  have g:(((a - lo).toNat:Nat):Int) - ((0:Nat):Int)=a3g lo a 1:=by rw [rangeSize_one];split<;>omega
  show IsRangeIter _ _ (lo+((0:Nat):Int) * 1) ((((a - lo).toNat:Nat):Int) - ((0:Nat):Int)) 1
  rw [d,g]
  exact Te _ rfl
 ·have e:b=(s.heap.push { cls:=.type "range",data:=.fields #[.int lo t,.int a u,.int 1 v] }).objs.size:=by simpa using l
  subst e
  exact c.fpOk (SX _) (c.hok.fresh (SX _))
noncomputable def Ha (b:TA):TI:=fun σ H R=>b σ H fun vs a=>∃ j:Int,vs=[.int j]/\-(2 ^ 62)<=j/\j<2 ^ 62/\R (oY 0 j.toNat) a
noncomputable def Hb (b:TA):TI:=fun σ H R=>b σ H fun vs a=>∃ i j:Int,vs=[.int i,.int j]/\(-(2 ^ 62)<=i/\i<2 ^ 62/\-(2 ^ 62)<=j/\j<2 ^ 62)/\R (oY i (j - i).toNat) a
theorem Hc {a:Expr}{d:TA}{p pos:UY}(l:Gl X "range") (m:X.mg "range" = none) (i:PA X [a] d)(n:TU [a] X.env=[(false,eval a X.env)]:=by rfl):PI X tg (.Call (.Name "range" p) [a] [] pos) (Ha d):=by
 intro b s w H R I h
 refine Call_ (iA I l m boot_range (U5 (aP (i pos b s w H _ I h) fun z y ⟨A,x,g,u,c⟩=>?_) n rfl))
 obtain ⟨j,e,c,o,q⟩:=c
 subst e
 cases u with
 | cons r v=>
  cases v
  obtain ⟨t,rfl⟩:=r
  exact call_range_1 (AD g (by omega) (by omega) c o (by simpa using q))
theorem He {a b:Expr}{m:TA}{p pos:UY}(u:Gl X "range") (v:X.mg "range" = none) (o:PA X [a,b] m)(w:TU [a,b] X.env=[(false,eval a X.env),(false,eval b X.env)]:=by rfl)(c:TU [b] X.env=[(false,eval b X.env)]:=by rfl) :
  PI X tg (.Call (.Name "range" p) [a,b] [] pos) (Hb m):=by
 intro d s E H R I h
 refine Call_ (iA I u v boot_range (U5 (aP (o pos d s E H _ I h) fun M K ⟨N,G,n,B,g⟩=>?_) (by rw [w,c]) (by rw [c];rfl)))
 obtain ⟨i,j,e,⟨g,x,y,z⟩,q⟩:=g
 subst e
 cases B with
 | cons r l=>
  cases l with
  | cons A l=>
   cases l
   obtain ⟨t,rfl⟩:=r
   obtain ⟨L,rfl⟩:=A
   exact call_range_2 (AD n g x y z q)
noncomputable def Hf (l:TI)(g:TG)(j:TS):TS:=fun D σ H=>l σ H fun J e=>∃ W:Nat->Nat->St->Hp->Prop,(∃ m,W 0 m σ e)/\∀ i m σ H,W i m σ H->
 (J.stop i H/\D.nx σ H)\/(J.go i H/\∃ N:St->Hp->Prop,(∀ b a,N b a->∃ d,d<m/\W (i+1) d b a)/\∀ x a,J.yld i H x a->g x σ a fun c h=>j { D with nx:=N,ct:=N,bk:=D.nx } c h)
noncomputable def oZ (a:List Addr)(h:Uj):List (Addr×Vu):=a.filterMap fun b=>(h.get? b).map fun o=>(b,o)
theorem qU {a:List Addr}{h:Uj}{b:Addr}{o:Vu}(c:b∈a)(e:h.get? b=some o):(b,o)∈oZ a h:=YO.mpr ⟨b,c,by rw [e];rfl⟩
theorem Hg {a:List Addr}{h:Uj}{p:Addr×Vu}(g:p∈oZ a h):p.1∈a/\h.get? p.1=some p.2:=by
 obtain ⟨b,d,e⟩:=YO.mp g
 cases q:h.get? b with
 | none=>rw [q] at e;cases e
 | some o=>
  rw [q] at e
  have c:(b,o)=p:=TL e
  subst c
  exact ⟨d,q⟩
theorem Inv.pinned {a4b:List (Addr×Vu)}{σ:St}{H:Hp}{s:SM}{a:List Addr}(I:Inv X a4b σ H s)(l:∀ b∈a,gK X a4b H b)(m:∀ b∈a,∃ o,s.heap.get? b=some o/\∀ v,o.data≠.cell v):Inv X (a4b++oZ a s.heap) σ H s:=
 I.pins_of fun p n=>(Tf.mp n).elim (fun z=>I.pin p (T5 _ z)) fun z=>by
  obtain ⟨g,e⟩:=Hg z
  obtain ⟨h,i,j,_⟩:=l p.1 g
  obtain ⟨o,c,d⟩:=m p.1 g
  rw [e] at c;cases c
  exact ⟨e,h,i,j,d⟩
theorem Inv.unpinned {a4b b:List (Addr×Vu)}{σ:St}{H:Hp}{s:SM}(I:Inv X (a4b++b) σ H s):Inv X a4b σ H s:=I.pins_of fun p a=>I.pin p (T5 _ (Uv _ a))
theorem Hh {iter:Expr}{body:List Stmt}{wi:TI}{g:TG}{tb:TS}{pos:UY}(L:Z2 (Tr X.prog X.w) X.A X.env X.xe)(hc:X.calm=true)(hi:PI X tg iter wi)(hg:PG X tg g)(q:PSs X body tb)
  (hs:∀ x,Xp iter X.env x=pure x:=by intro _;rfl):PS X (.For tg iter body [] pos) (Hf wi g tb):=by
 intro c s σ H D I h
 refine wpAny_For (aP (hi c s σ H _ I h) fun v s1 h1=>aP h1 fun itv s2 h2=>?_) hs
 obtain ⟨it,G,tn,J,H2,e,I2,T,st2,f2,W,⟨m0,w0⟩,turn⟩:=h2
 subst e
  -- what stays true of the iterator's objects through the loop
 have w:∀ {A:Hp},(∀ b∈G,A b=none)->∀ b∈G,gK X c A b:=fun hn b q=>⟨hn b q,(f2 b q).2⟩
 refine codeAny_forLoop_any (fun n s'=>∃ i y A,Inv X c y A s'/\tn i s'.heap/\(∀ b∈G,A b=none)/\W i n y A) ?_ m0 ⟨0,σ,H2,I2,st2,fun b q=>(f2 b q).1,w0⟩
 rintro n s3 ⟨i,z,R,I3,O,K,w3⟩
 rcases turn i n z R w3 with ⟨Q,qn⟩|⟨go,N,hN,step⟩
 ·refine Wu L (aP (T.done X rfl rfl rfl hc i c s3 z R X.xe I3 (w K) O Q) fun r s4 ⟨Z,I4⟩=>?_)
  subst Z
  exact YC ⟨z,R,I4,qn⟩
 ·refine Wu L (aP (T.item X rfl rfl rfl hc i c s3 z R X.xe I3 (w K) O go) fun r s4 ⟨u,Z,h4⟩=>?_)
  subst Z
  refine Wu L (aP h4 fun _ s5 ⟨x,H5,I5,r5,y5,E,Y⟩=>?_)
  have U:=I5.pinned (w Y) (T.obj _ _ E)
  refine Wu L (aP (hg _ s5 z H5 x u _ U r5 (step x H5 y5)) fun _ s6 ⟨σ6,H6,I6,q6⟩=>?_)
  refine Wu L (aP (q _ s6 σ6 H6 _ I6 q6) fun f s7 B=>?_)
  have p:∀ {a:St}{j:Hp},Inv X (c++oZ G s5.heap) a j s7->N a j->∃ m,m<n/\∃ i y A,Inv X c y A s7/\tn i s7.heap/\(∀ b∈G,A b=none)/\W i m y A:=fun {a j} l M=>by
   obtain ⟨m',hm,w7⟩:=hN a j M
   refine ⟨m',hm,i+1,a,j,l.unpinned,T.keep _ _ _ E fun b q o e=>(l.pin (b,o) (T5 _ (T5 _ (qU q e)))).1,fun b q=>?_,w7⟩
   obtain ⟨o,e,d⟩:=T.obj _ _ E b q
   exact (l.pin (b,o) (T5 _ (T5 _ (qU q e)))).2.1
  cases f with
  | next=>obtain ⟨a,j,l,M⟩:=B;exact p l M
  | cont=>obtain ⟨a,j,l,M⟩:=B;exact p l M
  | brk=>obtain ⟨a,j,l,B⟩:=B;exact ⟨a,j,l.unpinned,B⟩
  | ret v=>obtain ⟨x7,a,j,l,r7,B⟩:=B;exact ⟨x7,a,j,l.unpinned,r7,B⟩
end
end L2
namespace L2
open PySem PySem.Spec PyProof.Rows
noncomputable abbrev R2:=V->V->Hp->VK->Prop
noncomputable def OpR (X:Cx)(f:SK->SK->a0L SK)(r:R2):Prop:=
 ∀ (a4b:List (Addr×Vu))(s:SM)(σ:St)(H:Hp)(x y:V)(v u:SK)(Q:VK),Inv X a4b σ H s->RelV x v->RelV y u->r x y H Q->
  Tn (Tr X.prog X.w) X.A (f v u) (EP X a4b σ Q) X.xe s
noncomputable def uK (X:Cx)(f:SK->a0L SK)(r:V->Hp->VK->Prop):Prop:=
 ∀ (a4b:List (Addr×Vu))(s:SM)(σ:St)(H:Hp)(x:V)(v:SK)(Q:VK),Inv X a4b σ H s->RelV x v->r x H Q->
  Tn (Tr X.prog X.w) X.A (f v) (EP X a4b σ Q) X.xe s
noncomputable def CallR (X:Cx)(f:SK)(r:List V->Hp->VK->Prop):Prop:=
 ∀ (a4b:List (Addr×Vu))(s:SM)(σ:St)(H:Hp)(xs:List V)(us:List SK)(Q:VK),Inv X a4b σ H s->Vals xs us->r xs H Q->
  Tn (Tr X.prog X.w) X.A (call f us) (EP X a4b σ Q) X.xe s
noncomputable def Hi (X:Cx)(r:V->Hp->(Bool->Hp->Prop)->Prop):Prop:=
 ∀ (a4b:List (Addr×Vu))(s:SM)(σ:St)(H:Hp)(x:V)(v:SK)(Q:Bool->Hp->Prop),Inv X a4b σ H s->RelV x v->r x H Q->
  Tn (Tr X.prog X.w) X.A (truthy v) (TP X a4b σ Q) X.xe s
noncomputable def pA (r:R2)(c d:TE):TE:=fun σ H Q=>c σ H fun x a=>d σ a fun y b=>r x y b Q
noncomputable def Hj (r:V->Hp->VK->Prop)(b:TE):TE:=fun σ H Q=>b σ H fun x a=>r x a Q
noncomputable def rI (C:Int->Int->Prop)(g:Int->Int->V):R2:=fun x y H Q=>∃ i j,x=.int i/\y=.int j/\C i j/\Q (g i j) H
noncomputable def fD (g:Int->Int->V):R2:=fun x y H Q=>∃ i j,x=.int i/\y=.int j/\Q (g i j) H
noncomputable def rU (g:Int->V):V->Hp->VK->Prop:=fun x H Q=>∃ i,x=.int i/\Q (g i) H
section
variable {X:Cx}{a b c:Expr}{ta tb tc:TE}{pos:UY}
theorem uL (n:PE X a ta)(o:PE X b tb){a4b:List (Addr×Vu)}{s:SM}{σ:St}{H:Hp}{R:V->V->Hp->Prop}(I:Inv X a4b σ H s)
  (h:ta σ H fun x j=>tb σ j fun y d=>R x y d){Q:SK->SM->Prop}{f:SK->SK->a0L SK}
  (p:∀ v u i x y d,Inv X a4b σ d i->RelV x v->RelV y u->R x y d->Tn (Tr X.prog X.w) X.A (f v u) Q X.xe i) :
  Tn (Tr X.prog X.w) X.A (eval a X.env) (fun v e=>Tn (Tr X.prog X.w) X.A (eval b X.env) (fun u g=>Tn (Tr X.prog X.w) X.A (f v u) Q X.xe g) X.xe e) X.xe s:=by
 refine aP (n a4b s σ H _ I h) fun v A ⟨x,j,l,w,q⟩=>?_
 refine aP (o a4b A σ j _ l q) fun u i ⟨y,d,m,z,r⟩=>?_
 exact p v u i x y d m w z r
theorem Hk {op:a0u}{r:R2}(l:OpR X (WJ op) r)(i:PE X a ta)(j:PE X b tb):PE X (.BinOp a op b pos) (pA r ta tb):=by
 intro d s p H Q I h
 exact wpAny_BinOp (uL i j I h fun v u o x y e g m n q=>l d o p e x y v u Q g m n q)
theorem Hl {op:UnaryOp}{r:V->Hp->VK->Prop}(l:uK X (unaryOp op) r)(j:PE X a ta):PE X (.UnaryOp op a pos) (Hj r ta):=by
 intro d s e H Q I h
 exact UnaryOp_ (aP (j d s e H _ I h) fun v o ⟨x,g,i,n,m⟩=>l d o e g x v Q i n m)
theorem qW {f:SK->SK->a0L SK}{C:Int->Int->Prop}{g:Int->Int->Int}
  (d:∀ (i j:Int)(t u:a2t)(s:SM)(Q:SK->SM->Prop)(E:SK->SM->Prop),C i j->Q (.int (g i j) s.toks) { s with toks:=s.toks+1 }->Tn (Tr X.prog X.w) X.A (f (.int i t) (.int j u)) Q E s) :
  OpR X f (rI C fun i j=>.int (g i j)):=by
 intro e s o H x y v u Q I l m h
 obtain ⟨i,j,rfl,rfl,hc,q⟩:=h
 obtain ⟨t,rfl⟩:=l
 obtain ⟨n,rfl⟩:=m
 exact d i j t n s _ _ hc ⟨.int (g i j),H,I.tok _,⟨_,rfl⟩,q⟩
theorem AE {f:SK->SK->a0L SK}{g:Int->Int->Int}
  (d:∀ (i j:Int)(t u:a2t)(s:SM)(Q:SK->SM->Prop)(E:SK->SM->Prop),Q (.int (g i j) s.toks) { s with toks:=s.toks+1 }->Tn (Tr X.prog X.w) X.A (f (.int i t) (.int j u)) Q E s) :
  OpR X f (fD fun i j=>.int (g i j)):=by
 intro e s o H x y v u Q I l m h
 obtain ⟨i,j,rfl,rfl,q⟩:=h
 obtain ⟨t,rfl⟩:=l
 obtain ⟨n,rfl⟩:=m
 exact d i j t n s _ _ ⟨.int (g i j),H,I.tok _,⟨_,rfl⟩,q⟩
theorem qX {f:SK->SK->a0L SK}{g:Int->Int->Bool}
  (d:∀ (i j:Int)(t u:a2t)(s:SM)(Q:SK->SM->Prop)(E:SK->SM->Prop),Q (.bool (g i j)) s->Tn (Tr X.prog X.w) X.A (f (.int i t) (.int j u)) Q E s) :
  OpR X f (fD fun i j=>.bl (g i j)):=by
 intro e s o H x y v u Q I l m h
 obtain ⟨i,j,rfl,rfl,q⟩:=h
 obtain ⟨t,rfl⟩:=l
 obtain ⟨n,rfl⟩:=m
 exact d i j t n s _ _ ⟨.bl (g i j),H,I,rfl,q⟩
noncomputable def Hn (i j:Int):Prop:=0<=j/\j<=1000000/\i.natAbs<2 ^ 64
noncomputable def CMul (i j:Int):Prop:=(-(2 ^ 64)<i/\i<2 ^ 64)\/(-(2 ^ 64)<j/\j<2 ^ 64)
theorem CMul.ok {i j:Int}(h:CMul i j):a1X i j:=by
 rcases h with ⟨d,e⟩|⟨d,e⟩
 ·exact .of_left (intBits_le_64 d e)
 ·exact .of_right (intBits_le_64 d e)
theorem op_add:OpR X (WJ .Add) (fD fun i j=>.int (i+j)):=AE fun _ _ _ _ _ _ _ q=>add_int q
theorem Ho:OpR X (WJ .Sub) (fD fun i j=>.int (i - j)):=AE fun _ _ _ _ _ _ _ q=>sub_int q
theorem Hq:OpR X (WJ .Mod) (rI (fun _ j=>0<j) fun i j=>.int (i % j)):=qW fun i j _ _ _ _ _ hc q=>by
 have d:(0:Int)<j:=hc
 exact mod_int' (by omega) (by rw [Int.fmod_eq_emod_of_nonneg i (by omega)];exact q)
theorem jY {f:SK->a0L SK}{g:Int->Int}
  (d:∀ (i:Int)(t:a2t)(s:SM)(Q:SK->SM->Prop)(E:SK->SM->Prop),Q (.int (g i) s.toks) { s with toks:=s.toks+1 }->Tn (Tr X.prog X.w) X.A (f (.int i t)) Q E s) :
  uK X f (rU fun i=>.int (g i)):=by
 intro e s l H x v Q I j h
 obtain ⟨i,rfl,q⟩:=h
 obtain ⟨t,rfl⟩:=j
 exact d i t s _ _ ⟨.int (g i),H,I.tok _,⟨_,rfl⟩,q⟩
theorem Hr:uK X (unaryOp .USub) (rU fun i=>.int (-i)):=jY fun _ _ _ _ _ q=>neg_int q
end
section
variable {X:Cx}{a b c:Expr}{ta tb tc:TE}{pos:UY}
theorem Hs {a4b:List (Addr×Vu)}{σ:St}{H:Hp}{s:SM}{Q:VK}{k k':Bool}(I:Inv X a4b σ H s)(q:Q (.bl k) H)(e:k=k'):EP X a4b σ Q (.bool k') s:=by
 subst e
 exact ⟨.bl k,H,I,rfl,q⟩
theorem uM:OpR X (Uq .Lt) (fD fun i j=>.bl (decide (i<j))):=qX fun _ _ _ _ _ _ _ q=>lt_int q
theorem uN:OpR X (Uq .LtE) (fD fun i j=>.bl (decide (i<=j))):=qX fun _ _ _ _ _ _ _ q=>le_int q
theorem uO:OpR X (Uq .Gt) (fD fun i j=>.bl (decide (j<i))):=qX fun _ _ _ _ _ _ _ q=>gt_int q
theorem uP:OpR X (Uq .GtE) (fD fun i j=>.bl (decide (j<=i))):=qX fun _ _ _ _ _ _ _ q=>ge_int q
theorem AF:OpR X (Uq .In) (fun x y H Q=>∃ i j,x=.str i/\y=.str j/\Q (.bl (!(Uy j i 0 j.length 1).isEmpty)) H):=by
 intro d s m H x y v u Q I e g h
 obtain ⟨i,j,rfl,rfl,q⟩:=h
 obtain ⟨t,rfl⟩:=e
 obtain ⟨l,rfl⟩:=g
 exact in_str (Hs I q rfl)
theorem OpR.or {f:SK->SK->a0L SK}{r e:R2}(h:OpR X f r)(h':OpR X f e):OpR X f (fun x y H Q=>r x y H Q\/e x y H Q):=by
 intro d s j H x y v u Q I g i q
 rcases q with q|q
 ·exact h d s j H x y v u Q I g i q
 ·exact h' d s j H x y v u Q I g i q
theorem dO (b:Expr){op:W3}(h:op≠.In:=by decide)(g:op≠.NotIn:=by decide):Wv op b=false:=by
 have d:(op == CmpOp.In)=false:=by cases op<;>first|rfl|exact absurd rfl h
 have e:(op == CmpOp.NotIn)=false:=by cases op<;>first|rfl|exact absurd rfl g
 cases b<;>simp [Wv,d,e]
theorem Ht {op:W3}{r:R2}(m:OpR X (Uq op) r)(i:PE X a ta)(j:PE X b tb)(l:Wv op b=false):PE X (.Compare a [op] [b] pos) (pA r ta tb):=by
 intro d s w H Q I h
 exact wpAny_Compare1 (uL i j I h fun v u p x y e g n o q=>m d p w e x y v u Q g n o q) l
noncomputable def AG (t:TE):TT:=fun σ H Q=>t σ H fun x d=>∃ k,x=.bl k/\Q k d
theorem Hu {op:W3}{r:R2}(A:OpR X (Uq op) r)(p:PE X a ta)(q:PE X b tb)(w:Wv op b=false):PT X (.Compare a [op] [b] pos) (AG (pA r ta tb)):=by
 intro d s g H Q I h
 refine wpAny_isTrue_Compare1 (aP (p d s g H _ I h) fun v N ⟨x,i,m,K,B⟩=>aP (q d N g i _ m B) fun u O ⟨y,j,n,L,E⟩=>
  aP (A d O g j x y v u _ n K L E) fun c R ⟨z,l,o,M,k,e,G⟩=>?_) w
 subst e
 cases M
 exact VD ⟨l,o,G⟩
noncomputable def uQ (r i:R2)(ta tb tc:TE):TE:=fun σ H Q=>ta σ H fun x e=>tb σ e fun y g=>r x y g fun z d=>∃ k,z=.bl k /\
 (if k=true then tc σ d fun j h=>i y j h Q else Q (.bl false) d)
theorem Hv {op i:W3}{r p:R2}(O:OpR X (Uq op) r)(l:OpR X (Uq i) p)(L:PE X a ta)(M:PE X b tb)(hc:PE X c tc)
  (N:a2P [op,i] [b,c]=false:=by with_unfolding_all rfl):PE X (.Compare a [op,i] [b,c] pos) (uQ r p ta tb tc):=by
 intro g s j H Q I h
 refine Compare_chain (aP (L g s j H _ I h) fun v s1 ⟨x,w,E,Y,R⟩=>chain_link (aP (M g s1 j w _ E R) fun u s2 ⟨y,A,G,q,T⟩=>
  aP (O g s2 j A x y v u _ G Y q T) fun d s3 ⟨z,m,n,Z,k,e,o⟩=>?_)) N
 subst e
 cases Z
 refine VD ?_
 cases k with
 | false=>exact ite_ff ⟨.bl false,m,n,rfl,o⟩
 | true=>exact ite_tt (chain_last (aP (hc g s3 j m _ n o) fun w' s4 ⟨z',B,K,r4,U⟩=>l g s4 j B y z' u w' Q K q r4 U))
theorem Hw {op i:W3}{r p:R2}(Y:OpR X (Uq op) r)(l:OpR X (Uq i) p)(R:PE X a ta)(T:PE X b tb)(hc:PE X c tc)
  (U:a2P [op,i] [b,c]=false:=by with_unfolding_all rfl):PT X (.Compare a [op,i] [b,c] pos) (AG (uQ r p ta tb tc)):=by
 intro g s j H Q I h
 refine isTrue_chain (aP (R g s j H _ I h) fun v s1 ⟨x,w,G,r1,q1⟩=>test_link (aP (T g s1 j w _ G q1) fun u s2 ⟨y,A,K,q,q2⟩=>
  aP (Y g s2 j A x y v u _ K r1 q q2) fun d s3 ⟨z,m,n,r3,k,e,o⟩=>?_)) U
 subst e
 cases r3
 refine VD ?_
 cases k with
 | false=>
  obtain ⟨k',N,Z⟩:=o
  cases N
  exact ite_ff ⟨m,n,Z⟩
 | true=>
  refine ite_tt (test_last (aP (hc g s3 j m _ n o) fun w' s4 ⟨z',B,L,r4,q4⟩=>aP (l g s4 j B y z' u w' _ L q r4 q4) fun d' s5 ⟨z2,E,M,r5,k2,O,q5⟩=>?_))
  subst O
  cases r5
  exact VD ⟨E,M,q5⟩
noncomputable def uR (K:SJ)(x:V)(H:Hp)(k:Bool):Prop:=
 match x with
 | .non=>k=false
 | .bl b=>k=b
 | .int i=>k=(i != 0)
 | .str y=>y.length<=S8/\k=((y.length:Int) != 0)
 | .byt y=>y.size<=S8/\k=((y.size:Int) != 0)
 | .ref p=>(∃ e,SqL K H p e/\k = !e.isEmpty)\/(∃ e,SqT K H p e/\k = !e.isEmpty)\/∃ d,H p=some (.dK d)/\k = !d.isEmpty
 | _=>False
theorem Hx {κ:Type}{kvs:List (κ×V)}{vs:List (κ×SK)}(r:KV kvs vs):(!vs.isEmpty) = !kvs.isEmpty:=by
 cases r<;>rfl
theorem AH {xs:List V}{d:List SK}(r:Vals xs d):(!d.toArray.isEmpty) = !xs.isEmpty:=by
 cases r<;>simp
theorem mZ:(S8:Nat)<2 ^ 63:=by rw [T3];decide
theorem Hy:Hi X (fun x H Q=>∃ k,uR X.K x H k/\Q k H):=by
 intro B s M H x v Q I n h
 obtain ⟨k,e,q⟩:=h
 have K:=mZ
 have L:S8=16777216:=T3
 cases x with
 | non=>
  cases n
  have d:k=false:=e
  subst d
  exact truthy_none ⟨H,I,q⟩
 | bl b=>
  cases n
  have d:k=b:=e
  subst d
  exact VD ⟨H,I,q⟩
 | int i=>
  obtain ⟨t,rfl⟩:=n
  have d:k=(i != 0):=e
  subst d
  exact PySem.P.truthy_int ⟨H,I,q⟩
 | str y=>
  obtain ⟨t,rfl⟩:=n
  obtain ⟨G,d⟩:y.length<=S8/\k=((y.length:Int) != 0):=e
  subst d
  exact PySem.P.truthy_str (by omega) ⟨H,I.tok _,q⟩
 | byt y=>
  obtain ⟨t,rfl⟩:=n
  obtain ⟨G,d⟩:y.size<=S8/\k=((y.size:Int) != 0):=e
  subst d
  exact PySem.W.truthy_bytes (by omega) ⟨H,I.tok _,q⟩
 | ref p=>
  cases n
  have d:(∃ l,SqL X.K H p l/\k = !l.isEmpty)\/(∃ l,SqT X.K H p l/\k = !l.isEmpty)\/∃ g,H p=some (.dK g)/\k = !g.isEmpty:=e
  rcases d with ⟨l,o,d⟩|⟨l,o,d⟩|⟨g,o,d⟩
  ·subst d
   obtain ⟨w,r,z,A⟩:=I.list o
   have j:=r.length
   exact wpAny_truthy_list z.isList (by simp only [SW];omega) ⟨H,I.tok _,by rw [AH r];exact q⟩
  ·subst d
   obtain ⟨w,r,z,A⟩:=I.tuple o
   have j:=r.length
   exact truthy_tuple z (by simp only [SW];omega) ⟨H,I.tok _,by rw [AH r];exact q⟩
  ·subst d
   obtain ⟨A,E,u,r,m⟩:g.length<=S8/\(p == Ui)=false/\∃ u,KV g u/\s.heap.DictOf (c8 X.prog X.w) p u:=I.hok p _ o
   have j:g.length=u.length:=Yy r
   exact wpAny_truthy_dict E m (by omega) ⟨H,I.tok _,by rw [Hx r];exact q⟩
 | _=>exact (show False from e).elim
theorem Hz (m:PE X a ta)(n:∀ d,a1k a X.env d=(do let v <- d;standAt a.pos;holding [v] (truthy v))) :
  PT X a (fun g H Q=>ta g H fun x i=>∃ k,uR X.K x i k/\Q k i):=by
 intro e s g H Q I h
 exact isTrue_plain (aP (m e s g H _ I h) fun v q ⟨x,j,l,p,o⟩=>Hy e q g j x v Q l p o) (n _)
theorem op_add_str:OpR X (WJ .Add) (fun x y H Q=>∃ i j,x=.str i/\y=.str j/\i.length+j.length<=S8/\Q (.str (i++j)) H):=by
 intro d s o H x y v u Q I g l h
 obtain ⟨i,j,rfl,rfl,e,q⟩:=h
 obtain ⟨t,rfl⟩:=g
 obtain ⟨m,rfl⟩:=l
 exact add_str (fun m n=>⟨.str (i++j),H,I.tok _,⟨_,rfl⟩,q⟩) e
theorem fU {x:V}{us:List SK}(r:Vals [x] us):∃ u,us=[u]/\RelV x u:=by
 cases r with
 | cons d e=>cases e;exact ⟨_,rfl,d⟩
end
end L2
namespace L2
open PySem PySem.Spec PyProof.Rows
structure ObjM (h:Uj)(x dx C:Addr)(mA:Str->Option SK):Prop where
 obj:h.get? x=some (a0Z C dx)
 ns:h.Ns1 dx mA
 ne:dx≠x
section
variable {prog:Tj}{w:TH}{A:Tv}{E:SK->SM->Prop}{s:SM}{K:SJ}{x dx C f:Addr}{mA:Str->Option SK}{name:Str}{v:SK}
end
theorem RelO.some_of {v:V}{o:Option SK}(r:RelO (some v) o):∃ u,o=some u/\RelV v u:=by
 cases o with
 | none=>exact (show False from r).elim
 | some u=>exact ⟨u,rfl,r⟩
section
variable {P:Tj}{w:TH}{H H':Hp}{h h':Uj}{a C dx:Addr}{fs fs':List (Str×V)}
end
structure Cls (K:SJ)(C:Addr):Prop where
 pg:a0M K C Str.empty=true
 hd:PySem.W.hasDictIn K C=true
 po:PySem.W.plainOver K C=true
 sa:XJ K (.ref C) "__setattr__" = some (some (.builtin "object.__setattr__"))
theorem Cls.get {K:SJ}{C:Addr}(c:Cls K C)(f:Str):a0M K C f=true:=c.pg
structure Con (K:SJ)(C:Addr)(f:Str)(v:V)(u:SK):Prop where
 at_:XJ K (.ref C) f=some (some u)
 rel:RelV v u
 get:a0D K u "__get__" = some none
 cp:PySem.W.copiedNames.contains f=false
structure Meth (K:SJ)(C:Addr)(m:Str)(f:Addr):Prop where
 at_:XJ K (.ref C) m=some (some (.ref f))
 fn:a1R K (.ref f)=true
 kp:Vf K (.ref f)=true
section
variable {X:Cx}{a4b:List (Addr×Vu)}{σ:St}{H:Hp}{s:SM}{a C dx:Addr}{fs:List (Str×V)}{f:Str}{v:V}{A:Tv}{E:SK->SM->Prop}
end
section
variable {X:Cx}{o e value:Expr}{f:Str}{pos pos' tpos:UY}{ta tv:TE}
end
section
variable {X:Cx}{a4b:List (Addr×Vu)}{σ:St}{H:Hp}{s:SM}{A:Tv}{E:SK->SM->Prop}{Q:SK->SM->Prop}{c:SK}{b:Bool}
inductive TyOf (K:SJ)(H:Hp):V->SK->Prop where
 | non:TyOf K H .non (.type "NoneType")
 | bl (x:Bool):TyOf K H (.bl x) (.type "bool")
 | int (i:Int):TyOf K H (.int i) (.type "int")
 | str (x:Str):TyOf K H (.str x) (.type "str")
 | flt (x:UInt64):TyOf K H (.flt x) (.type "float")
 | lst {a:Addr}{xs:List V}(e:H a=some (.lst xs)):TyOf K H (.ref a) (.type "list")
 | frz {a:Addr}{o:Vu}{xs:List V}(e:H a=some (.frz o (.lst xs))):TyOf K H (.ref a) (.type "list")
 | tup {a:Addr}{xs:List V}(e:H a=some (.tup xs)):TyOf K H (.ref a) (.type "tuple")
 | dK {a:Addr}{kvs:List (aF×V)}(e:H a=some (.dK kvs)):TyOf K H (.ref a) (.type "dict")
 | dT {a:Addr}{kvs:List (List aF×V)}(e:H a=some (.dT kvs)):TyOf K H (.ref a) (.type "dict")
 | ins {a C dx:Addr}{fs:List (Str×V)}(e:H a=some (.ins C dx fs))(cl:Cls K C)(ha:XJ K (.ref C) "__class__" = some (some (.builtin "object.__class__")))
   (hn:a0D K (.builtin "object.__class__") "__get__" = some (some (.builtin "getset_descriptor.__get__"))) (htk:PySem.W.takesIn K (.builtin "object.__class__")=some true)
   (hm:PySem.W.mroIn K C (.type "object")=some true):TyOf K H (.ref a) (.ref C)
end
end L2
namespace L2
open PySem PySem.Spec PyProof.Rows
structure Room (k:Nat)(A:Tv):Prop where
 hd:A.handled=none
 dp:A.depth+3 * k+5<a3O
 un:A.units+16 * k+200<UT
theorem Room.mono {j k:Nat}{A:Tv}(r:Room k A)(h:j<=k):Room j A:=⟨r.hd,by have:=r.dp;omega,by have:=r.un;omega⟩
theorem Room.deeper {k:Nat}{A:Tv}(r:Room (k+1) A)(env:YU):Room k (A.deeper env):=
 ⟨r.hd,by have:=r.dp;show A.depth+1+3 * k+5<_;omega,by have:=r.un;show A.units+3+16 * k+200<_;omega⟩
theorem Room.in1 {k:Nat}{A:Tv}(r:Room (k+1) A):Room k A.in1:=
 ⟨r.hd,by have:=r.dp;show A.depth+3 * k+5<_;omega,by have:=r.un;show A.units+1+16 * k+200<_;omega⟩
theorem Room.depth {k:Nat}{A:Tv}(r:Room k A):A.depth<a3O:=by have:=r.dp;omega
theorem Room.units {k:Nat}{A:Tv}(r:Room k A):A.units+64<UT:=by have:=r.un;omega
noncomputable def AI:TA:=fun _ H Q=>Q [] H
noncomputable def HA (c:TE)(tr:TA):TA:=fun σ H Q=>c σ H fun x a=>tr σ a fun xs b=>Q (x::xs) b
section
variable {X:Cx}{e:Expr}{es:List Expr}{te:TE}{t:TA}{pos:UY}
theorem HB:PA X [] AI:=fun _ _ _ _ H Q I h=>Wo ⟨[],H,I,.nil,h⟩
theorem HC (j:PE X e te)(l:PA X es t)(m:TU (e::es) X.env=(false,eval e X.env)::TU es X.env:=by rfl):PA X (e::es) (HA te t):=by
 intro pos a s b H Q I h
 rw [m]
 show Tn _ _ (spliced ((false,eval e X.env)::Wg pos (TU es X.env))) _ _ s
 refine V9 (aP (j a s b H _ I h) fun u r ⟨x,c,g,p,n⟩=>?_)
 exact aP (l pos a r b c _ g n) fun y w ⟨v,d,i,q,o⟩=>⟨x::v,d,i,.cons p q,o⟩
noncomputable def HD (t:TA):TE:=fun σ H Q=>t σ H fun xs a=>xs.length<=S8/\∀ p,a p=none->Q (.ref p) (aI a p (.tup xs))
noncomputable def HE (t:TA):TE:=fun σ H Q=>t σ H fun xs a=>xs.length<=S8/\∀ p,a p=none->Q (.ref p) (aI a p (.lst xs))
theorem HF {x1} (h:PA X es t):PE X (.Tuple es x1 pos) (HD t):=by
 intro c s n H Q I j
 refine wpAny_Tuple_spliced (aP (h pos c s n H _ I j) fun l a ⟨m,d,g,r,z,q⟩=>⟨by rw [<- r.length];exact z,?_⟩)
 have i:d a.heap.objs.size=none:=g.hok.fresh (SX _)
 refine ⟨.ref a.heap.objs.size,aI d a.heap.objs.size (.tup m),g.laid (t':=a.toks) (fun b u e=>SR _ e) (SX _) ?_,rfl,q _ i⟩
 exact ⟨z,l,r,⟨_,Te _ rfl,rfl,_,rfl,rfl⟩⟩
theorem HG (h:PA X es t):PE X (.List es pos) (HE t):=by
 intro c s n H Q I j
 refine wpAny_List_spliced (aP (h pos c s n H _ I j) fun l a ⟨m,d,g,r,z,q⟩=>⟨by rw [<- r.length];exact z,?_⟩)
 have i:d a.heap.objs.size=none:=g.hok.fresh (SX _)
 refine ⟨.ref a.heap.objs.size,aI d a.heap.objs.size (.lst m),g.laid (t':=a.toks) (fun b u e=>SR _ e) (SX _) ?_,rfl,q _ i⟩
 exact ⟨z,l,0,r,Te _ rfl⟩
end
noncomputable abbrev Sp:=List V->Hp->VK->XK->Prop
noncomputable abbrev fV:=List YU->Hp->SM->XK->SK->SM->Prop
structure Env0 (P:Tj)(w:TH)(K:SJ)(mg:Str->Option SK)(base:Uj)(A:Tv)(outer:List YU)(s:SM)(H:Hp):Prop where
 frames:A.frames=some outer
 mod:Mod K mg base
 bs:∀ b o,base.get? b=some o->s.heap.get? b=some o/\H b=none
 bsz:base.objs.size<=s.heap.objs.size
 funs:s.heap.FunFrames base outer
 frf:∀ b∈fT outer,H b=none
 hok:HOk P w H s.heap
 bare:Y1 s.gens
noncomputable def CE (outer:List YU)(P:Tj)(w:TH)(H:Hp)(s:SM)(Q:VK)(u:SK)(a:SM):Prop:=
 ∃ v b,a.os=s.os/\Y1 a.gens/\Un (fT outer) [] H b s.heap a.heap/\HOk P w b a.heap/\RelV v u/\Q v b
noncomputable def CR (CX:fV)(outer:List YU)(P:Tj)(w:TH)(H:Hp)(s:SM)(Q:VK)(E:XK)(r:a1o)(a:SM):Prop:=
 match r with
 | .ok (.ret u)=>CE outer P w H s Q u a
 | .ok _=>False
 | .error e=>CX outer H s E e a
structure FnOk (P:Tj)(w:TH)(K:SJ)(mg:Str->Option SK)(base:Uj)(CX:fV)(k:Nat)(f:Addr)(fd:VA)(ps:List Str)(sp:Sp):Prop where
 len:∀ vs H Q E,sp vs H Q E->vs.length=ps.length
 run:∀ (A:Tv)(outer:List YU)(s:SM)(H:Hp)(args:Args)(us:List SK)(vs:List V)(Q:VK)(E:XK),Room k A->Env0 P w K mg base A outer s H->ZL s fd args (ps.zip us)->Vals vs us->sp vs H Q E->
  Yg (Tr P w) A (.call (.ref f) args) (CR CX outer P w H s Q E) s
theorem FnOk.mono {P:Tj}{w:TH}{K:SJ}{mg:Str->Option SK}{base:Uj}{CX:fV}{j k:Nat}{f:Addr}{b:VA}{ps:List Str}{sp:Sp}(F:FnOk P w K mg base CX j f b ps sp)(h:j<=k) :
  FnOk P w K mg base CX k f b ps sp:=⟨F.len,fun A outer s H a d e Q E c=>F.run A outer s H a d e Q E (c.mono h)⟩
theorem FnOk.imp {P:Tj}{w:TH}{K:SJ}{mg:Str->Option SK}{base:Uj}{CX:fV}{k:Nat}{f:Addr}{d:VA}{ps:List Str}{sp c:Sp}(F:FnOk P w K mg base CX k f d ps sp)
  (h:∀ a H Q E,c a H Q E->sp a H Q E):FnOk P w K mg base CX k f d ps c:=
 ⟨fun a H Q E q=>F.len a H Q E (h _ _ _ _ q),fun A outer s H b m a Q E i g e l j=>F.run A outer s H b m a Q E i g e l (h _ _ _ _ j)⟩
theorem Env0.in1 {P:Tj}{w:TH}{K:SJ}{mg:Str->Option SK}{base:Uj}{A:Tv}{outer:List YU}{s:SM}{H:Hp}(e:Env0 P w K mg base A outer s H) :
  Env0 P w K mg base A.in1 outer s H:=⟨e.frames,e.mod,e.bs,e.bsz,e.funs,e.frf,e.hok,e.bare⟩
section
variable {X:Cx}{a4b:List (Addr×Vu)}{σ:St}{H:Hp}{s s':SM}
theorem Inv.env0 (I:Inv X a4b σ H s):Env0 X.prog X.w X.K X.mg X.base X.A X.stack s H:=
 ⟨I.ok.frames,I.ok.mod,I.bs,TQ I.ok.bsz I.sz,I.stack,I.stkFree,I.hok,I.bare⟩
theorem Inv.after {Q:VK}{u:SK}(I:Inv X a4b σ H s)(h:CE X.stack X.prog X.w H s Q u s'):EP X a4b σ Q u s':=by
 obtain ⟨v,e,j,bare,un,a,r,q⟩:=h
 obtain ⟨i,g,d,t,c⟩:=s'
 obtain rfl:c=s.os:=j
 exact ⟨v,e,I.call (h':=i) (g':=g) (d':=d) (t':=t) (ch:=[]) un a bare (fun b z=>absurd z (by simp)),r,q⟩
end
noncomputable def uS (sp:Sp)(a:List V)(E:XK)(t:TA):TE:=fun σ H Q=>t σ H fun vs b=>sp (vs++a) b Q E
noncomputable def Binds (K:SJ)(a:VA)(ps:List Str)(ds:List SK):Prop:=
 ∀ (s:SM)(us:List SK),K.In s.heap->(us++ds).length=ps.length->ZL s a ⟨us,[]⟩ (ps.zip (us++ds))
theorem Binds.all {K:SJ}{a:VA}{ps:List Str}(h:∀ us:List SK,us.length=ps.length->a0s a ⟨us,[]⟩=pure (ps.zip us)):Binds K a ps []:=fun s us _ b=>by
 rw [Uh] at b ⊢
 exact .of_eq (h us b)
noncomputable def qY (CX:fV)(X:Cx)(E:XK):Prop:=∀ (a4b:List (Addr×Vu))(σ:St)(H:Hp)(s:SM)(e:SK)(a:SM),Inv X a4b σ H s->CX X.stack H s E e a->X.xe e a
section
variable {X:Cx}{CX:fV}{k:Nat}{f C:Addr}{fd:VA}{ps:List Str}{sp:Sp}{dvs:List V}{ds:List SK}{E:XK}{x m:Str}{p pos apos:UY}{e o:Expr}{es:List Expr}{ta:TE}{t:TA}
theorem AJ {a4b:List (Addr×Vu)}{σ:St}{H:Hp}{s:SM}{Q:VK}{us:List SK}{vs:List V}(F:FnOk X.prog X.w X.K X.mg X.base CX k f fd ps sp)(i:Room k X.A)(d:Binds X.K fd ps ds)(hd:Vals dvs ds)(j:qY CX X E)
  (I:Inv X a4b σ H s)(r:Vals vs us)(h:sp (vs++dvs) H Q E):Tn (Tr X.prog X.w) X.A (call (.ref f) us) (EP X a4b σ Q) X.xe s:=by
 have b:Vals (vs++dvs) (us++ds):=r.append hd
 have g:(us++ds).length=ps.length:=by rw [<- b.length];exact F.len _ _ _ _ h
 refine wpAny_call (Zy (F.run X.A X.stack s H ⟨us,[]⟩ (us++ds) (vs++dvs) Q E i I.env0 (d s us I.kIn g) b h) fun r l a=>?_)
 cases r with
 | error e=>exact j a4b σ H s e l I a
 | ok c=>
  cases c with
  | ret u=>exact I.after a
  | next=>exact Vh a
  | brk=>exact Vh a
  | cont=>exact Vh a
theorem HH (F:FnOk X.prog X.w X.K X.mg X.base CX k f fd ps sp)(v:Room k X.A)(l:Gl X x)(u:X.mg x=some (.ref f))(n:Vf X.K (.ref f)=true)(i:Binds X.K fd ps ds)(hd:Vals dvs ds)(w:qY CX X E)
  (g:PA X (e::es) t)(b:(x == ("__debug__":Str))=false:=by decide) (j:TU (e::es) X.env=(false,eval e X.env)::TU es X.env:=by rfl)(c:(Wg pos (TU es X.env)).any (·.1)=false:=by rfl) :
  PE X (.Call (.Name x p) (e::es) [] pos) (uS sp dvs E t):=by
 intro a s y H Q I h
 refine Ve (uF I l u ?_ b)
 refine PySem.W.callWith_K (h₀:=X.base) I.ok.mod.kin n (aP (g pos a s y H _ I h) fun B A ⟨G,z,d,r,q⟩=>⟨d.kIn,?_⟩) j c
 exact AJ F v i hd w d r q
theorem HI (F:FnOk X.prog X.w X.K X.mg X.base CX k f fd ps sp)(j:Room k X.A)(d:Gl X x)(i:X.mg x=some (.ref f))(g:Vf X.K (.ref f)=true)(c:Binds X.K fd ps ds)(hd:Vals dvs ds)(l:qY CX X E)
  (a:(x == ("__debug__":Str))=false:=by decide):PE X (.Call (.Name x p) [] [] pos) (uS sp dvs E AI):=by
 intro b s n H Q I h
 refine Ve (uF I d i ?_ a)
 exact PySem.W.callWith_K0 I.kIn g (AJ (us:=[]) F j c hd l I .nil h)
structure Mk (K:SJ)(C f:Addr):Prop where
 makes:PySem.W.makesIn K C=true
 init:XJ K (.ref C) "__init__" = some (some (.ref f))
 fn:a1R K (.ref f)=true
 kp:Vf K (.ref C)=true
end
section
variable {X:Cx}{CX:fV}{k:Nat}{f C:Addr}{fd:VA}{ps ks:List Str}{sp:Sp}{E:XK}{x m:Str}{p pos apos kpos:UY}{e o:Expr}{es:List Expr}{kws:List WN}{te ta:TE}{t tk:TA}{nm:Option Str}
structure KBinds (K:SJ)(fd:VA)(ps ks:List Str)(g:List SK->List SK->List SK)(gV:List V->List V->List V):Prop where
 to:∀ (s:SM)(us ws:List SK),K.In s.heap->(g us ws).length=ps.length->ZL s fd ⟨us,ks.zip ws⟩ (ps.zip (g us ws))
 rel:∀ {vs:List V}{us:List SK}{zs:List V}{ws:List SK},Vals vs us->Vals zs ws->Vals (gV vs zs) (g us ws)
variable {g:List SK->List SK->List SK}{gV:List V->List V->List V}
end
structure FnScope (N P:List Str)(sc:Wh):Prop where
 kind:sc.kind=.function
 co:sc.isCoroutine=false
 gen:sc.isGenerator=false
 nd:N.Nodup
 pre:N.take P.length=P
 par:∀ x∈P,sc.names.lookup x=some .local\/sc.names.lookup x=some .cell
 nofree:∀ y∈sc.names,y.2≠.free
theorem AK {kindOf:Str->Option V2}{x:Str}:∀ {binds:List (Str×SK)}{m:Str->Option SK},(∀ v,(x,v)∉binds)->a0X kindOf binds m x=m x
 | [],_,_=>rfl
 | (n,v)::r,m,h=>by
  unfold a0X
  rw [AK fun w hw=>h w (S3 _ hw)]
  split
  ·have:x≠n:=by rintro rfl;exact h v Td
   simp [this]
  ·rfl
theorem AL {kindOf:Str->Option V2}{x:Str}:∀ {binds:List (Str×SK)}{m:Str->Option SK},(∀ v,(x,v)∉binds)->a0Y kindOf binds m x=m x
 | [],_,_=>rfl
 | (n,v)::r,m,h=>by
  unfold a0Y
  rw [AL fun w hw=>h w (S3 _ hw)]
  split
  ·rfl
  ·have:x≠n:=by rintro rfl;exact h v Td
   simp [this]
theorem AM {kindOf:Str->Option V2}{x:Str}{v:SK}:∀ {P:List Str}{vs:List SK}{i:Nat}{m:Str->Option SK},P.Nodup->P[i]? = some x->vs[i]? = some v->kindOf x=some .local->
  a0X kindOf (P.zip vs) m x=some v
 | [],_,_,_,_,h,_,_=>by simp at h
 | _::_,[],_,_,_,_,h,_=>by simp at h
 | p::P,w::vs,0,m,nd,h1,h2,hk=>by
  simp at h1 h2;subst h1;subst h2
  show a0X kindOf ((p,w)::P.zip vs) m p=_
  unfold a0X
  rw [AK fun v a=>(TX.mp nd).1 (Zq a).1,if_pos hk]
  simp
 | p::P,w::vs,i+1,m,nd,h1,h2,hk=>by
  show a0X kindOf ((p,w)::P.zip vs) m x=_
  unfold a0X
  exact AM (i:=i) (TX.mp nd).2 (by simpa using h1) (by simpa using h2) hk
theorem AN {kindOf:Str->Option V2}{x:Str}{v:SK}:∀ {P:List Str}{vs:List SK}{i:Nat}{m:Str->Option SK},P.Nodup->P[i]? = some x->vs[i]? = some v->kindOf x≠some .local->
  a0Y kindOf (P.zip vs) m x=some v
 | [],_,_,_,_,h,_,_=>by simp at h
 | _::_,[],_,_,_,_,h,_=>by simp at h
 | p::P,w::vs,0,m,nd,h1,h2,hk=>by
  simp at h1 h2;subst h1;subst h2
  show a0Y kindOf ((p,w)::P.zip vs) m p=_
  unfold a0Y
  rw [AL fun v a=>(TX.mp nd).1 (Zq a).1,if_neg hk]
  simp
 | p::P,w::vs,i+1,m,nd,h1,h2,hk=>by
  show a0Y kindOf ((p,w)::P.zip vs) m x=_
  unfold a0Y
  exact AN (i:=i) (TX.mp nd).2 (by simpa using h1) (by simpa using h2) hk
noncomputable def start (N:List Str)(vs:List V):St:=vs.map some++Vt (N.length - vs.length) none
noncomputable def i6 (CX:fV)(P:Tj)(w:TH)(K:SJ)(mg:Str->Option SK)(base:Uj)(N:List Str)(a:Str)(scope:Wh)(f:Addr)(c:SK)(A:Tv)(outer:List YU)(s:SM)(H:Hp)(E:XK):Cx where
 prog:=P
 w:=w
 K:=K
 mg:=mg
 base:=base
 A:=A.deeper (envOfC a scope s.heap.objs.size f c)
 N:=N
 s₀:=s
 H₀:=H
 env:=envOfC a scope s.heap.objs.size f c
 outer:=outer
 stack:=envOfC a scope s.heap.objs.size f c::outer
 ex:=[]
 calm:=true
 fn:=fun _=>true
 pn:=[]
 xe:=fun e g=>Tn (Tr P w) (A.deeper (envOfC a scope s.heap.objs.size f c)) (leaving (envOfC a scope s.heap.objs.size f c) e) (fun _ b=>CX outer H s E e b) (fun d b=>CX outer H s E d b) g
theorem AO {a:Wh}{n:Nat}{x:Str}(h:a.names.lookup x=some .cell):∃ c,(a2R n a.names []).lookup x=some c:=by
 have q:=Z0 a.names n [] (.inl h)
 exact Option.isSome_iff_exists.mp q
theorem HJ {CX:fV}{P:Tj}{w:TH}{K:SJ}{mg:Str->Option SK}{base:Uj}{N ps:List Str}{d:Str}{scope:Wh}{f:Addr}{B:SK}{A:Tv}{outer:List YU}{s O:SM}{H:Hp}{E:XK}{us:List SK}{vs:List V}
  (S:FnScope N ps scope)(hd:A.handled=none)(j:Env0 P w K mg base A outer s H)(X:vs.length=ps.length)(r:Vals vs us)
  (x:InCallC s s.heap.objs.size (a0X (envOfC d scope s.heap.objs.size f B).kindOf (ps.zip us) fun _=>none) (a2R (s.heap.objs.size+1) scope.names []) (a0Y (envOfC d scope s.heap.objs.size f B).kindOf (ps.zip us) fun _=>none) O) :
  Inv (i6 CX P w K mg base N d scope f B A outer s H E) [] (start N vs) H O:=by
 have R:ps.length<=N.length:=by have:=congrArg Ua S.pre;rw [Tu] at this;omega
 obtain ⟨G,Y,rfl,L⟩:=x.done
 have m:∀ b:Addr,b∉(i6 CX P w K mg base N d scope f B A outer s H E).ex:=fun b z=>absurd (show b∈([]:List Addr) from z) (by simp)
 refine ⟨⟨j.mod,S.kind,rfl,rfl,SX _,fun y z c G g=>?_,fun y l=>?_,fun y c _ h=>?_,fun _=>hd,Around.frames_deeper j.frames,.inr ⟨rfl,rfl⟩,fun b z=>absurd z (m b),j.bs,j.bsz,fun b _ _=>m b,fun b z=>absurd z (m b),j.funs,j.frf⟩,
  rfl,j.bare,Un.kept L,⟨_,x.toInCall.ns,fun i y v G g U=>?_⟩,fun y c h=>⟨_,x.cell y c h⟩,j.hok.fresh (SX _),fun y c h=>?_,fun p n=>absurd (show p∈([]:List (Addr×Vu)) from n) (by simp),j.hok.kept L,?_⟩
 ·exact name_of_addr x.apart (Uz G) (Uz g)
 ·have l:scope.names.lookup y=some .cell\/scope.names.lookup y=some .free:=l
  rcases l with l|l
  ·exact AO l
  ·exact absurd rfl (S.nofree _ (Uz l))
 ·exact Xc (x.above y c (Uz h))
 ·have I:i<vs.length:=by
   unfold start at g
   by_cases I:i<vs.length
   ·exact I
   ·rw [Tg (by simpa using I)] at g
    rw [V3] at g
    split at g<;>cases g
  have Q:vs[i]? = some v:=by
   unfold start at g
   rw [S7 (by simpa using I),Tx] at g
   cases e:vs[i]? with
   | none=>rw [e] at g;cases g
   | some a=>rw [e] at g;cases g;rfl
  obtain ⟨u,M,T⟩:=r.get Q
  have n:ps[i]? = some y:=by
   rw [<- S.pre,Ux (by omega)];exact G
  have o:ps.Nodup:=by rw [<- S.pre];exact S.nd.sublist (VS _ _)
  refine ⟨u,T,?_⟩
  rcases S.par y (Th n) with k|k
  ·exact .inl ⟨k,AM o n M k⟩
  ·obtain ⟨c,e⟩:=AO (n:=s.heap.objs.size+1) k
   refine .inr ⟨.inl k,c,e,?_⟩
   have q:=x.cell y c e
   rw [AN o n M (by show scope.names.lookup y≠_;rw [k];decide)] at q
   exact q
 ·exact j.hok.fresh (Xc (x.above y c (Uz h)))
 ·unfold start
  show _=N.length
  rw [SV,SQ,VM]
  omega
theorem HK {CX:fV}{P:Tj}{w:TH}{K:SJ}{mg:Str->Option SK}{base:Uj}{k:Nat}{f:Addr}{name a:Str}{d:Arguments}{body:List Stmt}{scope:Wh}{X kV m Y c ct oc:SK}{an od:Option Addr}
  {M:Array (Option SK)}{N ps:List Str}{sp:Sp}(lk:K.lookup f=some ⟨oc,od,.func (VO name a d body scope X kV m Y an c ct),M⟩)(B:Yk K c a=true)(S:FnScope N ps scope)
  (len:∀ vs H Q E,sp vs H Q E->vs.length=ps.length)
  (i:∀ (A:Tv)(outer:List YU)(s:SM)(H:Hp)(vs:List V)(Q:VK)(E:XK),Room k (A.deeper (envOfC a scope s.heap.objs.size f c))->sp vs H Q E->
   ∃ t,PSs (i6 CX P w K mg base N a scope f c A outer s H E) body t/\t { nx:=fun _ h=>Q .non h,rt:=Q } (start N vs) H) :
  FnOk P w K mg base CX (k+1) f (VO name a d body scope X kV m Y an c ct) ps sp:=by
 refine ⟨len,fun A outer s H U us vs Q E G p hb r z=>?_⟩
 have hl:=len _ _ _ _ z
 have T:K.In s.heap:=p.mod.kin.keeps fun b o e=>(p.bs b o e).1
 have L:s.heap.NoLimit:=p.mod.nolimit.keeps fun b o e=>(p.bs b o e).1
 have j:∀ y∈ps.zip us,scope.names.lookup y.1=some .local\/(scope.names.lookup y.1=some .cell/\((a2R (s.heap.objs.size+1) scope.names []).lookup y.1).isSome=true):=fun ⟨n,v⟩ hy=>by
  rcases S.par n (Zq hy).1 with q|q
  ·exact .inl q
  ·exact .inr ⟨q,Z0 _ _ _ (.inl q)⟩
 refine codeAny_call_function G.depth (T _ _ lk) rfl S.co S.gen rfl (PySem.W.codeRec_of T B) (hb _ _ _ _ ?_)
 refine wpAny_newFunctionEnv_cells S.kind j fun env he Z x=>?_
 subst he
 refine ⟨L.keeps x.toInCall.keep,codeAny_func ?_⟩
 obtain ⟨t,ht,hq⟩:=i A outer s H vs Q E (G.deeper _) z
 have I:Inv (i6 CX P w K mg base N a scope f c A outer s H E) [] (start N vs) H Z:=HJ S G.hd p hl r x
 refine T7 (ht [] Z (start N vs) H _ I hq) (fun fl R l=>?_) fun e R l=>l
 have fin:∀ {g:St}{h:Hp}{v:V}{u:SK},Inv (i6 CX P w K mg base N a scope f c A outer s H E) [] g h R->RelV v u->Q v h->CE outer P w H s Q u R:=
  fun {g h v u} J O q=>⟨v,h,J.os,J.bare,J.base,J.hok,O,q⟩
 cases fl with
 | ret u=>
  obtain ⟨v,g,h,J,O,q⟩:=l
  exact fin J O q
 | next=>
  obtain ⟨g,h,J,q⟩:=l
  exact fin (v:=V.non) (u:=UK) J rfl q
 | brk=>
  obtain ⟨_,_,_,q⟩:=l
  exact Vh q
 | cont=>
  obtain ⟨_,_,_,q⟩:=l
  exact Vh q
end L2
namespace L2
open PySem PySem.Spec PyProof.Rows
section
variable {X:Cx}{x:Str}{p pos:UY}{e:Expr}{es:List Expr}{t:TA}{id T:String}{r:List V->Hp->VK->Prop}
noncomputable def uT (r:List V->Hp->VK->Prop)(t:TA):TE:=fun σ H Q=>t σ H fun vs a=>r vs a Q
theorem HL (hc:CallR X (.builtin id) r)(m:Gl X x)(n:X.mg x=none)(q:U4 x=some (.builtin id))(j:PA X (e::es) t)(o:x ≠ "__name__":=by decide) (b:(x == ("__debug__":Str))=false:=by decide)
  (l:TU (e::es) X.env=(false,eval e X.env)::TU es X.env:=by rfl)(c:(Wg pos (TU es X.env)).any (·.1)=false:=by rfl):PE X (.Call (.Name x p) (e::es) [] pos) (uT r t):=by
 intro a s d H Q I h
 refine Ve (iA I m n q ?_ o b)
 exact WR (aP (j pos a s d H _ I h) fun y w ⟨z,g,i,v,u⟩=>hc a w d g z y Q i v u) l c
theorem HM (hc:CallR X (.type T) r)(m:Gl X x)(n:X.mg x=none)(q:U4 x=some (.type T))(j:PA X (e::es) t)(o:x ≠ "__name__":=by decide) (b:(x == ("__debug__":Str))=false:=by decide)
  (l:TU (e::es) X.env=(false,eval e X.env)::TU es X.env:=by rfl)(c:(Wg pos (TU es X.env)).any (·.1)=false:=by rfl):PE X (.Call (.Name x p) (e::es) [] pos) (uT r t):=by
 intro a s d H Q I h
 refine Ve (iA I m n q ?_ o b)
 exact U5 (aP (j pos a s d H _ I h) fun y w ⟨z,g,i,v,u⟩=>hc a w d g z y Q i v u) l c
end
end L2
namespace L2
open PySem PySem.Spec PyProof.Rows
section
variable {κ:Type} [DecidableEq κ]
noncomputable def dF (kvs:List (κ×V))(k:κ):Option V:=(kvs.find? fun a=>decide (a.1=k)).map (·.2)
noncomputable def dU (kvs:List (κ×V))(k:κ)(v:V):List (κ×V):=
 if (kvs.any fun a=>decide (a.1=k))=true then kvs.map (fun a=>if a.1=k then (a.1,v) else a) else kvs++[(k,v)]
noncomputable def AQ (kvs:List (κ×V))(k:κ):List (κ×V):=kvs.filter fun a=>decide (a.1≠k)
theorem uU {p:κ×V}{r:List (κ×V)}{k:κ}(e:p.1=k):dF (p::r) k=some p.2:=by simp [dF,Uu,e]
theorem uV {p:κ×V}{r:List (κ×V)}{k:κ}(e:¬ p.1=k):dF (p::r) k=dF r k:=by simp [dF,Uu,e]
theorem AR (k:κ):∀ kvs:List (κ×V),(kvs.any fun a=>decide (a.1=k))=(dF kvs k).isSome
 | []=>rfl
 | p::r=>by
  rw [XB]
  by_cases e:p.1=k
  ·simp only [uU e,decide_eq_true e,Bool.true_or,XS]
  ·rw [uV e,decide_eq_false e,a2y];exact AR k r
theorem HN (kvs:List (κ×V))(k:κ)(v:V):(dU kvs k v).length<=kvs.length+1:=by
 unfold dU
 split
 ·rw [SQ];omega
 ·rw [SV,Ti,UO];omega
theorem RelO.isSome_eq {o:Option V}{u:Option SK}(r:RelO o u):o.isSome=u.isSome:=by
 cases o with
 | none=>cases u with
  | none=>rfl
  | some _=>exact (show False from r).elim
 | some _=>cases u with
  | none=>exact (show False from r).elim
  | some _=>rfl
theorem RelO.getD {o:Option V}{u:Option SK}{d:V}{d':SK}(r:RelO o u)(a:RelV d d'):RelV (o.getD d) (u.getD d'):=by
 cases o with
 | none=>cases u with
  | none=>exact a
  | some _=>exact (show False from r).elim
 | some _=>cases u with
  | none=>exact (show False from r).elim
  | some _=>exact r
theorem KV.val {kvs:List (κ×V)}{vs:List (κ×SK)}(r:KV kvs vs)(k:κ):RelO (dF kvs k) (Zw vs k):=by
 unfold KV at r
 induction r with
 | nil=>exact Xh
 | @cons p q j c h t i=>
  obtain ⟨d,g⟩:=h
  by_cases e:p.1=k
  ·have a:q.1=k:=d.symm.trans e
   have b:Zw (q::c) k=some q.2:=by simp [Zw,Uu,a]
   rw [uU e,b];exact g
  ·have a:¬ q.1=k:=fun z=>e (d.trans z)
   have b:Zw (q::c) k=Zw c k:=by simp [Zw,Uu,a]
   rw [uV e,b];exact i
theorem KV.any {kvs:List (κ×V)}{vs:List (κ×SK)}(r:KV kvs vs)(k:κ):(kvs.any fun a=>decide (a.1=k))=vs.any fun a=>decide (a.1=k):=by
 unfold KV at r
 induction r with
 | nil=>rfl
 | cons h t b=>rw [XB,XB,b,h.1]
theorem KV.repl {kvs:List (κ×V)}{vs:List (κ×SK)}(r:KV kvs vs)(k:κ){y:V}{u:SK}(g:RelV y u) :
  KV (kvs.map fun a=>if a.1=k then (a.1,y) else a) (vs.map fun a=>if a.1=k then (a.1,u) else a):=by
 unfold KV at r ⊢
 induction r with
 | nil=>exact .nil
 | @cons p q i j h t d=>
  rw [S5,S5]
  refine .cons ?_ d
  obtain ⟨b,c⟩:=h
  by_cases e:p.1=k
  ·rw [if_pos e,if_pos (b.symm.trans e)];exact ⟨b,g⟩
  ·rw [if_neg e,if_neg (fun z=>e (b.trans z))];exact ⟨b,c⟩
theorem KV.put {kvs:List (κ×V)}{vs:List (κ×SK)}(r:KV kvs vs)(k:κ){y:V}{u:SK}(a:RelV y u):KV (dU kvs k y) (stored vs k u):=by
 unfold dU stored
 rw [r.any k]
 by_cases e:(vs.any fun b=>decide (b.1=k))=true
 ·rw [if_pos e,if_pos e];exact r.repl k a
 ·rw [if_neg e,if_neg e];exact Yn r ⟨rfl,a⟩
theorem KV.drop {kvs:List (κ×V)}{vs:List (κ×SK)}(r:KV kvs vs)(k:κ):KV (AQ kvs k) (without vs k):=by
 unfold KV at r ⊢
 unfold AQ without
 induction r with
 | nil=>exact .nil
 | @cons p q j l h t d=>
  obtain ⟨c,i⟩:=h
  rw [V4,V4]
  by_cases e:p.1=k
  ·have a:¬ decide (p.1≠k)=true:=by simp [e]
   have b:¬ decide (q.1≠k)=true:=by simp [c.symm.trans e]
   rw [if_neg a,if_neg b];exact d
  ·have g:¬ q.1=k:=fun z=>e (c.trans z)
   have a:decide (p.1≠k)=true:=by simp [e]
   have b:decide (q.1≠k)=true:=by simp [g]
   rw [if_pos a,if_pos b];exact .cons ⟨c,i⟩ d
theorem KV.keys {kvs:List (κ×V)}{vs:List (κ×SK)}(r:KV kvs vs):kvs.map (·.1)=vs.map (·.1):=by
 unfold KV at r
 induction r with
 | nil=>rfl
 | cons h t a=>rw [S5,S5,a,h.1]
theorem KV.length {kvs:List (κ×V)}{vs:List (κ×SK)}(r:KV kvs vs):kvs.length=vs.length:=Yy r
end
theorem uW {P:Tj}{w:TH}{k:aF}{u:SK}(r:RelV (kV k) u):(c8 P w).is k u=true:=by
 cases k with
 | inl i=>obtain ⟨t,e⟩:=(show ∃ t,u=XR i t from r);subst e;exact F8 P w i t
 | inr x=>obtain ⟨t,e⟩:=(show ∃ t,u=Y2 x t from r);subst e;exact F9 P w x t
theorem AS {P:Tj}{w:TH}:∀ {ks:List aF}{us:List SK},Vals (ks.map kV) us->ItemsAre (c8 P w) ks us
 | [],_,r=>by rw [Wb] at r;cases r;exact .nil
 | k::ks,_,r=>by
  rw [S5] at r
  cases r with
  | cons h t=>exact .cons (uW h) (AS t)
noncomputable abbrev KT (H:Hp):List (List aF×V)->List (List aF×Addr×SK)->Prop:=V6 fun p q=>p.1=q.1/\H q.2.1=some (.tup (p.1.map kV))/\RelV p.2 q.2.2
theorem KT.val {H:Hp}{kvs:List (List aF×V)}{xs:List (List aF×Addr×SK)}(r:KT H kvs xs)(k:List aF):RelO (dF kvs k) ((Xr xs k).map (·.2)):=by
 induction r with
 | nil=>exact Xh
 | @cons p q j c h t i=>
  obtain ⟨d,_,g⟩:=h
  by_cases e:p.1=k
  ·have a:q.1=k:=d.symm.trans e
   have b:Xr (q::c) k=some q.2:=by simp [Xr,Uu,a]
   rw [uU e,b];exact g
  ·have a:¬ q.1=k:=fun z=>e (d.trans z)
   have b:Xr (q::c) k=Xr c k:=by simp [Xr,Uu,a]
   rw [uV e,b];exact i
theorem KT.repl {H:Hp}{kvs:List (List aF×V)}{xs:List (List aF×Addr×SK)}(r:KT H kvs xs)(k:List aF){y:V}{u:SK}(i:RelV y u) :
  KT H (kvs.map fun b=>if b.1=k then (b.1,y) else b) (xs.map (a3P k u)):=by
 induction r with
 | nil=>exact .nil
 | @cons p q j l h t g=>
  rw [S5,S5]
  refine .cons ?_ g
  obtain ⟨a,c,d⟩:=h
  unfold a3P
  by_cases e:p.1=k
  ·rw [if_pos e,if_pos (a.symm.trans e)];exact ⟨a,c,i⟩
  ·rw [if_neg e,if_neg (fun z=>e (a.trans z))];exact ⟨a,c,d⟩
theorem KT.put {H:Hp}{kvs:List (List aF×V)}{xs:List (List aF×Addr×SK)}(r:KT H kvs xs)(k:List aF){b:Addr}{y:V}{u:SK}(c:H b=some (.tup (k.map kV)))(a:RelV y u) :
  KT H (dU kvs k y) (a2C xs k b u):=by
 have e:(kvs.any fun d=>decide (d.1=k))=(Xr xs k).isSome:=by
  rw [AR,(r.val k).isSome_eq,WY]
 unfold dU a2C
 rw [e]
 by_cases q:(Xr xs k).isSome=true
 ·rw [if_pos q,if_pos q];exact r.repl k a
 ·rw [if_neg q,if_neg q];exact Yn r ⟨rfl,c,a⟩
theorem KT.keeps {H a:Hp}{kvs:List (List aF×V)}{xs:List (List aF×Addr×SK)}(r:KT H kvs xs)(d:∀ b c,H b=some (.tup c)->a b=some (.tup c)):KT a kvs xs:=
 V6.mapP r fun _ _ z=>⟨z.1,d _ _ z.2.1,z.2.2⟩
section
variable {P:Tj}{w:TH}{H:Hp}{h:Uj}{a:Addr}
theorem AU {u:HO}(ok:HOk P w H h)(e:Rd H a u):ObjOk P w H h a u:=e.ok ok
theorem qZ {kvs:List (aF×V)}(ok:HOk P w H h)(e:Rd H a (.dK kvs)):kvs.length<=S8/\(a == Ui)=false/\∃ vs,KV kvs vs/\h.DictOf (c8 P w) a vs:=
 show ObjOk P w H h a (.dK kvs) from AU ok e
theorem HP {kvs:List (aF×V)}(ok:HOk P w H h)(e:H a=some (.dK kvs)):kvs.length<=S8/\(a == Ui)=false/\∃ vs,KV kvs vs/\h.DictOf (c8 P w) a vs:=qZ ok (.inl e)
theorem AV {ks:List aF}(ok:HOk P w H h)(e:H a=some (.tup (ks.map kV))):(Va (c8 P w)).is h ks a:=by
 obtain ⟨_,b,r,o,c,d,n,g,_⟩:=(show ObjOk P w H h a (.tup (ks.map kV)) from ok a _ e)
 exact ⟨o,b.toArray,n,c,d,g,by simpa using AS r⟩
theorem AW {kvs:List (List aF×V)}(ok:HOk P w H h)(e:Rd H a (.dT kvs)):kvs.length<=S8/\(a == Ui)=false /\
  ∃ c,KT H kvs c/\h.DictOfH (Va (c8 P w)) a c:=by
 obtain ⟨z,y,c,r,o,i,g,j,n,s,u,v⟩:=(show ObjOk P w H h a (.dT kvs) from AU ok e)
 refine ⟨z,y,c,r,o,i,g,j,n,s,u,fun x b=>?_,v⟩
 have all:∀ {l:List (List aF×V)}{m:List (List aF×Addr×SK)},KT H l m->∀ x∈m,(Va (c8 P w)).is h x.1 x.2.1:=by
  intro l m q
  induction q with
  | nil=>intro x b;exact nomatch b
  | @cons p q B E d t A=>
   intro x b
   rcases To.mp b with e|b
   ·subst e
    exact AV ok (by rw [<- d.1];exact d.2.1)
   ·exact A x b
 exact all r x b
end
noncomputable def DGet (H:Hp)(a:Addr)(y:V)(r:Option V):Prop:=
 (∃ c k,Rd H a (.dK c)/\y=kV k/\r=dF c k)\/∃ c k b,Rd H a (.dT c)/\y=.ref b/\H b=some (.tup (k.map kV))/\r=dF c k
noncomputable def DPut (H:Hp)(a:Addr)(y v:V)(d:Hp):Prop:=
 (∃ c k,H a=some (.dK c)/\y=kV k/\c.length<S8/\d=aI H a (.dK (dU c k v))) \/
 ∃ c k b,H a=some (.dT c)/\y=.ref b/\H b=some (.tup (k.map kV))/\c.length<S8/\d=aI H a (.dT (dU c k v))
theorem DGet.k {H:Hp}{a:Addr}{kvs:List (aF×V)}{k:aF}(e:H a=some (.dK kvs)):DGet H a (kV k) (dF kvs k):=.inl ⟨kvs,k,.inl e,rfl,rfl⟩
theorem DGet.t {H:Hp}{a b:Addr}{kvs:List (List aF×V)}{k:List aF}(e:H a=some (.dT kvs))(c:H b=some (.tup (k.map kV))):DGet H a (.ref b) (dF kvs k):=.inr ⟨kvs,k,b,.inl e,rfl,c,rfl⟩
theorem DPut.k {H:Hp}{a:Addr}{kvs:List (aF×V)}{k:aF}{v:V}(e:H a=some (.dK kvs))(b:kvs.length<S8):DPut H a (kV k) v (aI H a (.dK (dU kvs k v))):=.inl ⟨kvs,k,e,rfl,b,rfl⟩
theorem DPut.t {H:Hp}{a b:Addr}{kvs:List (List aF×V)}{k:List aF}{v:V}(e:H a=some (.dT kvs))(c:H b=some (.tup (k.map kV)))(d:kvs.length<S8) :
  DPut H a (.ref b) v (aI H a (.dT (dU kvs k v))):=.inr ⟨kvs,k,b,e,rfl,c,d,rfl⟩
section
variable {X:Cx}{a4b:List (Addr×Vu)}{σ:St}{H:Hp}{s:SM}{a:Addr}{y v:V}{u r:SK}{o:Option V}{A:Tv}{E:SK->SM->Prop}
theorem Inv.big (I:Inv X a4b σ H s):Ui<s.heap.objs.size:=by
 have h:U8<s.heap.objs.size:=(I.mod.glob.keeps I.bk).lt
 exact WE (by decide) h
theorem HQ {Q:SK->SM->Prop}(K:A.units+1<UT)(I:Inv X a4b σ H s)(g:DGet H a y (some v))(w:RelV y u)(h:∀ i x,Inv X a4b σ H x->RelV v i->Q i x) :
  Tn (Tr X.prog X.w) A (Zx (.ref a) u) Q E s:=by
 rcases g with ⟨q,k,e,m,l⟩|⟨q,k,b,e,m,B,l⟩
 ·subst m
  obtain ⟨z,hd,L,c,j⟩:=qZ I.hok e
  obtain ⟨i,hw,d⟩:=RelO.some_of (v:=v) (o:=Zw L k) (by rw [l];exact c.val k)
  exact wpAny_getItem_of (uW w) j.mapOf hw (h i _ (I.tok _) d)
 ·subst m
  cases (show u=S2 b from w)
  obtain ⟨z,hd,M,c,j⟩:=AW I.hok e
  obtain ⟨i,hw,d⟩:=RelO.some_of (v:=v) (o:=(Xr M k).map (·.2)) (by rw [l];exact c.val k)
  obtain ⟨p,G,n⟩:=SS.mp hw
  refine a2k (tupleKind_room_in1 K) (AV I.hok B) j G ?_
  rw [n]
  exact h i _ (I.tok _) d
theorem q8 {h':Uj}{t':Nat}{c:HO}(I:Inv X a4b σ H s)(h:oV (H a))(g:WB a s.heap h')(e:∃ q,h'.get? a=some q)(new:ObjOk X.prog X.w (aI H a c) h' a c) :
  Inv X a4b σ (aI H a c) { s with heap:=h',toks:=t' }:=
 I.write (x:=a) (e:=a) h (.inl rfl) (fun b q d z=>(g.2 b d).trans z) e new
theorem HR {P:Tj}{w:TH}{c:Hp}{h':Uj}{kvs:List (aF×V)}{vs:List (aF×SK)}(z:kvs.length<=S8)(hd:(a == Ui)=false)(b:KV kvs vs)(d:h'.DictOf (c8 P w) a vs) :
  ObjOk P w c h' a (.dK kvs):=⟨z,hd,vs,b,d⟩
end
section
variable {X:Cx}{a4b:List (Addr×Vu)}{σ:St}{H:Hp}{s:SM}{a:Addr}{kvs:List (aF×V)}{k:aF}{u:SK}{A:Tv}{E:SK->SM->Prop}
theorem HS {Q:SK->SM->Prop}(I:Inv X a4b σ H s)(e:Rd H a (.dK kvs))(h:∀ t c,Inv X a4b σ H c->Q (.int kvs.length t) c):Tn (Tr X.prog X.w) A (call (.builtin "len") [.ref a]) Q E s:=by
 obtain ⟨z,hd,g,b,d⟩:=qZ I.hok e
 refine call_len_dict hd d (by rw [<- b.length];rw [T3] at z;omega) ?_
 rw [<- b.length]
 exact h _ _ (I.tok _)
end
noncomputable def q9 (i:Expr):Prop:=∀ b a,Z6 i false b a=operate [b,a] (Zx b a)
theorem AX {prog:Tj}{w:TH}{A:Tv}{E:SK->SM->Prop}{s:SM}{env:YU}{b a:Expr}{pos:UY}{T id:String}{Q:SK->SM->Prop}
  (n:a2m (.type T) "__getitem__" = pure (some (.builtin id))) (p:q9 a)
  (h:Tn (Tr prog w) A (eval b env) (fun o e=>Tn (Tr prog w) A (eval a env) (fun i c=>c.TypeIs o T/\Tn (Tr prog w) A (Zx o i) Q E c) E e) E s) :
  Tn (Tr prog w) A (eval (.Subscript b a pos) env) Q E s:=by
 refine a2u (T7 h (fun o e j=>T7 j (fun i c d=>?_) fun _ _ x=>x) fun _ _ x=>x)
 obtain ⟨m,d⟩:=d
 unfold a0K
 refine SG ?_
 rw [getitemInPython_of_ne m.not_modules]
 refine SG (YB m n ?_)
 have fin:Tn (Tr prog w) A (Z6 a false o i) (fun r g=>Tn (Tr prog w) A (letTemporaryGo b o r >>= fun _=>pure r) Q E g) E c:=by
  rw [p o i]
  exact wpAny_operating (T7 d (fun r g l=>SG (wpAny_letTemporaryGo (SU l))) fun _ _ x=>x)
 first
  | exact SU (SG fin)
  | exact SG (SU (SG fin))
  | exact SG fin
theorem HU {X:Cx}{a4b:List (Addr×Vu)}{σ:St}{H:Hp}{s:SM}{a:Addr}{y:V}{o:Option V}(I:Inv X a4b σ H s)(g:DGet H a y o):s.TypeIs (.ref a) "dict":=by
 rcases g with ⟨d,k,e,_,_⟩|⟨d,k,b,e,_,_,_⟩
 ·obtain ⟨_,_,h,_,c⟩:=qZ I.hok e
  exact c.typeIs
 ·obtain ⟨_,_,i,_,c⟩:=AW I.hok e
  exact c.typeIs
noncomputable def HV (d ty:TE):TE:=fun σ H Q=>d σ H fun x c=>ty σ c fun y b=>∃ a v,x=.ref a/\DGet b a y (some v)/\Q v b
section
variable {X:Cx}{o i e value:Expr}{pos pos' tpos:UY}{td ty tv:TE}
theorem HW (A:X.A.units+1<UT)(w:PE X o td)(r:PE X i ty)(z:q9 i):PE X (.Subscript o i pos) (HV td ty):=by
 intro b s j H Q I h
 refine AX Zm.lookup z (aP (w b s j H _ I h) fun u L ⟨x,l,n,G,B⟩=>aP (r b L j l _ n B) fun M N ⟨y,m,d,K,a,v,q,g,E⟩=>?_)
 subst q
 obtain rfl:u=S2 a:=G
 exact ⟨HU d g,HQ A d g K fun R O p c=>⟨v,m,p,c,E⟩⟩
end
theorem HX {P:Tj}{w:TH}{H:Hp}(h:Uj)(a:Ui<h.objs.size):ObjOk P w H (h.push { cls:=.type "dict",data:=.dict #[] }) h.objs.size (.dK []):=
 ⟨Um _,beq_eq_false_iff_ne.mpr (UM (Tp a)),[],.nil,a3Z h⟩
section
variable {X:Cx}{pos:UY}
end
noncomputable def rA:List (TE×TE)->St->Hp->(List (V×V)->Hp->Prop)->Prop
 | [],_,H,Q=>Q [] H
 | (tk,tv)::r,σ,H,Q=>tk σ H fun x a=>tv σ a fun y b=>rA r σ b fun d c=>Q ((x,y)::d) c
noncomputable abbrev VV:List (V×V)->List (SK×SK)->Prop:=V6 fun p q=>RelV p.1 q.1/\RelV p.2 q.2
noncomputable def i7 (X:Cx)(pos:UY)(keys:List (Option Expr))(a:List Expr)(b:List (TE×TE)):Prop:=
 ∀ (a4b:List (Addr×Vu))(s:SM)(σ:St)(H:Hp)(Q:List (V×V)->Hp->Prop),Inv X a4b σ H s->rA b σ H Q->
  Tn (Tr X.prog X.w) X.A (evalPairs (pairTrees keys a X.env pos)) (fun g e=>∃ d c,Inv X a4b σ c e/\VV d g/\Q d c) X.xe s
theorem HY {X:Cx}{pos:UY}:i7 X pos [] [] []:=fun a4b s σ H Q I h=>a2n ⟨[],H,I,.nil,h⟩
theorem HZ {X:Cx}{pos:UY}{k v:Expr}{ks:List (Option Expr)}{vs:List Expr}{tk tv:TE}{b:List (TE×TE)}(n:PE X k tk)(p:PE X v tv)(o:i7 X pos ks vs b) :
  i7 X pos (some k::ks) (v::vs) ((tk,tv)::b):=fun a s d H Q I h=>
 a2b (aP (n a s d H _ I h) fun u E ⟨x,e,j,A,r⟩=>aP (p a E d e _ j r) fun L G ⟨y,g,l,B,w⟩=>
  aP (o a G d g _ l w) fun M K ⟨q,i,m,c,z⟩=>⟨(x,y)::q,i,m,.cons ⟨A,B⟩ c,z⟩)
noncomputable def lG (kvs more:List (aF×V)):List (aF×V):=more.foldl (fun a b=>dU a b.1 b.2) kvs
theorem KV.merge:∀ {more:List (aF×V)}{rs:List (aF×SK)}{kvs:List (aF×V)}{vs:List (aF×SK)},KV more rs->KV kvs vs->KV (lG kvs more) (merged vs rs):=by
 intro more rs kvs vs r
 unfold KV at r
 induction r generalizing kvs vs with
 | nil=>intro q;exact q
 | @cons p q c d h t a=>
  intro b
  have e:KV (dU kvs p.1 p.2) (stored vs q.1 q.2):=by
   have:=b.put p.1 h.2
   rw [<- h.1];exact this
  exact a e
theorem AY:∀ (more kvs:List (aF×V)),(lG kvs more).length<=kvs.length+more.length
 | [],kvs=>by show kvs.length<=kvs.length+0;omega
 | p::r,kvs=>by
  have a:=AY r (dU kvs p.1 p.2)
  have b:=HN kvs p.1 p.2
  show (lG (dU kvs p.1 p.2) r).length<=_
  rw [Ti];omega
theorem AZ {P:Tj}{w:TH}:∀ {kvs:List (aF×V)}{ws:List (SK×SK)},VV (kvs.map fun d=>(kV d.1,d.2)) ws->∃ rs,Carries (c8 P w) ws rs/\KV kvs rs
 | [],_,r=>by rw [Wb] at r;cases r;exact ⟨[],Xh,.nil⟩
 | p::kvs,_,r=>by
  rw [S5] at r
  cases r with
  | @cons a b g bs h t=>
   obtain ⟨rs,c,q⟩:=AZ (P:=P) (w:=w) t
   obtain ⟨i,e⟩:=b
   exact ⟨(p.1,e)::rs,⟨uW h.1,rfl,c⟩,.cons ⟨rfl,h.2⟩ q⟩
noncomputable def Ia (a:List (TE×TE)):TE:=fun σ H Q=>∀ p,H p=none->rA a σ (aI H p (.dK [])) fun ps b=>b p=some (.dK [])/\∃ kvs:List (aF×V),ps=kvs.map (fun c=>(kV c.1,c.2))/\kvs.length<=15/\Q (.ref p) (aI b p (.dK (lG [] kvs)))
theorem Ib {X:Cx}{pos:UY}{keys:List (Option Expr)}{a:List Expr}{i:List (TE×TE)}(h:i7 X pos keys a i)(d:keys.all (·.isSome)=true)(y:keys.length=a.length)(v:keys≠[])
  (l:keys.length<=15):PE X (.Dict keys a pos) (Ia i):=by
 intro j s R H Q I q
 have A:=I.hok.fresh (SX s.heap.objs.size)
 have o:=I.laid (a:=s.heap.objs.size) (o:=.dK []) (h':=s.heap.push { cls:=.type "dict",data:=.dict #[] }) (t':=s.toks) (fun _ _ q=>SR _ q) (SX _) (HX s.heap I.big)
 refine wpAny_Dict_walk (knd:=c8 X.prog X.w) d y v l (aP (h j _ R _ _ o (q _ A)) fun ws Z ⟨Y,T,n,m,e,g,r,U,K⟩=>?_)
 subst r
 obtain ⟨N,c,M⟩:=AZ (P:=X.prog) (w:=X.w) m
 obtain ⟨z,hd,O,L,p⟩:=HP n.hok e
 cases L
 refine ⟨N,c,p,fun u b E=>⟨.ref s.heap.objs.size,_,?_,rfl,K⟩⟩
 have G:(lG [] g).length<=S8:=by
  have w:=AY g []
  rw [UO] at w
  rw [T3];omega
 have x:∃ q,u.get? s.heap.objs.size=some q:=let ⟨q,_,_,B,_⟩:=b;⟨q,B⟩
 exact q8 n (by rw [e];exact Xh) E x (HR G hd (M.merge .nil) b)
structure M1 (X:Cx)(o:Expr)(m:Str)(apos:UY)(e:Expr)(cpos:UY):Prop where
 base:VN o m X.env (eval o X.env)=eval o X.env
 few:((Wg cpos (TU [e] X.env)).all (fun x=>!x.1)&&(a0t cpos (YQ [] X.env)).all (fun x=>x.1.isSome)
  && decide (([e]:List Expr).length+([]:List WN).length+(if ([]:List WN).isEmpty then 0 else 1)<30))=true
 line:(apos.endLine == cpos.line)=true
 trees:Wg cpos (TU [e] X.env)=[(false,eval e X.env)]
structure M2 (X:Cx)(o:Expr)(m:Str)(apos:UY)(e f:Expr)(cpos:UY):Prop where
 base:VN o m X.env (eval o X.env)=eval o X.env
 few:((Wg cpos (TU [e,f] X.env)).all (fun x=>!x.1)&&(a0t cpos (YQ [] X.env)).all (fun x=>x.1.isSome)
  && decide (([e,f]:List Expr).length+([]:List WN).length+(if ([]:List WN).isEmpty then 0 else 1)<30))=true
 line:(apos.endLine == cpos.line)=true
 trees:Wg cpos (TU [e,f] X.env)=[(false,eval e X.env),(false,eval f X.env)]
noncomputable def IsD (H:Hp)(a:Addr):Prop:=(∃ kvs,Rd H a (.dK kvs))\/∃ kvs,Rd H a (.dT kvs)
section
variable {X:Cx}{a4b:List (Addr×Vu)}{σ:St}{H:Hp}{s:SM}{a:Addr}{y d:V}{u r:SK}{o:Option V}{A:Tv}{E:SK->SM->Prop}
end
section
variable {X:Cx}{o e f:Expr}{apos cpos:UY}{td ty tx:TE}
end
section
variable {X:Cx}{a4b:List (Addr×Vu)}{σ:St}{H:Hp}{s:SM}{a:Addr}{kvs:List (aF×V)}{A:Tv}{E:SK->SM->Prop}
end
section
variable {X:Cx}{a4b:List (Addr×Vu)}{σ:St}{H:Hp}{s:SM}{a:Addr}{y:V}{u:SK}{A:Tv}{E:SK->SM->Prop}
end
end L2
namespace HT
open PySem PyProof.Rows
noncomputable def lexLt:List Int->List Int->Bool
 | [],[]=>false
 | [],_::_=>true
 | _::_,[]=>false
 | x::xs,y::ys=>if x=y then lexLt xs ys else decide (x<y)
theorem lexLt_cons (x y:Int)(xs a:List Int):lexLt (x::xs) (y::a)=if x=y then lexLt xs a else decide (x<y):=rfl
theorem Ic:lexLt [] []=false:=rfl
theorem Ie (y:Int)(a:List Int):lexLt [] (y::a)=true:=rfl
theorem Ig (x:Int)(xs:List Int):lexLt (x::xs) []=false:=rfl
theorem Ih (A:Tv)(s:SM)(a:Int)(t:a2t)(c:Int)(u:a2t):∃ e,ZA A s (.int a t) (.int c u) e/\(e=true↔a=c):=
 ⟨(a == c),Z8 a t c u,by simp⟩
theorem Ii (A:Tv)(s:SM)(a:Int)(t:a2t)(c:Int)(u:a2t)(prog:Tj)(w:TH)(E:SK->SM->Prop)(Q:SK->SM->Prop)(h:Q (.bool (decide (a<c))) s) :
  Tn (Tr prog w) A (richCompare .Lt (.int a t) (.int c u)) Q E s:=
 (ZF h:Tn (Tr prog w) A (Uq .Lt (.int a t) (.int c u)) Q E s)
section
open PySem.SeqAt
open PySem.AutoSeq1 (wpAny_loadPart')
open PySem.MeetsSeq PySem.MeetsSeq2 PySem.MeetsSeq3
theorem Ij (l b:Addr)(items i:Array SK)(n n2:Nat)(dd O:Option Addr)(sl U:Array (Option SK))(ns L:List Int)(X:Wr items.toList ns)(Y:Wr i.toList L) :
  Meets (Builtin.«tuple.__lt__» ⟨[.ref l,.ref b],[]⟩)
   (fun _ R s=>s.heap.get? l=some { cls:=.type "tuple",dict:=dd,data:=.seq items n,slots:=sl }/\s.heap.get? b=some { cls:=.type "tuple",dict:=O,data:=.seq i n2,slots:=U } /\
    R (.ok (.ret (.bool (lexLt ns L)))) s):=
 .of_wp fun B w A R s h=>by
  obtain ⟨K,g,d,N,M⟩:=s;obtain ⟨hl,hb,h⟩:=h
  have f2:=AutoSeq1.sub_tuple_tuple
  have z1:items.size=ns.length:=by rw [<- X.length];simp
  have z2:i.size=L.length:=by rw [<- Y.length];simp
  wp_walk using a3h hl,a3h hb,ZW _ (fun rest b T=>b.1=none/\T=⟨K,g,d,N,M⟩/\∃ (vs ws:List SK)(o m:List Int),rest=vs.zip ws /\
   Wr vs o/\Wr ws m/\o.length+i.size=m.length+items.size/\R (.ok (.ret (.bool (lexLt o m)))) ⟨K,g,d,N,M⟩) _
  case turn=>
   rintro ⟨y,x⟩ rest b T ⟨E,rfl,vs,ws,o,m,r,G,p,j,v⟩
   cases G with
   | nil=>rw [List.zip_nil_left] at r;cases r
   | cons a t H=>
    cases p with
    | nil=>rw [List.zip_nil_right] at r;cases r
    | cons c u I=>
     rw [a1d] at r
     injection r with hyx hrest
     injection hyx with hy hx
     subst hy hx
     rw [lexLt_cons] at v
     simp only [Ti] at j
     obtain ⟨e,he,z⟩:=Ih A.in1 ⟨K,g,d,N,M⟩ a t c u
     refine SG (he B w _ _ ?_)
     cases e with
     | true=>
      rw [if_pos (z.mp rfl)] at v
      wp_walk
      exact ⟨rfl,rfl,_,_,_,_,hrest,H,I,by omega,v⟩
     | false=>
      rw [if_neg (fun q=>absurd (z.mpr q) TC)] at v
      have Q:=Ii A.in1 ⟨K,g,d,N,M⟩ a t c u B w
      wp_walk using Q
      exact ⟨_,rfl,by simpa using v⟩
  case fin=>
   rintro ⟨b1,b2⟩ T ⟨E,rfl,vs,ws,o,m,r,G,p,j,v⟩
   simp only at E
   subst E
   have Z:lexLt o m=decide (items.size<i.size):=by
    cases G with
    | nil=>
     cases p with
     | nil=>
      simp only [UO] at j
      rw [Ic]
      exact (decide_eq_false (by omega)).symm
     | cons c u hw=>
      simp only [UO,Ti] at j
      rw [Ie]
      exact (decide_eq_true (by omega)).symm
    | cons a t Z=>
     cases p with
     | nil=>
      simp only [UO,Ti] at j
      rw [Ig]
      exact (decide_eq_false (by omega)).symm
     | cons c u hw=>
      rw [a1d] at r
      cases r
   rw [Z] at v
   wp_walk
   exact ⟨_,rfl,by simpa [a3f] using v⟩
  case h=>
   exact ⟨rfl,rfl,items.toList,i.toList,ns,L,rfl,X,Y,by omega,h⟩
end
section
variable {prog:Tj}{w:TH}{A:Tv}{E:SK->SM->Prop}{s:SM}
theorem lt_tupInts {l b:Addr}{items a:Array SK}{ns g:List Int}{Q:SK->SM->Prop}(B:a2L s.heap l items)(v:a2L s.heap b a)(y:Wr items.toList ns)(z:Wr a.toList g)
  (G:A.units<UT)(h:Q (.bool (lexLt ns g)) s):Tn (Tr prog w) A (Uq .Lt (.ref l) (.ref b)) Q E s:=by
 obtain ⟨⟨r,u,p,I⟩,q,hc,n,hd⟩:=id B
 obtain ⟨⟨o,j,i,m⟩,e,c,H,d⟩:=id v
 simp only at hc hd c d
 subst hc hd c d
 exact richCompare_meets_room (op:=.Lt) ⟨_,q,rfl⟩ ⟨_,e,rfl⟩ PySem.F.slot_tuple_lt PySem.F.entry_tuple_lt (PySem.F.args_tuple_lt_2 _ _) (Ij l b items a n H u j I m ns g y z)
  ⟨q,e,show Xe (lexLt ns g)≠Value.notImplemented/\Q (.bool (lexLt ns g)) s from ⟨(fun x=>nomatch x),h⟩⟩ G
noncomputable def sIx (n d:Nat):Option Int->Nat
 | none=>d
 | some v=>if v<0 then (v+(n:Int)).toNat else min v.toNat n
theorem sIx_nat (n d k:Nat):sIx n d (some (k:Int))=min k n:=by
 show (if (k:Int)<0 then ((k:Int)+(n:Int)).toNat else min (k:Int).toNat n)=min k n
 rw [if_neg (by omega),UE]
end
end HT
namespace L2
open PySem PySem.Spec PyProof.Rows
noncomputable abbrev TO:=St->Hp->(Option Int->Hp->Prop)->Prop
noncomputable def PO (X:Cx)(e:Option Expr)(t:TO):Prop:=
 ∀ (a4b:List (Addr×Vu))(s:SM)(σ:St)(H:Hp)(Q:Option Int->Hp->Prop),Inv X a4b σ H s->t σ H Q->
  Tn (Tr X.prog X.w) X.A (evalPart e X.env) (fun u b=>∃ o a,Inv X a4b σ a b/\IsPart u o/\Q o a) X.xe s
noncomputable def Ik:TO:=fun _ H Q=>Q none H
noncomputable def Il (t:TE):TO:=fun σ H Q=>t σ H fun x a=>∃ i,x=.int i/\Q (some i) a
theorem uX {ns:List Int}:∀ {us:List SK},Vals (ns.map V.int) us->Wr us ns:=by
 induction ns with
 | nil=>intro us r;rw [Wb] at r;cases r;exact .nil
 | cons n ns a=>
  intro us r
  rw [S5] at r
  cases r with
  | cons b c=>
   obtain ⟨t,e⟩:=b
   subst e
   exact .cons n t (a c)
section
variable {X:Cx}{e:Expr}{te:TE}{lo hi:Option Expr}{tl th:TO}{pos p2:UY}
theorem Im:PO X none Ik:=by
 intro a s b H Q I h
 rw [evalPart_none]
 exact SU ⟨none,H,I,.none,h⟩
theorem Io (h:PE X e te):PO X (some e) (Il te):=by
 intro a s j H Q I hw
 rw [evalPart_some]
 refine aP (h a s j H _ I hw) fun u l ⟨x,b,c,g,d⟩=>?_
 obtain ⟨i,rfl,q⟩:=d
 obtain ⟨t,rfl⟩:=g
 exact ⟨some i,b,c,.int i t,q⟩
noncomputable def SlR (X:Cx)(r:V->Option Int->Option Int->Hp->VK->Prop):Prop:=
 ∀ (a4b:List (Addr×Vu))(s:SM)(σ:St)(H:Hp)(x:V)(v b c:SK)(lo hi:Option Int)(a:Addr)(Q:VK),Inv X a4b σ H s->RelV x v->s.heap.IsSliceOf a b c .none->IsPart b lo->IsPart c hi->r x lo hi H Q->
  ∃ T id,a2m (.type T) "__getitem__" = pure (some (.builtin id))/\s.TypeIs v T/\Tn (Tr X.prog X.w) X.A (Zx v (.ref a)) (EP X a4b σ Q) X.xe s
theorem SlR.or {r g:V->Option Int->Option Int->Hp->VK->Prop}(h:SlR X r)(h':SlR X g):SlR X (fun x lo hi H Q=>r x lo hi H Q\/g x lo hi H Q):=by
 intro a s n H x v l m lo hi j Q I i b c d q
 rcases q with q|q
 ·exact h a s n H x v l m lo hi j Q I i b c d q
 ·exact h' a s n H x v l m lo hi j Q I i b c d q
noncomputable def Ip (r:V->Option Int->Option Int->Hp->VK->Prop)(te:TE)(tl th:TO):TE:=fun σ H Q=>te σ H fun x a=>tl σ a fun l b=>th σ b fun u c=>r x l u c Q
theorem Iq {r:V->Option Int->Option Int->Hp->VK->Prop}(G:SlR X r)(A:PE X e te)(E:PO X lo tl)(L:PO X hi th):PE X (.Subscript e (.Slice lo hi none p2) pos) (Ip r te tl th):=by
 intro a s d H Q I h
 refine a2u (aP (A a s d H _ I h) fun v Z ⟨x,m,o,Y,O⟩=>?_)
 refine wpAny_Slice (aP (E a Z d m _ o O) fun g s2 ⟨l,n,p,M,R⟩=>aP (L a s2 d n _ p R) fun i c ⟨u,j,w,N,U⟩=>?_)
 rw [evalPart_none]
 refine SU ?_
 have y:Inv X a d j { c with heap:=c.heap.push { cls:=.type "slice",data:=.fields #[g,i,.none] } }:=w.kept (t':=c.toks) fun b ob q=>SR _ q
 obtain ⟨T,id,z,K,B⟩:=G a { c with heap:=c.heap.push { cls:=.type "slice",data:=.fields #[g,i,.none] } } d j x v g i l u c.heap.objs.size Q y Y (a2M ..) M N U
 show Tn (Tr X.prog X.w) X.A (a0K e (.Slice lo hi none p2) v (.ref c.heap.objs.size)) (EP X a d Q) X.xe { c with heap:=c.heap.push { cls:=.type "slice",data:=.fields #[g,i,.none] } }
 exact tail_any (ops:=[.ref c.heap.objs.size,v]) K z B (by with_unfolding_all rfl)
noncomputable def jZ (xs:List V)(lo hi:Option Int):List V:=(xs.drop (HT.sIx xs.length 0 lo)).take (HT.sIx xs.length xs.length hi - HT.sIx xs.length 0 lo)
theorem Ir (xs:List V)(lo hi:Option Int):(jZ xs lo hi).length<=xs.length:=by
 unfold jZ
 rw [Tu,T8]
 omega
end
end L2
namespace L2
open PySem PySem.Spec PyProof.Rows
noncomputable def lH (n:Nat)(i:Int):Option Nat:=if 0<=i then (if i<n then some i.toNat else none) else if -(n:Int)<=i then some (i+n).toNat else none
noncomputable def atI {a:Type}(xs:List a)(i:Int):Option a:=(lH xs.length i).bind fun j=>xs[j]?
theorem Iu {n:Nat}{i:Int}{j:Nat}(h:lH n i=some j):seqIndex? i n=some j/\j<n/\-(n:Int)<=i/\i<n:=by
 unfold lH at h
 by_cases b:0<=i
 ·rw [if_pos b] at h
  by_cases a:i<n
  ·rw [if_pos a] at h
   have e:i.toNat=j:=TL h
   exact ⟨by rw [seqIndex_of b a,e],by omega,by omega,a⟩
  ·rw [if_neg a] at h;cases h
 ·rw [if_neg b] at h
  by_cases a:-(n:Int)<=i
  ·rw [if_pos a] at h
   have e:(i+n).toNat=j:=TL h
   exact ⟨by rw [seqIndex_neg (by omega) a,e],by omega,a,by omega⟩
  ·rw [if_neg a] at h;cases h
theorem uY {a:Type}{xs:List a}{i:Int}{v:a}(h:atI xs i=some v):∃ j,seqIndex? i xs.length=some j/\xs[j]? = some v/\j<xs.length/\-(xs.length:Int)<=i/\i<xs.length:=by
 unfold atI at h
 cases e:lH xs.length i with
 | none=>rw [e] at h;cases h
 | some j=>
  rw [e] at h
  obtain ⟨b,c,d,g⟩:=Iu e
  exact ⟨j,b,h,c,d,g⟩
noncomputable def uZ (b:Expr):Prop:=∀ o i,Z6 b false o i=operate [o,i] (Zx o i)
noncomputable def IxR (X:Cx)(r:R2):Prop:=
 ∀ (b a:Expr)(a4b:List (Addr×Vu))(s:SM)(σ:St)(H:Hp)(x y:V)(v u:SK)(Q:VK),Inv X a4b σ H s->RelV x v->RelV y u->r x y H Q->
  Z6 a false v u=operate [v,u] (Zx v u)->Tn (Tr X.prog X.w) X.A (a0K b a v u) (EP X a4b σ Q) X.xe s
noncomputable def MtR (X:Cx)(id:String)(r:V->List V->Hp->VK->Prop):Prop:=
 ∀ (a4b:List (Addr×Vu))(s:SM)(σ:St)(H:Hp)(x:V)(xs:List V)(v:SK)(us:List SK)(Q:VK),Inv X a4b σ H s->RelV x v->Vals xs us->r x xs H Q->
  Tn (Tr X.prog X.w) X.A (call (.builtin id) (v::us)) (EP X a4b σ Q) X.xe s
section
variable {X:Cx}{a b:Expr}{ta tb:TE}{pos:UY}
theorem IxR.or {r i:R2}(h:IxR X r)(h':IxR X i):IxR X (fun x y H Q=>r x y H Q\/i x y H Q):=by
 intro d c e s m H x y v u Q I j l q g
 rcases q with q|q
 ·exact h d c e s m H x y v u Q I j l q g
 ·exact h' d c e s m H x y v u Q I j l q g
theorem MtR.or {id:String}{r d:V->List V->Hp->VK->Prop}(h:MtR X id r)(h':MtR X id d):MtR X id (fun x xs H Q=>r x xs H Q\/d x xs H Q):=by
 intro c s j H x xs v i Q I g e q
 rcases q with q|q
 ·exact h c s j H x xs v i Q I g e q
 ·exact h' c s j H x xs v i Q I g e q
theorem Iw {r:R2}(j:IxR X r)(g:PE X a ta)(i:PE X b tb)(l:uZ b):PE X (.Subscript a b pos) (pA r ta tb):=by
 intro c s p H Q I h
 exact a2u (uL g i I h fun v u o x y d e m n q=>j a b c o p d x y v u Q e m n q (l _ _))
noncomputable def A0 (K:SJ):R2:=fun x y H Q=>∃ p xs i v,x=.ref p/\y=.int i/\SqL K H p xs/\atI xs i=some v/\Q v H
noncomputable def A1 (K:SJ):R2:=fun x y H Q=>∃ p xs i v,x=.ref p/\y=.int i/\SqT K H p xs/\atI xs i=some v/\Q v H
noncomputable def A2:R2:=fun x y H Q=>∃ z i c,x=.str z/\y=.int i/\z.length<=S8/\atI z.cps.toList i=some c/\Q (.str ⟨#[c]⟩) H
theorem ix_list:IxR X (A0 X.K):=by
 intro o n c s G H x y v u Q I T U h E
 obtain ⟨p,xs,i,z,rfl,rfl,R,N,q⟩:=h
 cases T
 obtain ⟨t,rfl⟩:=U
 obtain ⟨g,r,l,hz⟩:=I.list R
 obtain ⟨j,d,K,Z,L,M⟩:=uY N
 obtain ⟨w,A,m⟩:=r.get K
 have O:=r.length
 have hn:=mZ
 have fin:EP X c G Q w s:=⟨z,H,I,m,q⟩
 by_cases B:0<=i
 ·have e:i.toNat=j:=by
   rw [seqIndex_of B M] at d
   exact TL d
  exact item_listR l.isList B (by omega) (by rw [e];simpa using A) fin E
 ·have e:(i+(g.toArray.size:Int)).toNat=j:=by
   rw [seqIndex_neg (by omega) L] at d
   rw [SW,<- O]
   exact TL d
  exact a1i (x:=w) l.isList.typeIs a2D.lookup
   (wpAny_getItem_list_neg (Q:=fun r Y=>r=w/\EP X c G Q r Y) l.isList (by omega) (by rw [SW]<;>omega) (by omega) (by rw [e];simpa using A) ⟨rfl,fin⟩) E
theorem ix_tup:IxR X (A1 X.K):=by
 intro g e c s m H x y v u Q I M N h K
 obtain ⟨p,xs,i,z,rfl,rfl,G,B,q⟩:=h
 cases M
 obtain ⟨t,rfl⟩:=N
 obtain ⟨L,r,l,Z⟩:=I.tuple G
 obtain ⟨j,o,A,R,T,U⟩:=uY B
 obtain ⟨w,n,d⟩:=r.get A
 have E:=r.length
 have Y:=mZ
 have fin:EP X c m Q w s:=⟨z,H,I,d,q⟩
 exact a1i (x:=w) l.typeIs slot_tuple_getitem.lookup
  (getItem_tuple (j:=j) (Q:=fun r O=>r=w/\EP X c m Q r O) l (by omega) (by omega) (by rw [SW,<- E];exact o) (by simpa using n) ⟨rfl,fin⟩) K
theorem Iy:IxR X A2:=by
 intro e d l s O H x y v u Q I E G h B
 obtain ⟨z,i,c,rfl,rfl,M,w,q⟩:=h
 obtain ⟨t,rfl⟩:=E
 obtain ⟨N,rfl⟩:=G
 obtain ⟨j,g,o,K,p,r⟩:=uY w
 have A:z.cps.toList.length=z.length:=by simp [Str.length]
 rw [A] at g p r
 have L:=mZ
 exact tail_any (typeIs_str s z t) slot_str_getitem.lookup (getItem_str (c:=c) (by
  have m:decide (i < -(2 ^ 63:Int))=false:=decide_eq_false (by omega)
  have n:decide (i >= 2 ^ 63)=false:=decide_eq_false (by omega)
  rw [m,n,a2x]) (by rw [g];simpa using o) ⟨.str ⟨#[c]⟩,H,I.tok _,⟨_,rfl⟩,q⟩) B
noncomputable def A3 (K:SJ):R2:=fun x y H Q=>A0 K x y H Q\/A1 K x y H Q\/A2 x y H Q
theorem Iz:IxR X (A3 X.K):=ix_list.or (ix_tup.or Iy)
theorem Inv.lst {a4b:List (Addr×Vu)}{σ:St}{H:Hp}{s:SM}{p:Addr}{xs:List V}(I:Inv X a4b σ H s)(h:H p=some (.lst xs)) :
  ∃ (c:List SK)(n:Nat),Vals xs c/\s.heap.get? p=some { cls:=.type "list",data:=.seq c.toArray n }/\xs.length<=S8:=by
 obtain ⟨z,c,n,r,e⟩:=I.hok p _ h
 exact ⟨c,n,r,e,z⟩
theorem IA (lo c:Option Int)(n:Nat):(XU lo c none n).1=((HT.sIx n 0 lo:Nat):Int)/\(XU lo c none n).2.1=((HT.sIx n n c:Nat):Int)/\(XU lo c none n).2.2=1:=by
 refine ⟨?_,?_,rfl⟩
 ·cases lo with
  | none=>simp [XU,HT.sIx]
  | some i=>
   simp only [XU,HT.sIx,a1b,show (1:Int)>0 by decide,if_true]
   by_cases h:i<0
   ·simp only [h,if_true]<;>omega
   ·simp only [h,if_false]<;>omega
 ·cases c with
  | none=>simp [XU,HT.sIx]
  | some i=>
   simp only [XU,HT.sIx,a1b,show (1:Int)>0 by decide,if_true]
   by_cases h:i<0
   ·simp only [h,if_true]<;>omega
   ·simp only [h,if_false]<;>omega
theorem IB (c:List SK)(lo d:Option Int):slicePick c.toArray lo d none=((c.drop (HT.sIx c.length 0 lo)).take (HT.sIx c.length c.length d - HT.sIx c.length 0 lo)).toArray:=by
 obtain ⟨e,g,h⟩:=IA lo d c.toArray.size
 unfold slicePick
 rw [e,g,h]
 simp only [sliceRange_one,pick_run,SW]<;>rfl
noncomputable def u3 (K:SJ):V->Option Int->Option Int->Hp->VK->Prop:=fun x lo c H Q=>∃ a xs,x=.ref a/\SqL K H a xs/\∀ p,H p=none->Q (.ref p) (aI H p (.lst (jZ xs lo c)))
theorem IC:SlR X (u3 X.K):=by
 intro j s E H x v A B e g z Q I w l p u h
 obtain ⟨a,c,rfl,m,q⟩:=h
 cases w
 obtain ⟨o,r,i,n⟩:=I.list m
 have d:=r.length
 refine ⟨"list",_,a2D.lookup,i.isList.typeIs,?_⟩
 refine wpAny_getItem_list_slice i.isList l p u .none (by simp) ?_ (by rw [SW]<;>omega)
 rw [IB,<- d]
 refine ⟨.ref s.heap.objs.size,_,I.laid (t':=s.toks) (o:=.lst (jZ c e g)) (fun b y q=>SR _ q) (SX _) ?_,rfl,q _ (I.hok.fresh (SX _))⟩
 exact ⟨TQ (Ir c e g) n,_,0,(r.drop (HT.sIx c.length 0 e)).take (HT.sIx c.length c.length g - HT.sIx c.length 0 e),Te _ rfl⟩
theorem A4:OpR X (Uq .NotIn) (fun x y H Q=>∃ i j,x=.str i/\y=.str j/\Q (.bl (!(!(Uy j i 0 j.length 1).isEmpty))) H):=by
 intro c s l H x y v u Q I d e h
 obtain ⟨i,j,rfl,rfl,q⟩:=h
 obtain ⟨t,rfl⟩:=d
 obtain ⟨g,rfl⟩:=e
 exact notIn_str ⟨.bl _,H,I,rfl,q⟩
theorem call_len_seq:CallR X (.builtin "len") (fun xs H Q=>∃ p d,xs=[.ref p]/\(SqL X.K H p d\/SqT X.K H p d)/\Q (.int d.length) H):=by
 intro l s w H xs v Q I r h
 obtain ⟨p,d,rfl,e,q⟩:=h
 obtain ⟨u,rfl,n⟩:=fU r
 cases n
 have o:=mZ
 rcases e with e|e
 ·obtain ⟨g,j,i,m⟩:=I.list e
  have c:=j.length
  exact Calls.call_len_list i.isList (by simp only [SW]<;>omega) ⟨.int d.length,H,I.tok _,⟨s.toks+1,by rw [SW,c]⟩,q⟩
 ·obtain ⟨g,j,i,m⟩:=I.tuple e
  have c:=j.length
  exact len_tuple i (by simp only [SW]<;>omega) ⟨.int d.length,H,I.tok _,⟨s.toks+1,by rw [SW,c]⟩,q⟩
theorem ID:CallR X (.builtin "len") (fun xs H Q=>∃ z,xs=[.str z]/\z.length<=S8/\Q (.int z.length) H):=by
 intro c s i H xs g Q I r h
 obtain ⟨z,rfl,e,q⟩:=h
 obtain ⟨u,rfl,t,rfl⟩:=fU r
 have d:=mZ
 exact len_str (by omega) ⟨.int z.length,H,I.tok _,⟨_,rfl⟩,q⟩
theorem CallR.or {f:SK}{r d:List V->Hp->VK->Prop}(h:CallR X f r)(h':CallR X f d):CallR X f (fun xs H Q=>r xs H Q\/d xs H Q):=by
 intro c s i H xs g Q I e q
 rcases q with q|q
 ·exact h c s i H xs g Q I e q
 ·exact h' c s i H xs g Q I e q
theorem call_list_of:CallR X (.type "list") (fun xs H Q=>∃ p g,xs=[.ref p]/\(SqL X.K H p g\/SqT X.K H p g)/\∀ l,H l=none->Q (.ref l) (aI H l (.lst g))):=by
 intro w s B H xs E Q I r h
 obtain ⟨p,g,rfl,j,q⟩:=h
 obtain ⟨u,rfl,A⟩:=fU r
 cases A
 have fin:∀ (c:List SK),Vals g c->g.length<=S8->∀ (h':Uj)(c':Nat),(∀ b z,s.heap.get? b=some z->h'.get? b=some z)->
   h'.get? s.heap.objs.size=some { cls:=.type "list",dict:=none,data:=.seq c.toArray c',slots:=#[] }->EP X w B Q (.ref s.heap.objs.size) { s with heap:=h' }:=fun c d m h' c' v e=>
  ⟨.ref s.heap.objs.size,_,I.laid (t':=s.toks) v (SX _) (show ObjOk X.prog X.w _ h' _ (.lst g) from ⟨m,c,c',d,e⟩),rfl,q _ (I.hok.fresh (SX _))⟩
 rcases j with j|j
 ·obtain ⟨c,d,y,m⟩:=I.list j
  have i:=d.length
  obtain ⟨o,x,hc,n,hd⟩:=y.isList
  exact call_list_seq p (.inl rfl) x hc hd (fun h' c' v e=>fin c d m h' c' v e) (by simp only [SW]<;>omega)
 ·obtain ⟨c,d,y,m⟩:=I.tuple j
  have i:=d.length
  obtain ⟨o,x,hc,n,hd⟩:=y
  exact call_list_seq p (.inr rfl) x hc hd (fun h' c' v e=>fin c d m h' c' v e) (by simp only [SW]<;>omega)
theorem A5:CallR X (.type "tuple") (fun xs H Q=>∃ p d,xs=[.ref p]/\((SqL X.K H p d/\∀ l,H l=none->Q (.ref l) (aI H l (.tup d)))\/(SqT X.K H p d/\Q (.ref p) H))):=by
 intro g s y H xs E Q I r h
 obtain ⟨p,d,rfl,h⟩:=h
 obtain ⟨u,rfl,B⟩:=fU r
 cases B
 rcases h with ⟨j,q⟩|⟨j,q⟩
 ·obtain ⟨c,n,m,x⟩:=I.list j
  have w:=n.length
  refine call_tuple_list m.isList (fun i A=>?_) (by simp only [SW]<;>omega)
  have v:Inv X g y H { s with heap:=i }:=I.kept (t':=s.toks) A
  have z:Inv X g y (aI H i.objs.size (.tup d)) { s with heap:=i.push { cls:=.type "tuple",data:=.seq c.toArray } }:=
   v.laid (t':=s.toks) (fun b o e=>SR _ e) (SX _) (show ObjOk X.prog X.w _ _ _ (.tup d) from ⟨x,c,n,TupN.new _ _⟩)
  exact ⟨.ref i.objs.size,_,z,rfl,q _ (v.hok.fresh (SX _))⟩
 ·obtain ⟨c,n,m,x⟩:=I.tuple j
  exact call_tuple_same m ⟨.ref p,H,I,rfl,q⟩
noncomputable def rB (K:SJ)(T:String)(x:V)(H:Hp):Prop:=match x with
 | .str _=>T = "str"
 | .int _=>T = "int"
 | .ref p=>(T = "list"/\∃ d,SqL K H p d)\/(T = "tuple"/\∃ o,K.lookup p=some o/\o.cls=.type "tuple"/\o.dict=none) \/
   (T = "dict"/\((∃ c,H p=some (.dK c))\/∃ c,H p=some (.dT c)))\/(T = "set"/\∃ S n,H p=some (.set S n))
 | _=>False
theorem A6 {a4b:List (Addr×Vu)}{σ:St}{H:Hp}{s:SM}{T:String}{x:V}{v:SK}(I:Inv X a4b σ H s)(r:RelV x v)(ty:rB X.K T x H) :
  s.TypeIs v T/\∀ a,v=.ref a->∃ l,s.heap.get? a=some l/\l.dict=none:=by
 cases x with
 | str z=>
  obtain ⟨t,rfl⟩:=r
  cases (show T = "str" from ty)
  exact ⟨typeIs_str s z t,fun _ e=>nomatch e⟩
 | int i=>
  obtain ⟨t,rfl⟩:=r
  cases (show T = "int" from ty)
  exact ⟨typeIs_int s i t,fun _ e=>nomatch e⟩
 | ref p=>
  cases r
  rcases ty with ⟨rfl,w,q⟩|⟨rfl,o,d,hc,hd⟩|⟨rfl,d⟩|⟨rfl,S,n,d⟩
  ·obtain ⟨u,_,m,_⟩:=I.list q
   refine ⟨m.isList.typeIs,fun a e=>?_⟩
   cases e
   obtain ⟨o,n,e,c,hd,_⟩:=m
   exact ⟨o,e,hd⟩
  ·refine ⟨⟨o,I.kIn p o d,hc⟩,fun a e=>?_⟩
   cases e
   exact ⟨o,I.kIn _ o d,hd⟩
  ·have z:∃ o,s.heap.get? p=some o/\o.ExactDict:=by
    rcases d with ⟨j,d⟩|⟨j,d⟩
    ·obtain ⟨_,_,_,_,o,_,_,e,g,_⟩:=I.hok p _ d
     exact ⟨o,e,g⟩
    ·obtain ⟨_,_,_,_,o,_,_,e,g,_⟩:=I.hok p _ d
     exact ⟨o,e,g⟩
   obtain ⟨o,e,g⟩:=z
   refine ⟨⟨o,e,g.1⟩,fun a h=>?_⟩
   cases h
   exact ⟨o,e,g.2.1⟩
  ·obtain ⟨o,_,_,_,e,g,_⟩:=I.hok p _ d
   refine ⟨⟨o,e,g.1⟩,fun a h=>?_⟩
   cases h
   exact ⟨o,e,g.2.1⟩
 | _=>exact Vh ty
noncomputable def A7 (K:SJ)(T:String)(r:V->List V->Hp->VK->Prop)(to:TE):TE:=fun σ H Q=>to σ H fun x c=>rB K T x c/\r x [] c Q
noncomputable def A8 (K:SJ)(T:String)(r:V->List V->Hp->VK->Prop)(to:TE)(t:TA):TE:=fun σ H Q=>to σ H fun x c=>rB K T x c/\t σ c fun xs d=>r x xs d Q
variable {o e:Expr}{es:List Expr}{to:TE}{t:TA}{name:Str}{apos cpos:UY}{T id:String}{r:V->List V->Hp->VK->Prop}
theorem IE (y:PlainAttrs T)(slot:Slot T name id)(i:a1h (.builtin id)=pure (.type "method_descriptor")) (u:MtR X id r)(w:PE X o to)
  (c:VN o name X.env (eval o X.env)=eval o X.env:=by rfl)(d:(apos.endLine == cpos.line)=true:=by rfl):PE X (.Call (.Attribute o name apos) [] [] cpos) (A7 X.K T r to):=by
 intro g s m H Q I h
 refine Wf c d (aP (w g s m H _ I h) fun v A ⟨x,n,j,l,ty,z⟩=>?_)
 obtain ⟨p,q⟩:=A6 j l ty
 exact ⟨T,id,y,slot,i,p,q,Vi rfl (WD (u g A m n x [] v [] Q j l .nil z))⟩
theorem IF (L:PlainAttrs T)(slot:Slot T name id)(l:a1h (.builtin id)=pure (.type "method_descriptor")) (E:MtR X id r)(G:PE X o to)(B:PA X (e::es) t)
  (g:VN o name X.env (eval o X.env)=eval o X.env:=by rfl)
  (j:((Wg cpos (TU (e::es) X.env)).all (fun x=>!x.1)&&(a0t cpos (YQ [] X.env)).all (fun x=>x.1.isSome)
   && decide ((e::es).length+([]:List WN).length+(if ([]:List WN).isEmpty then 0 else 1)<30))=true:=by rfl)
  (i:(apos.endLine == cpos.line)=true:=by rfl)(K:TU (e::es) X.env=(false,eval e X.env)::TU es X.env:=by rfl)(c:(Wg cpos (TU es X.env)).any (·.1)=false:=by rfl) :
  PE X (.Call (.Attribute o name apos) (e::es) [] cpos) (A8 X.K T r to t):=by
 intro d s m H Q I h
 refine a1g g j i rfl (aP (G d s m H _ I h) fun v R ⟨x,u,n,q,ty,M⟩=>?_)
 obtain ⟨z,A⟩:=A6 n q ty
 refine ⟨T,id,L,slot,l,z,A,?_⟩
 have p:=B cpos d R m u _ n M
 rw [K] at p ⊢
 refine Vi (by show (false||(Wg cpos (TU es X.env)).any (·.1))=false;rw [c]<;>rfl) (a0A ?_)
 exact aP p fun Y U ⟨Z,w,y,O,N⟩=>E d U m w x Z v Y Q y q O N
end
end L2
namespace L2
open PySem PySem.Spec PyProof.Rows
noncomputable def j6 (X:Cx)(id:String)(r:V->List V->Hp->VK->Prop):Prop:=
 ∀ (a4b:List (Addr×Vu))(s:SM)(σ:St)(H:Hp)(x:V)(xs:List V)(v:SK)(us:List SK)(Q:VK),Inv X a4b σ H s->RelV x v->Vals xs us->r x xs H Q->
  Tn (Tr X.prog X.w) X.A (call (.builtin id) (v::us)) (EP X a4b σ Q) X.xe s
theorem Vals.one:∀ {x:V}{us:List SK},Vals [x] us->∃ u,us=[u]/\RelV x u
 | _,_,.cons r .nil=>⟨_,rfl,r⟩
theorem Vals.zero:∀ {us:List SK},Vals [] us->us=[]
 | _,.nil=>rfl
theorem Vals.dropLast {xs:List V}{us:List SK}(h:Vals xs us):Vals xs.dropLast us.dropLast:=by
 induction h with
 | nil=>exact .nil
 | cons r t a=>
  cases t with
  | nil=>exact .nil
  | cons q b=>exact .cons r a
theorem Vals.eraseIdx:∀ {xs:List V}{us:List SK}(i:Nat),Vals xs us->Vals (xs.eraseIdx i) (us.eraseIdx i)
 | _,_,_,.nil=>.nil
 | _,_,0,.cons _ t=>t
 | _,_,i+1,.cons r t=>.cons r (Vals.eraseIdx i t)
theorem Vals.reverse {xs:List V}{us:List SK}(h:Vals xs us):Vals xs.reverse us.reverse:=by
 induction h with
 | nil=>exact .nil
 | cons r t a=>rw [a1w,a1w];exact Vals.append a (.cons r .nil)
theorem IG {d:Type}(l:List d):l.eraseIdx (l.length - 1)=l.dropLast:=by
 induction l with
 | nil=>rfl
 | cons a r c=>
  cases r with
  | nil=>rfl
  | cons b r=>
   have e:(a::b::r).length - 1=((b::r).length - 1)+1:=by
    have g:(a::b::r).length=r.length+2:=rfl
    have h:(b::r).length=r.length+1:=rfl
    omega
   rw [e,WX,c]
   all_goals rfl
section
variable {X:Cx}{a4b:List (Addr×Vu)}{σ:St}{H:Hp}{s:SM}{l b:Addr}{xs ys zs:List V}
theorem Inv.lset {a its':List SK}{n:Nat}{f:Array SK->Array SK}{t':Nat}(I:Inv X a4b σ H s)(c:H l=some (.lst xs))
  (e:s.heap.get? l=some { cls:=.type "list",data:=.seq a.toArray n }) (g:f a.toArray=its'.toArray)(i:Vals ys its')(hz:ys.length<=S8) :
  Inv X a4b σ (aI H l (.lst ys)) { s with heap:=s.heap.update l (UD f),toks:=t' }:=by
 have q:=PySem.IsL.update e f
 rw [g] at q
 refine I.write (x:=l) (e:=l) (by rw [c];exact trivial) (.inl rfl) (fun j u d h=>(UX s.heap (UD f) (UM d)).trans h) ⟨_,q⟩ ?_
 exact ⟨hz,its',_,i,q⟩
theorem Inv.lnew {a:List SK}{t':Nat}(I:Inv X a4b σ H s)(c:Vals ys a)(hz:ys.length<=S8) :
  Inv X a4b σ (aI H s.heap.objs.size (.lst ys)) { s with heap:=s.heap.push { cls:=.type "list",data:=.seq a.toArray },toks:=t' }:=
 I.laid (fun _ _ q=>SR _ q) (SX _) ⟨hz,a,0,c,Te _ rfl⟩
theorem Inv.fresh (I:Inv X a4b σ H s):H s.heap.objs.size=none:=I.hok.fresh (SX _)
theorem Inv.lstM (I:Inv X a4b σ H s)(c:H l=some (.lst xs)):xs.length<=S8/\∃ (a:List SK)(n:Nat),Vals xs a/\xs.length=a.length/\s.heap.get? l=some { cls:=.type "list",data:=.seq a.toArray n }:=by
 obtain ⟨z,a,n,r,e⟩:=I.hok l _ c
 exact ⟨z,a,n,r,r.length,e⟩
theorem IH {n:Nat}(h:n<=S8):XH n=false:=by
 unfold XH
 exact decide_eq_false (by omega)
end
section
variable {X:Cx}
noncomputable def A9:V->List V->Hp->VK->Prop:=fun x vs H Q=>∃ l xs y,x=.ref l/\vs=[y]/\H l=some (.lst xs)/\xs.length<S8/\Q .non (aI H l (.lst (xs++[y])))
theorem Ba:j6 X "list.append" A9:=by
 intro c s A H x p v o Q I i g h
 obtain ⟨l,w,y,rfl,rfl,b,m,q⟩:=h
 cases i
 obtain ⟨u,rfl,d⟩:=g.one
 obtain ⟨z,a,n,r,j,e⟩:=I.lstM b
 refine a0q F.slot_list_append ⟨_,e,rfl⟩ F.entry_list_append (F.args_list_append_2 _ _) (PySem.list_append l a.toArray n u (by rw [SW];omega)) ⟨e,?_⟩
 refine ⟨.non,_,I.lset (its':=a++[u]) b e (by simp) (r.append (.cons d .nil)) ?_,rfl,q⟩
 rw [SV,VL]
 omega
noncomputable def Bb:V->List V->Hp->VK->Prop:=fun x vs H Q=>∃ l b xs a,x=.ref l/\vs=[.ref b]/\H l=some (.lst xs)/\H b=some (.lst a)/\xs.length+a.length<=S8/\Q .non (aI H l (.lst (xs++a)))
theorem II:j6 X "list.extend" Bb:=by
 intro j s T H x M v L Q I E B h
 obtain ⟨l,b,N,R,rfl,rfl,i,o,K,q⟩:=h
 cases E
 obtain ⟨u,rfl,A⟩:=B.one
 cases A
 obtain ⟨z,c,n,r,G,e⟩:=I.lstM i
 obtain ⟨O,a,w,y,p,m⟩:=I.lstM o
 have g:c.toArray.size+a.toArray.size<=S8:=by rw [SW,SW];omega
 have d:¬ (!c.toArray.isEmpty&&XH (c.toArray.size+a.toArray.size))=true:=by
  rw [IH g,a2i]
  exact TC
 refine a0q F.slot_list_extend ⟨_,e,rfl⟩ F.entry_list_extend (F.args_list_extend_2 _ _)
  (AutoSeq1.list_extend_list_list_0 l c.toArray n b a.toArray w d (by rw [SW];omega) (by omega)) ⟨e,m,?_⟩
 refine ⟨.non,_,I.lset (its':=c++a) i e (by simp) (r.append y) ?_,rfl,q⟩
 rw [SV]
 omega
noncomputable def Bc:V->List V->Hp->VK->Prop:=fun x vs H Q=>∃ l xs y,x=.ref l/\vs=[]/\H l=some (.lst xs)/\xs[xs.length - 1]? = some y/\Q y (aI H l (.lst xs.dropLast))
theorem IJ:j6 X "list.pop" Bc:=by
 intro g s G H x B v A Q I w p h
 obtain ⟨l,E,y,rfl,rfl,d,m,q⟩:=h
 cases w
 have b:=p.zero
 subst b
 obtain ⟨z,a,n,r,i,e⟩:=I.lstM d
 obtain ⟨u,j,o⟩:=r.get m
 have c:a.toArray[a.toArray.size - 1]? = some u:=by
  show a.toArray[a.length - 1]? = some u
  rw [<- Ul,<- i]
  exact j
 refine a0q F.slot_list_pop ⟨_,e,rfl⟩ F.entry_list_pop (F.args_list_pop_1 _) (MeetsSeq.list_pop_last l a.toArray n u c (by rw [SW];omega)) ⟨e,?_⟩
 refine ⟨y,_,I.lset (its':=a.dropLast) d e ?_ r.dropLast ?_,o,q⟩
 ·show a.toArray.eraseIdxIfInBounds (a.toArray.size - 1)=a.dropLast.toArray
  rw [SW,List.eraseIdxIfInBounds_toArray,IG]
 ·rw [List.length_dropLast]
  omega
noncomputable def Bd:R2:=fun x y H Q=>∃ l b xs a,x=.ref l/\y=.ref b/\H l=some (.lst xs)/\H b=some (.lst a)/\xs.length+a.length<=S8/\∀ p,H p=none->Q (.ref p) (aI H p (.lst (xs++a)))
theorem IK:OpR X (WJ .Add) Bd:=by
 intro d s N H x y v u Q I w A h
 obtain ⟨l,b,K,M,rfl,rfl,m,j,E,q⟩:=h
 cases w
 cases A
 obtain ⟨z,c,n,r,B,e⟩:=I.lstM m
 obtain ⟨L,a,G,p,o,g⟩:=I.lstM j
 refine PySem.P.add_list e g ?_ (by rw [SW,SW];omega)
 have i:c.toArray++a.toArray=(c++a).toArray:=by simp
 rw [i]
 exact ⟨.ref _,_,I.lnew (t':=s.toks) (r.append p) (by rw [SV];omega),rfl,q _ I.fresh⟩
end
section
variable {prog:Tj}{w:TH}{A:Tv}{E:SK->SM->Prop}{s:SM}
end
section
variable {X:Cx}
end
end L2
namespace Att
open PySem PySem.W PySem.Calls PyProof.Rows
theorem IL {P:Params}{h:Uj}:∀ (ns:List Int)(vs:List SK),WellAll P h vs (ns.map XC)->Wr vs ns:=by
 intro ns
 induction ns with
 | nil=>
  intro vs w
  rw [Wb] at w
  cases w
  exact .nil
 | cons n ns c=>
  intro vs w
  rw [S5] at w
  cases w with
  | cons a b=>
   cases a
   exact .cons _ _ (c _ b)
theorem script_of {l:OpenLaw}{n:Nat}(x:l.most=some n){P:Params}{h:Uj}{args:List WData}{e:List SK}
  (c:l.row.toRowW.claim.pre args=true)(p:WellAll P h e args) :
  ∃ a s b,e=[S2 a]/\args=[WData.list (b.map XC)]/\h.get? a=some { cls:=.type "list",data:=.seq s.toArray }/\Wr s b/\b.length<=n:=by
 have o:WShape.hasAll [] args [.list .int]=true:=(pre_splitW c).1
 have hc:l.pre.holds [] { args:=args } = true:=(pre_splitW c).2
 obtain ⟨d,r,rfl,u,v⟩:=hasAllW_cons o
 obtain rfl:=hasAllW_nil v
 obtain ⟨E,rfl,w⟩:=hasW_list u
 obtain ⟨b,rfl⟩:=items_int w
 have i:b.length<=n:=by
  unfold OpenLaw.pre at hc
  have j:(WTm.not (.lt (.lit (.int (n:Int))) (.len (.arg 0)))).holds [] { args:=[.list (b.map .int)] } = true:=by
   have j:=(holds_andW hc).1
   rw [x] at j
   exact j
  have m:=condW_of j (w_not (w_lt w_lit (w_len_list (w_arg rfl))))
  rw [SQ] at m
  refine a1T fun q=>?_
  have z:(n:Int)<((b.length:Nat):Int):=by omega
  first
   | (rw [decide_eq_true z] at m;exact absurd m (by decide))
   | (simp at m;omega)
 cases p with
 | cons A B=>
  cases B
  cases A with
  | list y g=>exact ⟨_,_,b,rfl,rfl,y,IL b _ g,i⟩
theorem post_true (l:OpenLaw)(args:List WData):l.row.toRowW.claim.post args (.bool true) args=true:=
 postW_of (r:=l.row.toRowW) (X:=(true == true))
  (show a2G [] (.bool true) .bool=true by first|rfl|decide|simp [a2G,WShape.arms,WShape.armsAll])
  (show (WTm.eq .res (.lit (.bool true))).value [] { args:=args,res:=some (.bool true),after:=args } = some (.bool (true == true)) from w_eq_bool (w_res rfl) w_lit) rfl
section
variable {prog:Tj}{w:TH}{A:Tv}{E:SK->SM->Prop}{s:SM}{K:Frag}
end
end Att
namespace L2
open PySem PySem.Spec PyProof.Rows
theorem Be:∀ {vs:List SK}{ns:List Int},Wr vs ns->Vals (ns.map V.int) vs
 | _,_,.nil=>.nil
 | _,_,.cons n t h=>.cons ⟨t,rfl⟩ (Be h)
noncomputable def Bf (H:Hp):Prop:=∀ b,H b=none\/∃ o xs,H b=some (.frz o (.lst xs))
theorem law_call {P:Tj}{w:TH}{K:SJ}{mg Y:Str->Option SK}{CX:fV}{k:Nat}{Q a:Addr}{fd:VA}{x:Str}{sp:Sp}{c:SM}{vs:List SK}{ns:List Int}
  (KX:K.In c.heap)(E:c.heap.Ns U8 mg)(g:c.heap.Ns a2s Y)(T:∀ x:Str,x ≠ "__name__"->Y x=U4 x) (B:c.heap.NoLimit)(hg:c.gens = #[])
  (N:c.heap.get? a=some { cls:=.type "list",data:=.seq vs.toArray }) (hi:Wr vs ns)(hl:ns.length<=S8)(hr:Room k Zz)
  (F:∀ i:Uj,K.In i->i.Ns U8 mg->FnOk P w K mg i CX k Q fd [x] sp)(y:∀ (s:SM)(u:SK),ZL s fd ⟨[u],[]⟩ [(x,u)])
  (X:∀ H:Hp,Bf H->SqL K H a (ns.map V.int)->sp [.ref a] H (fun v _=>v=.bl true) fun _ _ _=>False)
  (R:∀ H e j,CX [] H c (fun _ _ _=>False) e j->False) :
  Yg (Tr P w) Zz (.call (.ref Q) ⟨[.ref a],[]⟩) (fun r j=>r=.ok (.ret (.bool true))/\OldK c.heap j.heap/\j.os=c.os/\Y1 j.gens) c:=by
 have rv:=Be hi
 have L:=hi.length
  -- from an abstract heap in which nothing but the script may be tracked
 have p:∀ H:Hp,Bf H->SqL K H a (ns.map V.int)->HOk P w H c.heap->(∀ b,H b≠none->b=a)->(H a≠none->K.lookup a=none)->
   Yg (Tr P w) Zz (.call (.ref Q) ⟨[.ref a],[]⟩) (fun r j=>r=.ok (.ret (.bool true))/\OldK c.heap j.heap/\j.os=c.os/\Y1 j.gens) c:=by
  intro H hO hS G hA hK
  have iK:∀ {b:Addr}{o:Vu},c.heap.get? b=some o->H b=none->(i5 c.heap H).get? b=some o:=fun e n=>Gb e n
  have Z:∀ {b:Addr}{o:Vu}{es:Array T6}{ep:Nat},c.heap.get? b=some o->o.data=.dict es ep->H b=none:=fun {b o es ep} e d=>by
   cases q:H b with
   | none=>rfl
   | some u=>
    have O:b=a:=hA b (by rw [q];simp)
    subst O
    rw [N] at e;cases e
    have d':Data.seq vs.toArray _=a4a es ep:=d
    cases d'
  have l:∀ {b:Addr}{m:Str->Option SK},c.heap.Ns b m->(i5 c.heap H).Ns b m:=fun {b m} ⟨o,es,ep,e,d,r⟩=>⟨o,es,ep,iK e (Z e d),d,r⟩
  have A:K.In (i5 c.heap H):=fun b o e=>iK (KX b o e) (by
   cases q:H b with
   | none=>rfl
   | some u=>
    have O:b=a:=hA b (by rw [q];simp)
    subst O
    rw [hK (by rw [q];simp)] at e;cases e)
  have hM:Mod K mg (i5 c.heap H):=⟨A,l E,⟨Y,l g,T⟩,let ⟨mc,h1,h2⟩:=B;⟨mc,l h1,h2⟩⟩
  have e0:Env0 P w K mg (i5 c.heap H) Zz [] c H:=⟨rfl,hM,fun b o e=>Gd e,Y8 (Ga _ _),trivial,fun b g=>absurd (show b∈([]:List Addr) from g) (by simp),G,.of_eq hg⟩
  refine Zy ((F _ A (l E)).run Zz [] c H ⟨[.ref a],[]⟩ [.ref a] [.ref a] _ _ hr e0 (y c (.ref a)) (.cons rfl .nil) (X H hO hS)) fun r j h=>?_
  cases r with
  | error e=>exact (R H e j h).elim
  | ok fl=>
   cases fl with
   | next=>exact Vh h
   | brk=>exact Vh h
   | cont=>exact Vh h
   | ret u=>
    obtain ⟨v,H',os,bare,un,I,r',q⟩:=h
    have q':v=.bl true:=q
    subst q'
    obtain rfl:u=Xe true:=r'
    refine ⟨rfl,OldK.of_keep fun b o e=>?_,os,bare⟩
    cases q:H b with
    | none=>exact un.keep b o e q (by intro z;exact absurd (show b∈([]:List Addr) from z) (by simp)) (by simp)
    | some u=>
     rcases hO b with z|⟨ob,xs,z⟩
     ·rw [q] at z;cases z
     ·have z2:=un.frzs b ob _ z
      obtain ⟨e1,_⟩:=G b _ z
      obtain ⟨e2,_⟩:=I b _ z2
      rw [e] at e1;cases e1
      exact e2
 cases U:K.lookup a with
 | some o=>
    -- the script is one of the module's own objects
  have e:=KX a o U
  rw [N] at e
  cases e
  refine p (fun _=>none) (fun _=>.inl rfl) (.inr ⟨_,vs.toArray,_,U,rfl,rfl,rfl,by rw [SW,L];exact hl,by simpa using rv⟩) (fun b u z=>by have M:(none:Option HO)=some u:=z;cases M) (fun b z=>absurd rfl z) fun z=>absurd rfl z
 | none=>
  refine p (fun b=>if b=a then some (.frz { cls:=.type "list",data:=.seq vs.toArray } (.lst (ns.map V.int))) else none) (fun b=>?_) (.inl (.inr ⟨{ cls:=.type "list",data:=.seq vs.toArray },if_pos rfl⟩)) (fun b u z=>?_) (fun b z=>?_) fun _=>U
  ·by_cases g:b=a
   ·exact .inr ⟨_,_,if_pos g⟩
   ·exact .inl (if_neg g)
  ·by_cases g:b=a
   ·have M:=(if_pos g).symm.trans z
    cases M
    subst g
    exact ⟨N,by rw [SQ];exact hl,vs,_,rv,N⟩
   ·have M:=(if_neg g).symm.trans z
    cases M
  ·by_cases g:b=a
   ·exact g
   ·exact absurd (if_neg g) z
end L2
namespace L2
open PySem PySem.Spec PyProof.Rows
end L2
namespace L2
open PySem PySem.Spec PyProof.Rows
noncomputable def i8 (s:Stmt):Arguments:=match s with
 | .FunctionDef _ a _ _ _ _ _ _ _ _=>a
 | _=>{ posonlyargs:=[],args:=[],vararg:=none,kwonlyargs:=[],kw_defaults:=[],kwarg:=none,defaults:=[] }
noncomputable def fE (s:Stmt):List Stmt:=match s with
 | .FunctionDef _ _ b _ _ _ _ _ _ _=>b
 | _=>[]
noncomputable def b9 (s:Stmt):Wh:=match s with
 | .FunctionDef _ _ _ _ _ _ sc _ _ _=>sc
 | _=>{ kind:=.function,names:=[],isGenerator:=false,isCoroutine:=false }
noncomputable abbrev eS:fV:=fun _ _ _ _ _ _=>False
noncomputable abbrev E0:XK:=fun _ _ _=>False
theorem Bg {X:Cx}:qY eS X E0:=fun _ _ _ _ _ _ _ h=>h.elim
structure Fun (K:SJ)(x qual:Str)(st:Stmt)(f:Addr)(fd:VA):Prop where
 ex:∃ (oc:SK)(od:Option Addr)(kV doc pm:SK)(an:Option Addr)(cdv ct:SK)(osl:Array (Option SK)),
  fd=VO x qual (i8 st) (fE st) (b9 st) .none kV doc pm an cdv ct/\K.lookup f=some ⟨oc,od,.func fd,osl⟩/\Yk K cdv qual=true
 kp:Vf K (.ref f)=true
section
variable {P:Tj}{w:TH}{K:SJ}{mg:Str->Option SK}{base:Uj}
theorem Fun.ok {x a:Str}{st:Stmt}{f:Addr}{g:VA}{N ps:List Str}{k:Nat}{sp:Sp}(F:Fun K x a st f g)(S:FnScope N ps (b9 st))(len:∀ vs H Q E,sp vs H Q E->vs.length=ps.length)
  (c:∀ (b:SK)(A:Tv)(outer:List YU)(s:SM)(H:Hp)(vs:List V)(Q:VK)(E:XK),Room k (A.deeper (envOfC a (b9 st) s.heap.objs.size f b))->sp vs H Q E->
   ∃ t,PSs (i6 eS P w K mg base N a (b9 st) f b A outer s H E).nox (fE st) t/\t { nx:=fun _ i=>Q .non i,rt:=Q } (start N vs) H):FnOk P w K mg base eS (k+1) f g ps sp:=by
 obtain ⟨p,r,kV,j,u,o,b,ct,n,rfl,m,d⟩:=F.ex
 refine HK m d S len fun A outer s H vs Q E l e=>?_
 obtain ⟨t,h,q⟩:=c b A outer s H vs Q E l e
 exact ⟨t,h.nox,q⟩
theorem Fun.binds {x a:Str}{st:Stmt}{f:Addr}{e:VA}{ps:List Str}(F:Fun K x a st f e)
  (h:∀ (kV c d:SK)(an:Option Addr)(b ct:SK)(us:List SK),us.length=ps.length->a0s (VO x a (i8 st) (fE st) (b9 st) .none kV c d an b ct) ⟨us,[]⟩=pure (ps.zip us)):Binds K e ps []:=by
 obtain ⟨l,m,kV,c,d,an,b,ct,i,rfl,j,g⟩:=F.ex
 exact .all (h kV c d an b ct)
theorem IM {x a:Str}{st:Stmt}{f:Addr}{h:SK}{i an:Option Addr}{e:Array (Option SK)}{kV d g b ct:SK}(l:K.lookup f=some ⟨h,i,.func (VO x a (i8 st) (fE st) (b9 st) .none kV d g an b ct),e⟩)
  (c:Yk K b a=true)(k:Vf K (.ref f)=true):Fun K x a st f (VO x a (i8 st) (fE st) (b9 st) .none kV d g an b ct):=⟨⟨h,i,kV,d,g,an,b,ct,e,rfl,l,c⟩,k⟩
end
theorem IP {A:Tv}{k:Nat}(a:Room k A):A.units+1<UT:=Nat.lt_of_le_of_lt (Nat.add_le_add_left (by decide:1<=64) _) a.units
section
variable {X:Cx}
theorem call_lenD:CallR X (.builtin "len") (fun xs H Q=>∃ a kvs,xs=[V.ref a]/\H a=some (.dK kvs)/\Q (.int kvs.length) H):=by
 intro c s j H xs i Q I r h
 obtain ⟨a,kvs,rfl,d,q⟩:=h
 obtain ⟨u,rfl,e⟩:=fU r
 cases e
 exact HS I (.inl d) fun t g b=>⟨.int kvs.length,H,b,⟨t,rfl⟩,q⟩
end
theorem j7 {A B:Prop}(h:B):if false=true then A else B:=by
 rw [if_neg TC]
 exact h
theorem j8 {A B:Prop}(h:A):if true=true then A else B:=by
 rw [if_pos rfl]
 exact h
noncomputable def Same (H a:Hp):Prop:=∀ b o,H b=some o->a b=some o
theorem Same.refl (H:Hp):Same H H:=fun _ _ h=>h
theorem Same.trans {H d e:Hp}(a:Same H d)(b:Same d e):Same H e:=fun c o h=>b c o (a c o h)
theorem Same.free {H a:Hp}(e:Same H a){l:Addr}(h:a l=a2v):H l=a2v:=by
 cases q:H l with
 | none=>rfl
 | some o=>
  rw [e l o q] at h
  cases h
theorem Same.seq {K:SJ}{H b:Hp}{a:Addr}{xs:List V}(e:Same H b)(h:SqL K H a xs):SqL K b a xs:=by
 rcases h with (h|⟨o,h⟩)|h
 ·exact .inl (.inl (e _ _ h))
 ·exact .inl (.inr ⟨o,e _ _ h⟩)
 ·exact .inr h
section
variable {κ:Type} [DecidableEq κ]
end
end L2
namespace Lw
open PySem L2
noncomputable def aY (i:Nat):Stmt:=Ut.main.body.getD i (.Pass ⟨0,0,0,0⟩)
noncomputable def Vw:Tj:={ Ut with main:={ Ut.main with body:=aY 1::aY 2::aY 3::aY 4::aY 5::aY 6::aY 7::aY 9::aY 10::aY 11::aY 12::aY 13::aY 15::aY 16::aY 18::aY 19::aY 20::aY 21::aY 22::aY 23::aY 24::aY 25::aY 26::aY 27::aY 28::aY 29::aY 30::[] } }
noncomputable abbrev vS (x:String)(n:Nat):SK:=Y2 (Yj x) n
noncomputable abbrev vI (i:Int):SK:=XR i 0
noncomputable abbrev vR (a:Addr):SK:=S2 a
noncomputable abbrev vN:SK:=UK
noncomputable abbrev kO (x y:String)(a b c:Nat)(l n i j k:Int)(r:Addr)(q:Int)(vs:Array SK)(t d:Int)(e:Nat):Vu:={ cls:=WL "code",data:=a3d (#[vS x a,vS x b,vS y c,vI l,vI n,vI i,vI j,vI k,vR r,Xe true,vI q]++vs++#[vI t,vI d,vS y e]) }
noncomputable abbrev fO (x:Str)(n:Nat)(m:SK)(c:Addr):Vu:=⟨WL "function",none,.func (VO x x (i8 (aY n)) (fE (aY n)) (b9 (aY n)) UK UK UK m none (S2 c) UK),#[]⟩
noncomputable abbrev eO (P:W0)(x:String)(n:Nat)(v:SK):T6:={ hash:=PyData.keyHash P (Yj x),key:=Y2 (Yj x) n,val:=v }
noncomputable abbrev eR (P:W0)(x:String)(n:Nat)(a:Addr):T6:=eO P x n (vR a)
noncomputable abbrev kA (p:Addr×Vu)(R:SJ):SJ:=p::R
noncomputable abbrev vM (n:Nat):SK:=[vS "creasecourt.places" 187,vS "creasecourt.sheets" 245,vS "creasecourt.faces" 281,vS "law_creasecourt_k27_whole_faces_counted_by_c" 310].getD n vN
noncomputable abbrev kF (x:String)(r a:Nat)(l n:Int)(t i:Nat)(m:SK)(R:SJ):SJ:=(r+5,kO x "/claim/cut.py" a (a+1) (a+2) l n 0 0 3 r 181 #[vR (r+1),vN,vR (r+2),vR (r+3),vR (r+4)] t l (t+1))::(r+6,fO x i m (r+5))::R
noncomputable abbrev kG (x:String)(r a:Nat)(l n:Int)(t i:Nat)(m:SK)(R:SJ):SJ:=(r+3,kO x "/claim/cut.py" a (a+1) (a+2) l n 0 0 3 r 181 #[vR (r+1),vN,vN,vN,vR (r+2)] t l (t+1))::(r+4,fO x i m (r+3))::R
noncomputable def Kx:W0 → SJ:=fun P=>kA (3,{ cls:=WL "dict",data:=a4a #[eO P "__name__" 165 (vS "law_creasecourt_k27_whole_faces_counted_by_c" 310),eO P "__doc__" 166 vN,eO P "__package__" 167 vN,eO P "__loader__" 168 (a2d "__main__.__loader__#opaque"),eO P "__spec__" 169 vN,eR P "__annotations__" 170 6,eR P "__builtins__" 171 4,eO P "__file__" 173 (vS "/claim/cut.py" 172),eO P "__cached__" 174 vN,eR P "is_edge" 195 21,eR P "is_quarter" 202 28,eR P "line_of" 209 35,eR P "beside" 218 42,eR P "edges_of" 224 47,eR P "number_by" 232 54,eR P "mirrored" 244 61,eR P "is_within" 255 68,eR P "places_within" 261 73,eR P "quarters_in" 267 78,eR P "neighbours_in" 273 83,eR P "marks_in" 280 90,eR P "face_with" 296 97,eR P "faces" 309 104,eR P "_law_draw" 319 111,eR P "_law_kind" 326 118,eR P "_law_tips" 335 125,eR P "_law_amid" 341 130,eR P "_law_size" 348 137,eR P "_law_line" 356 144,eR P "_law_creases" 362 149,eR P "_law_border" 372 156,eR P "_law_top" 380 163,eR P "_law_due" 386 168,eR P "_law_counted" 395 175,eR P "_law_dug" 408 182,eR P "law" 414 187] 36 }) <|
 kF "is_edge" 15 189 2 1 193 1 (vM 0) <|
 kF "is_quarter" 22 196 6 1 200 2 (vM 0) <|
 kF "line_of" 29 203 10 1 207 3 (vM 0) <|
 kF "beside" 36 210 14 1 216 4 (vM 0) <|
 kG "edges_of" 43 219 18 1 222 5 (vM 0) <|
 kF "number_by" 48 225 20 2 230 6 (vM 0) <|
 kF "mirrored" 55 233 28 2 242 7 (vM 0) <|
 kF "is_within" 62 247 41 3 253 9 (vM 1) <|
 kG "places_within" 69 256 43 2 259 10 (vM 1) <|
 kG "quarters_in" 74 262 48 2 265 11 (vM 1) <|
 kG "neighbours_in" 79 268 50 3 271 12 (vM 1) <|
 kF "marks_in" 84 274 52 1 278 13 (vM 1) <|
 kF "face_with" 91 283 55 3 294 15 (vM 2) <|
 kF "faces" 98 297 65 1 307 16 (vM 2) <|
 kF "_law_draw" 105 312 77 2 317 18 (vM 3) <|
 kF "_law_kind" 112 320 79 1 324 19 (vM 3) <|
 kF "_law_tips" 119 327 81 1 333 20 (vM 3) <|
 kG "_law_amid" 126 336 84 3 339 21 (vM 3) <|
 kF "_law_size" 131 342 89 1 346 22 (vM 3) <|
 kF "_law_line" 138 349 91 1 354 23 (vM 3) <|
 kG "_law_creases" 145 357 94 3 360 24 (vM 3) <|
 kF "_law_border" 150 363 108 2 370 25 (vM 3) <|
 kF "_law_top" 157 373 115 2 378 26 (vM 3) <|
 kG "_law_due" 164 381 119 3 384 27 (vM 3) <|
 kF "_law_counted" 169 387 132 3 393 28 (vM 3) <|
 kF "_law_dug" 176 396 134 3 406 29 (vM 3) <|
 kG "law" 183 409 146 1 412 30 (vM 3) <| []
noncomputable def As:List Addr:=[3,20,21,27,28,34,35,41,42,46,47,53,54,60,61,67,68,72,73,77,78,82,83,89,90,96,97,103,104,110,111,117,118,124,125,129,130,136,137,143,144,148,149,155,156,162,163,167,168,174,175,181,182,186,187]
theorem pB:∀ P,As=(Kx P).map (·.1):=fun _=>by kernel_rfl
open PySem.W PyProof.Rows in
theorem run:LeftO (a0h Us).prog Vw [] (fun s=>xlAt Vw [] s&&recOk (a2I (a1t (a0h Us))) s) (Hook.obs (a3T Kx As pB)) (Hook.val (a3T Kx As pB)) 1794:=fun w=>by kernel_rfl
end Lw
set_option maxHeartbeats 4000000
namespace L3
open PySem
open PySem.SetTable (Probe Met Slot bits runEnd leap turns insertAt sizeAbove)
namespace Tb
noncomputable def lI (m:Nat)(p:Probe):Probe:=
 if p.more>0 then { p with j:=p.j+1,more:=p.more - 1 } else
 { p with j:=(leap m p.i p.perturb).1,more:=runEnd m (leap m p.i p.perturb).1 - (leap m p.i p.perturb).1,i:=(leap m p.i p.perturb).1,perturb:=(leap m p.i p.perturb).2 }
noncomputable def IQ (m:Nat)(b:Nat):Probe:={ j:=b % (m+1),more:=runEnd m (b % (m+1)) - b % (m+1),i:=b % (m+1),perturb:=b,dummy:=none }
noncomputable def bY (m b:Nat):Nat->Probe
 | 0=>IQ m b
 | k+1=>lI m (bY m b k)
noncomputable def lp (m b:Nat):Nat->Nat×Nat
 | 0=>(b % (m+1),b)
 | n+1=>leap m (lp m b n).1 (lp m b n).2
noncomputable def hd (m i q:Nat):Probe:={ j:=i,more:=runEnd m i - i,i:=i,perturb:=q,dummy:=none }
theorem pC {m b k i q:Nat}(h:bY m b k=hd m i q):∀ r,r<=runEnd m i - i->bY m b (k+r) = { j:=i+r,more:=runEnd m i - i - r,i:=i,perturb:=q,dummy:=none }
 | 0,_=>by rw [Y9,h];rfl
 | r+1,hr=>by
  have e:=pC h r (by omega)
  show lI m (bY m b (k+r))=_
  rw [e]
  unfold lI
  rw [if_pos (show runEnd m i - i - r>0 by omega)]
  show Probe.mk (i+r+1) (runEnd m i - i - r - 1) i q none=_
  rw [a0i,Nat.sub_sub]
theorem IS {m b k i q:Nat}(h:bY m b k=hd m i q):bY m b (k+(runEnd m i - i)+1)=hd m (leap m i q).1 (leap m i q).2:=by
 have e:=pC h (runEnd m i - i) (SX _)
 show lI m (bY m b (k+(runEnd m i - i)))=_
 rw [e]
 unfold lI
 rw [if_neg (show ¬ (runEnd m i - i - (runEnd m i - i)>0) by omega)]
 rfl
noncomputable def nx (m i:Nat):Nat:=(i * 5+1) % (m+1)
noncomputable def gM (m:Nat):Nat->Nat->Nat
 | 0,i=>i
 | n+1,i=>gM m n (nx m i)
theorem pD (m:Nat):∀ (a b i:Nat),gM m (a+b) i=gM m b (gM m a i)
 | 0,b,i=>by rw [VG];rfl
 | a+1,b,i=>by rw [Nat.succ_add];exact pD m a b (nx m i)
noncomputable def lJ (m:Nat):Nat->Nat->Nat->Nat
 | 0,_,acc=>acc
 | f+1,i,acc=>lJ m f (nx m i) (acc ||| (1 <<< i))
theorem Bh (m j:Nat):∀ (f i a:Nat),(lJ m f i a).testBit j=true->a.testBit j=true\/∃ n,n<f/\gM m n i=j
 | 0,_,_,h=>.inl h
 | f+1,i,a,h=>by
  rcases Bh m j f (nx m i) _ h with h|⟨n,d,e⟩
  ·rw [Nat.testBit_or] at h
   cases c:a.testBit j with
   | true=>exact .inl rfl
   | false=>
    rw [c,a2y,Nat.testBit_shiftLeft] at h
    refine .inr ⟨0,by omega,?_⟩
    simp at h
    have b:Nat.testBit 1 (j - i)=true:=h.2
    rw [Nat.testBit_one_eq_true_iff_self_eq_zero] at b
    show i=j
    omega
  ·exact .inr ⟨n+1,by omega,e⟩
noncomputable def m3 (m:Nat):Bool:=lJ m (m+1) 0 0 == 2 ^ (m+1) - 1&&gM m (m+1) 0 == 0
theorem IT {m:Nat}(h:m3 m=true){i j:Nat}(o:i<=m)(g:j<=m):∃ n,n<=m/\gM m n i=j:=by
 unfold m3 at h
 rw [S0,beq_iff_eq,beq_iff_eq] at h
 have b:∀ j,j<=m->∃ n,n<m+1/\gM m n 0=j:=fun j g=>by
  rcases Bh m j (m+1) 0 0 (by rw [h.1,Nat.testBit_two_pow_sub_one];simp;omega) with q|q
  ·simp at q
  ·exact q
 obtain ⟨a,p,d⟩:=b i o
 obtain ⟨c,hc,e⟩:=b j g
 by_cases l:a<=c
 ·refine ⟨c - a,by omega,?_⟩
  rw [<- d,<- pD,show a+(c - a)=c by omega,e]
 ·refine ⟨m+1 - a+c,by omega,?_⟩
  rw [<- d,<- pD,show a+(m+1 - a+c)=m+1+c by omega,pD,h.2,e]
theorem Bi (m b:Nat):∀ n,(lp m b n).2=b / 32 ^ n
 | 0=>by simp [lp]
 | n+1=>by
  show (lp m b n).2 / 32=_
  rw [Bi m b n,Nat.div_div_eq_div_mul,Nat.pow_succ]
theorem Bj (m b:Nat):∀ n,(lp m b n).1<=m
 | 0=>a1E (a3W _ (Y5 _))
 | n+1=>a1E (a3W _ (Y5 _))
theorem IU {m b:Nat}(c:b<2 ^ 64):∀ n,lp m b (13+n)=(gM m n (lp m b 13).1,0):=by
 have a:∀ n,13<=n->(lp m b n).2=0:=fun n d=>by
  rw [Bi]
  apply Nat.div_eq_of_lt
  refine TF c ?_
  have:(2:Nat) ^ 64<=32 ^ 13:=by decide
  exact TQ this (Nat.pow_le_pow_right (by decide) d)
 intro n
 have one:∀ n i,gM m (n+1) i=nx m (gM m n i):=fun n i=>by
  rw [pD];rfl
 induction n with
 | zero=>exact Prod.ext rfl (a 13 (SX _))
 | succ n e=>
  show leap m (lp m b (13+n)).1 (lp m b (13+n)).2=_
  rw [e,one]
  simp [leap,nx]
theorem IV {m b j:Nat}(hc:m3 m=true)(a:b<2 ^ 64)(c:j<=m):∃ n,n<=m+13/\(lp m b n).1=j:=by
 obtain ⟨n,d,e⟩:=IT hc (Bj m b 13) c
 exact ⟨13+n,by omega,by rw [IU a];exact e⟩
noncomputable def Reach (m:Nat)(S:List Nat)(b j:Nat):Prop:=∃ k,(bY m b k).j=j/\∀ k',k'<k->(bY m b k').j∈S
theorem Reach.mono {m b j:Nat}{S c:List Nat}(h:Reach m S b j)(g:∀ x,x∈S->x∈c):Reach m c b j:=
 let ⟨k,e,a⟩:=h;⟨k,e,fun i d=>g _ (a i d)⟩
theorem IW {m:Nat}{S:List Nat}(b:S.length<=m):∃ j,j<=m/\j∉S:=by
 refine XO fun h=>?_
 have all:∀ j,j<=m->j∈S:=fun j a=>XO fun q=>h ⟨j,a,q⟩
 have:=List.Nodup.length_le_of_subset (l₁:=Tz (m+1)) (l₂:=S) Yc fun j a=>all j (by simpa [ZI] using a)
 rw [YW] at this
 omega
theorem u4 {xs:Array Nat}{j:Nat}(g:∀ a b,a<b->b<xs.size->xs.getD a 0<xs.getD b 0):∀ (f lo d:Nat),d - lo<=f->lo<=d->d<=xs.size->(∀ i,i<lo->xs.getD i 0<j)->(∀ i,d<=i->i<xs.size->j<=xs.getD i 0)->
  Xv xs j f lo d<=xs.size/\(∀ i,i<Xv xs j f lo d->xs.getD i 0<j)/\∀ i,Xv xs j f lo d<=i->i<xs.size->j<=xs.getD i 0
 | 0,lo,d,hf,h1,h2,a,b=>by
  have e:lo=d:=by omega
  show lo<=xs.size/\(∀ i,i<lo->_)/\∀ i,lo<=i->_
  exact ⟨by omega,a,by rw [e];exact b⟩
 | f+1,lo,d,hf,h1,h2,a,b=>by
  unfold Xv
  by_cases q:lo<d
  ·rw [if_pos q]
   dsimp only
   have n:(lo+d) / 2<xs.size:=by omega
   have e:xs.getD ((lo+d) / 2) j=xs.getD ((lo+d) / 2) 0:=by simp [WQ,n]
   rw [e]
   by_cases c:xs.getD ((lo+d) / 2) 0<j
   ·rw [if_pos c]
    refine u4 g f _ _ (by omega) (by omega) h2 (fun i l=>?_) b
    rcases Wi i ((lo+d) / 2) with z|z
    ·exact WE (g _ _ z n) c
    ·have:i=(lo+d) / 2:=by omega
     rw [this];exact c
   ·rw [if_neg c]
    refine u4 g f _ _ (by omega) (by omega) (by omega) a fun i l m=>?_
    rcases Wi ((lo+d) / 2) i with z|z
    ·have:=g _ _ z m;omega
    ·have:i=(lo+d) / 2:=by omega
     rw [this];omega
  ·rw [if_neg q]
   exact ⟨by omega,a,fun i h m=>b i (by omega) m⟩
theorem Bk {xs:Array Nat}(h:xs.toList.Pairwise (·<·)):∀ a b,a<b->b<xs.size->xs.getD a 0<xs.getD b 0:=fun a b c d=>by
 have:=TN.mp h a b (by simpa using WE c d) (by simpa using d) c
 simpa [WQ,d,WE c d] using this
theorem Bl {xs:Array Nat}(h:xs.toList.Pairwise (·<·))(j:Nat):Ur xs j<=xs.size/\(∀ i,i<Ur xs j->xs.getD i 0<j)/\∀ i,Ur xs j<=i->i<xs.size->j<=xs.getD i 0:=
 u4 (Bk h) _ _ _ (by omega) (by omega) (SX _) (fun i z=>absurd z (WS _)) fun i z a=>by omega
theorem IX {a:Type}(xs:Array a)(p:Nat)(x:a):(insertAt xs p x).toList=xs.toList.take p++x::xs.toList.drop p:=by
 unfold insertAt
 simp
 exact VE (by simp)
noncomputable abbrev m4:=Nat×Int×SK
structure Ok (t:Yr)(R:List m4):Prop where
 place:t.place.toList=R.map (·.1)
 dum:t.dummies = #[]
 rise:(R.map (·.1)).Pairwise (·<·)
 le:∀ r∈R,r.1<=t.mask
 cov:m3 t.mask=true
 odd:t.mask % 2=1
 room:R.length<=t.mask
 road:∀ r∈R,Reach t.mask (R.map (·.1)) (bits r.2.1) r.1
section
variable {t:Yr}{R:List m4}
theorem IY (h:Int):bits h<2 ^ 64:=by
 unfold bits
 have a:0<=h % (2 ^ 64:Int):=VW _ (by decide)
 have b:h % (2 ^ 64:Int)<2 ^ 64:=Vb _ (by decide)
 omega
theorem Ok.size (o:Ok t R):t.place.size=R.length:=by
 have:=congrArg Ua o.place
 simpa using this
theorem Ok.uniq (o:Ok t R){r c:m4}(h:r∈R)(h':c∈R)(e:r.1=c.1):r=c:=by
 have p:=TZ.mp o.rise
 obtain ⟨i,d,a⟩:=U0 h
 obtain ⟨k,g,b⟩:=U0 h'
 rcases Xb i k with z|z|z
 ·have:=TN.mp p i k d g z
  rw [a,b] at this;omega
 ·subst z;rw [<- a,<- b]
 ·have:=TN.mp p k i g d z
  rw [a,b] at this;omega
theorem Ok.getD (o:Ok t R){i:Nat}(a:i<R.length):t.place.getD i 0=(R[i]).1:=by
 have h:t.place.toList[i]? = (R.map (·.1))[i]?:=by rw [o.place]
 have b:i<t.place.size:=by rw [o.size];exact a
 simp [a,b] at h
 simp [WQ,b,h]
theorem Ok.sorted (o:Ok t R):t.place.toList.Pairwise (·<·):=by rw [o.place];exact o.rise
theorem Bm (j:Nat):ZN #[] j=false:=by
 unfold ZN
 simp
theorem Ok.live (o:Ok t R){j:Nat}(h:j∈R.map (·.1)):∃ i r,t.slot j=.live i/\R[i]? = some r/\r.1=j:=by
 obtain ⟨r,m,e⟩:=Ts.mp h
 obtain ⟨i,a,d⟩:=U0 m
 have b:=Bl o.sorted j
 have l:t.place.getD i 0=j:=by rw [o.getD a,d];exact e
 have c:i<t.place.size:=by rw [o.size];exact a
 have g:Ur t.place j=i:=by
  rcases Xb (Ur t.place j) i with z|z|z
  ·have n:=b.2.2 _ (SX _) (by omega)
   have p:=Bk o.sorted _ _ z c
   omega
  ·exact z
  ·have:=b.2.1 i z;omega
 refine ⟨i,r,?_,by rw [<- d];exact SO a,e⟩
 unfold a1n
 dsimp only
 rw [g,if_pos]
 have:t.place[i]? = some j:=by
  rw [ZV c]
  simpa [WQ,c] using l
 rw [this]
 exact beq_self_eq_true _
theorem Ok.empty (o:Ok t R){j:Nat}(h:j∉R.map (·.1)):t.slot j=.empty:=by
 unfold a1n
 dsimp only
 rw [if_neg,o.dum,Bm]
 ·rfl
 ·intro q
  rw [beq_iff_eq] at q
  apply h
  rw [<- o.place]
  exact Array.mem_toList_iff.mpr (Array.mem_of_getElem? q)
theorem Bn (m b:Nat):∀ k,(bY m b k).dummy=none
 | 0=>rfl
 | k+1=>by
  show (lI m (bY m b k)).dummy=none
  unfold lI
  split<;>exact Bn m b k
theorem Ok.go (o:Ok t R)(ZZ:Nat->Int)(w:∀ i r,R[i]? = some r->ZZ i=r.2.1){h:Int}{K:Nat}(u:(bY t.mask (bits h) K).j∉R.map (·.1))(v:∀ k',k'<K->(bY t.mask (bits h) k').j∈R.map (·.1)) :
  ∀ (f k:Nat),k<=K->K<k+f->
   (Xu t ZZ h f (bY t.mask (bits h) k)=some (.empty (bY t.mask (bits h) K).j none)/\∀ k' r,k<=k'->k'<K->r∈R->r.1=(bY t.mask (bits h) k').j->r.2.1≠h) \/
   ∃ k' i r,k<=k'/\k'<K/\R[i]? = some r/\r.1=(bY t.mask (bits h) k').j/\r.2.1=h/\Xu t ZZ h f (bY t.mask (bits h) k)=some (.candidate (bY t.mask (bits h) k').j i (bY t.mask (bits h) (k'+1))) /\
    ∀ c g,k<=c->c<k'->g∈R->g.1=(bY t.mask (bits h) c).j->g.2.1≠h
 | 0,k,h1,h2=>by omega
 | f+1,k,h1,h2=>by
  rcases Wi k K with z|z
  ·obtain ⟨i,r,e,n,s⟩:=o.live (v k z)
   have I:Xu t ZZ h (f+1) (bY t.mask (bits h) k)=if ZZ i == h then some (.candidate (bY t.mask (bits h) k).j i (bY t.mask (bits h) (k+1))) else Xu t ZZ h f (bY t.mask (bits h) (k+1)):=by
    show (match t.slot (bY t.mask (bits h) k).j with|.empty=>_|.dummy=>_|.live i=>_)=_
    rw [e]
    rfl
   rw [I,w i r n]
   have p:r∈R:=Th n
   by_cases q:r.2.1=h
   ·refine .inr ⟨k,i,r,SX _,z,n,s,q,?_,fun c g a b=>by omega⟩
    rw [q,if_pos (beq_self_eq_true _)]
   ·rw [if_neg (by simpa using q)]
    have j:∀ g,g∈R->g.1=(bY t.mask (bits h) k).j->g.2.1≠h:=fun g d l=>by
     rw [o.uniq d p (l.trans s.symm)];exact q
    rcases Ok.go o ZZ w u v f (k+1) z (by omega) with ⟨a,b⟩|⟨k',L,g,M,x,A,B,E,G,H⟩
    ·refine .inl ⟨a,fun k' g c1 c2 d l=>?_⟩
     rcases Wi k k' with y|y
     ·exact b k' g y c2 d l
     ·have:k'=k:=by omega
      subst this;exact j g d l
    ·refine .inr ⟨k',L,g,by omega,x,A,B,E,G,fun c m c1 c2 d l=>?_⟩
     rcases Wi k c with y|y
     ·exact H c m y c2 d l
     ·have:c=k:=by omega
      subst this;exact j m d l
  ·have:k=K:=by omega
   subst this
   refine .inl ⟨?_,fun k' r a b=>by omega⟩
   show (match t.slot (bY t.mask (bits h) k).j with|.empty=>_|.dummy=>_|.live i=>_)=_
   rw [o.empty u]
   show some (Met.empty _ (bY t.mask (bits h) k).dummy)=_
   rw [Bn]
theorem Ok.put (o:Ok t R){j:Nat}{h:Int}{x:SK}(n:j<=t.mask)(u:j∉R.map (·.1))(a:Reach t.mask (R.map (·.1)) (bits h) j)(A:R.length+1<=t.mask) :
  (t.put j).2=Ur t.place j/\(t.put j).1.mask=t.mask/\(t.put j).1.led=t.led/\(t.put j).1.plain=t.plain/\Ok (t.put j).1 (R.take (Ur t.place j)++(j,h,x)::R.drop (Ur t.place j)):=by
 have b:=Bl o.sorted j
 rw [o.size] at b
 refine ⟨rfl,rfl,rfl,rfl,?_⟩
 have c:∀ r,r∈R.take (Ur t.place j)++(j,h,x)::R.drop (Ur t.place j)↔r=(j,h,x)\/r∈R:=fun r=>by
  constructor
  ·intro q
   rcases Tf.mp q with q|q
   ·exact .inr (VU q)
   ·rcases To.mp q with q|q
    ·exact .inl q
    ·exact .inr (XE q)
  ·rintro (q|q)
   ·exact Tf.mpr (.inr (To.mpr (.inl q)))
   ·rw [<- TK (Ur t.place j) R] at q
    rcases Tf.mp q with q|q
    ·exact Tf.mpr (.inl q)
    ·exact Tf.mpr (.inr (To.mpr (.inr q)))
 have g:∀ y,y∈R.map (·.1)->y∈(R.take (Ur t.place j)++(j,h,x)::R.drop (Ur t.place j)).map (·.1):=fun y v=>by
  obtain ⟨r,q,e⟩:=Ts.mp v
  exact Ts.mpr ⟨r,(c r).mpr (.inr q),e⟩
 have m:∀ r,r∈R.take (Ur t.place j)->r.1<j:=fun r a=>by
  obtain ⟨i,d,e⟩:=U0 a
  rw [Tu] at d
  have:=b.2.1 i (by omega)
  rw [o.getD (by omega)] at this
  rw [X7] at e
  rw [<- e];exact this
 have d:∀ r,r∈R.drop (Ur t.place j)->j<r.1:=fun r a=>by
  have s:r∈R:=XE a
  obtain ⟨i,d,e⟩:=U0 a
  rw [T8] at d
  have:=b.2.2 (Ur t.place j+i) (by omega) (by omega)
  rw [o.getD (by omega)] at this
  rw [YX] at e
  rw [e] at this
  have ne:r.1≠j:=fun z=>u (Ts.mpr ⟨r,s,z⟩)
  omega
 refine ⟨?_,?_,?_,?_,o.cov,o.odd,?_,?_⟩
 ·show (insertAt t.place _ j).toList=_
  rw [IX,o.place,UN,S5,YK,YL]
 ·show (if ZN t.dummies j=true then _ else t.dummies) = #[]
  rw [o.dum,Bm];rfl
 ·have p:=TZ.mp o.rise
  rw [TZ,UI]
  refine ⟨p.sublist (VS _ _),Wa.mpr ⟨fun r a=>d r a,p.sublist (W8 _ _)⟩,fun r a w l=>?_⟩
  rcases To.mp l with q|q
  ·subst q;exact m r a
  ·exact WE (m r a) (d w q)
 ·intro r q
  rcases (c r).mp q with q|q
  ·subst q;exact n
  ·exact o.le r q
 ·rw [SV,Ti,Tu,T8]
  show _<=t.mask
  omega
 ·intro r q
  rcases (c r).mp q with q|q
  ·subst q;exact a.mono g
  ·exact (o.road r q).mono g
end
noncomputable def lv (m:Nat)(a:Array (Option Nat)):List (Nat×Nat):=(Tz (m+1)).filterMap fun j=>(a.getD j none).map (j,·)
theorem mem_lv {m:Nat}{c:Array (Option Nat)}{j i:Nat}:(j,i)∈lv m c↔j<=m/\c.getD j none=some i:=by
 unfold lv
 rw [YO]
 constructor
 ·rintro ⟨a,n,e⟩
  rw [SS] at e
  obtain ⟨b,d,g⟩:=e
  cases g
  exact ⟨by simpa [ZI] using n,d⟩
 ·rintro ⟨h,l⟩
  exact ⟨j,by simpa [ZI] using h,by rw [l];rfl⟩
theorem IZ (m:Nat)(i:Array (Option Nat)):((lv m i).map (·.1)).Pairwise (·<·):=by
 rw [TZ]
 unfold lv
 refine a3a (R:=(·<·)) _ (fun a j h b d l c=>?_) List.pairwise_lt_range
 rw [SS] at d c
 obtain ⟨_,_,e⟩:=d
 obtain ⟨_,_,g⟩:=c
 rw [<- e,<- g]
 exact h
structure Ow (m:Nat)(ds:List Int)(ow:Array (Option Nat)):Prop where
 size:ow.size=m+1
 lt:∀ j i,ow.getD j none=some i->i<ds.length
 all:∀ i,i<ds.length->∃ j,ow.getD j none=some i
 inj:∀ j j' i,ow.getD j none=some i->ow.getD j' none=some i->j=j'
 road:∀ j i,ow.getD j none=some i->Reach m ((lv m ow).map (·.1)) (bits (ds.getD i 0)) j
section
variable {m:Nat}{ds:List Int}{ow:Array (Option Nat)}
theorem Ow.le (o:Ow m ds ow){j i:Nat}(h:ow.getD j none=some i):j<=m:=by
 rcases Wi j ow.size with z|z
 ·rw [o.size] at z;omega
 ·simp [WQ,Xw.mpr z] at h
theorem Ow.taken (o:Ow m ds ow){j:Nat}(b:j<=m):j∈(lv m ow).map (·.1)↔(ow.getD j (some 0)).isNone=false:=by
 have c:j<ow.size:=by rw [o.size];omega
 have e:ow.getD j (some 0)=ow.getD j none:=by simp [WQ,c]
 rw [e]
 constructor
 ·intro q
  obtain ⟨⟨a,i⟩,d,rfl⟩:=Ts.mp q
  rw [(mem_lv.mp d).2];rfl
 ·intro q
  cases z:ow.getD j none with
  | none=>rw [z] at q;cases q
  | some i=>exact Ts.mpr ⟨(j,i),mem_lv.mpr ⟨b,z⟩,rfl⟩
theorem Ow.perm (o:Ow m ds ow):((lv m ow).map (·.2)).Perm (Tz ds.length):=by
 have r:((lv m ow).map (·.2)).Nodup:=by
  have p:=TZ.mp (IZ m ow)
  unfold XY
  rw [TZ]
  refine p.imp_of_mem fun {a b} l n c e=>?_
  obtain ⟨d,g⟩:=a
  obtain ⟨h,u⟩:=b
  have:=o.inj d h g (mem_lv.mp l).2 (by have:=(mem_lv.mp n).2;rw [this];exact congrArg some e.symm)
  exact Vj _ (this ▸ c)
 refine (List.perm_ext_iff_of_nodup r Yc).mpr fun i=>?_
 rw [TV]
 constructor
 ·intro q
  obtain ⟨⟨a,i⟩,s,rfl⟩:=Ts.mp q
  exact o.lt a i (mem_lv.mp s).2
 ·intro q
  obtain ⟨j,e⟩:=o.all i q
  exact Ts.mpr ⟨(j,i),mem_lv.mpr ⟨o.le e,e⟩,rfl⟩
theorem Ow.count (o:Ow m ds ow):(lv m ow).length=ds.length:=by
 have:=o.perm.length_eq
 simpa using this
theorem Ow.free (o:Ow m ds ow){b:Nat}:∀ (f n a:Nat),bY m b a=hd m (lp m b n).1 (lp m b n).2->(∀ k',k'<a->(bY m b k').j∈(lv m ow).map (·.1))->(∃ N,n<=N/\N<n+f/\(lp m b N).1∉(lv m ow).map (·.1))->
  ∃ j,XF m ow f (lp m b n).1 (lp m b n).2=some j/\j<=m/\j∉(lv m ow).map (·.1)/\Reach m ((lv m ow).map (·.1)) b j
 | 0,n,a,_,_,⟨N,h1,h2,_⟩=>by omega
 | f+1,n,a,hk,ht,⟨N,h1,h2,hN⟩=>by
  have v:=Bj m b n
  have l:runEnd m (lp m b n).1<=m:=by unfold runEnd;split<;>omega
  have p:(lp m b n).1<=runEnd m (lp m b n).1:=by unfold runEnd;split<;>omega
  unfold XF
  cases z:(Tz (runEnd m (lp m b n).1+1 - (lp m b n).1)).find? fun k=>(ow.getD ((lp m b n).1+k) (some 0)).isNone with
  | some r=>
   rw [List.find?_range_eq_some] at z
   obtain ⟨h,s,u⟩:=z
   rw [TV] at s
   refine ⟨(lp m b n).1+r,rfl,by omega,fun q=>?_,a+r,by rw [pC hk r (by omega)],fun k' c=>?_⟩
   ·rw [o.taken (by omega)] at q
    rw [q] at h;cases h
   ·rcases Wi k' a with y|y
    ·exact ht k' y
    ·obtain ⟨d,rfl⟩:=a0l y
     rw [pC hk d (by omega)]
     show (lp m b n).1+d∈_
     rw [o.taken (by omega)]
     have:=u d (by omega)
     simpa using this
  | none=>
   rw [List.find?_range_eq_none] at z
   have g:∀ r,r<runEnd m (lp m b n).1+1 - (lp m b n).1->(lp m b n).1+r∈(lv m ow).map (·.1):=fun r i=>by
    rw [o.taken (by omega)]
    have:=z r i
    simpa using this
   have ne:N≠n:=fun e=>hN (by rw [e];exact g 0 (by omega))
   refine Ow.free o f (n+1) _ (IS hk) (fun k' c=>?_) ⟨N,by omega,by omega,hN⟩
   rcases Wi k' a with y|y
   ·exact ht k' y
   ·obtain ⟨d,rfl⟩:=a0l y
    rw [pC hk d (by omega)]
    exact g d (by omega)
theorem Ow.step (o:Ow m ds ow)(hc:m3 m=true)(G:ds.length<=m)(h:Int):∃ j,XF m ow (turns m) (bits h % (m+1)) (bits h)=some j/\Ow m (ds++[h]) (ow.setIfInBounds j (some ds.length)):=by
 obtain ⟨g,B,u⟩:=IW (m:=m) (S:=(lv m ow).map (·.1)) (by rw [SQ,o.count];exact G)
 obtain ⟨N,K,A⟩:=IV hc (IY h) B
 obtain ⟨j,e,E,w,H⟩:=o.free (b:=bits h) (turns m) 0 0 rfl (fun l z=>absurd z (WS _)) ⟨N,Um _,by unfold turns;omega,by rw [A];exact u⟩
 have x:j<ow.size:=by rw [o.size];omega
 have get:∀ k,(ow.setIfInBounds j (some ds.length)).getD k none=if k=j then some ds.length else ow.getD k none:=fun k=>by
  by_cases q:k=j
  ·subst q;simp [WQ,x]
  ·rw [if_neg q]
   simp [WQ]
   split
   ·rw [Array.getElem_setIfInBounds]
    rw [if_neg (UM q)]
   ·rfl
 have r:ow.getD j none=none:=by
  cases z:ow.getD j none with
  | none=>rfl
  | some i=>exact absurd (Ts.mpr ⟨(j,i),mem_lv.mpr ⟨E,z⟩,rfl⟩) w
 have p:∀ y,y∈(lv m ow).map (·.1)->y∈(lv m (ow.setIfInBounds j (some ds.length))).map (·.1):=fun y I=>by
  obtain ⟨⟨a,i⟩,q,rfl⟩:=Ts.mp I
  have s:=mem_lv.mp q
  refine Ts.mpr ⟨(a,i),mem_lv.mpr ⟨s.1,?_⟩,rfl⟩
  rw [get,if_neg (fun z=>by rw [z,r] at s;cases s.2)]
  exact s.2
 refine ⟨j,e,⟨by rw [Z5];exact o.size,fun k i b=>?_,fun i v=>?_,fun k l i c d=>?_,fun k i b=>?_⟩⟩
 ·rw [get] at b
  rw [SV,VL]
  by_cases q:k=j
  ·rw [if_pos q] at b;cases b;omega
  ·rw [if_neg q] at b;have:=o.lt k i b;omega
 ·rw [SV,VL] at v
  by_cases q:i=ds.length
  ·exact ⟨j,by rw [get,if_pos rfl,q]⟩
  ·obtain ⟨k,b⟩:=o.all i (by omega)
   exact ⟨k,by rw [get,if_neg (fun z=>by rw [z,r] at b;cases b)];exact b⟩
 ·rw [get] at c d
  by_cases q:k=j
  ·by_cases n:l=j
   ·rw [q,n]
   ·rw [if_pos q] at c;rw [if_neg n] at d
    cases c;exact absurd (o.lt l _ d) (Vj _)
  ·by_cases n:l=j
   ·rw [if_neg q] at c;rw [if_pos n] at d
    cases d;exact absurd (o.lt k _ c) (Vj _)
   ·rw [if_neg q] at c;rw [if_neg n] at d
    exact o.inj k l i c d
 ·rw [get] at b
  by_cases q:k=j
  ·rw [if_pos q] at b;cases b
   rw [q]
   have:(ds++[h]).getD ds.length 0=h:=by simp [TY]
   rw [this]
   exact H.mono p
  ·rw [if_neg q] at b
   have v:=o.lt k i b
   have:(ds++[h]).getD i 0=ds.getD i 0:=by simp [TY,S7 v]
   rw [this]
   exact (o.road k i b).mono p
end
theorem Ow.nil (m:Nat):Ow m [] (Zl (m+1) none):=by
 have e:∀ j,(Zl (m+1) (none:Option Nat)).getD j none=none:=fun j=>by
  simp [WQ]
 have a:∀ {P:Prop}(j i:Nat),(Zl (m+1) (none:Option Nat)).getD j none=some i->P:=fun j i h=>by
  rw [e] at h;exact nomatch h
 exact ⟨by simp,fun j i h=>a j i h,fun i h=>absurd h (WS _),fun j b i h _=>a j i h,fun j i h=>a j i h⟩
end Tb
end L3
namespace L3
open PySem
open PySem.SetTable (Probe Met Slot bits runEnd leap turns insertAt sizeAbove)
namespace Tb
section
variable {prog:Tj}{w:TH}{K:Type} [DecidableEq K] {knd:KeyKind prog w K}{A:Tv}{E:SK->SM->Prop}{s:SM}
theorem fits_of {t:Yr}{R:List m4}{es:Array (Int×SK)}(o:Ok t R)(c:es.toList=R.map (·.2)):t.fits es.size=true:=by
 have a:es.size=R.length:=by simpa using congrArg Ua c
 have b:=o.room
 unfold SetTable.fits SetTable.fill
 rw [o.size,a,o.dum]
 simp;exact b
end
section
variable {prog:Tj}{w:TH}{A:Tv}{E:SK->SM->Prop}{s:SM}
noncomputable abbrev El:=List Int×Addr
noncomputable def hashT (k:List Int):Int:=reduceHash (a3e (k.map hashInt))
noncomputable def Ja (p:El):Int×SK:=(hashT p.1,S2 p.2)
noncomputable def Msk (m:Nat):Prop:=m=7\/m=31\/m=127\/m=511
theorem Msk.cov {m:Nat}(h:Msk m):m3 m=true:=by
 rcases h with rfl|rfl|rfl|rfl<;>decide +kernel
theorem Msk.odd {m:Nat}(h:Msk m):m % 2=1:=by
 rcases h with rfl|rfl|rfl|rfl<;>rfl
noncomputable def Bo (w:TH):Bool:=w.params.followText "set-order"
noncomputable def Jb (a:Bool)(L:List El)(o:Vu):Prop:=∃ es ep t R,o.ExactSet/\o.data=.set es ep t/\es.toList=R.map (·.2)/\Ok t R/\es.toList.Perm (L.map Ja)/\(L.map (·.1)).Nodup/\Msk t.mask/\L.length * 5<t.mask * 3/\t.plain=true/\t.led=a
noncomputable def SObj (L:List El)(o:Vu):Prop:=∃ a,Jb a L o
end
end Tb
end L3
namespace L3
open PySem
namespace Tb
noncomputable def Jc (w:TH)(t:Yr):Nat->Nat
 | 0=>0
 | i+1=>if Bo w then 0 else t.place.getD i 0+1
section
variable {prog:Tj}{w:TH}{A:Tv}{E:SK->SM->Prop}{s:SM}
noncomputable def SIt (w:TH)(h:Uj)(I a:Addr)(t:Yr)(i n ep:Nat):Prop:=∃ o,h.get? I=some o/\o.cls=.type "set_iterator"/\o.data=.fields #[WU (Jc w t i),WU i,.ref a,WU n,WU ep]
theorem SIt.ty {I a:Addr}{t:Yr}{i n ep:Nat}(x:SIt w s.heap I a t i n ep):s.TypeIs (.ref I) "set_iterator":=let ⟨o,b,hc,_⟩:=x;⟨o,b,hc⟩
structure SAt (w:TH)(h:Uj)(a:Addr)(es:Array (Int×SK))(ep:Nat)(t:Yr)(R:List m4):Prop where
 at_:∃ o,h.get? a=some o/\o.cls=.type "set"/\o.data=.set es ep t
 he:es.toList=R.map (·.2)
 ok:Ok t R
 pl:t.plain=true
 led:t.led = !Bo w
theorem SAt.ty {a:Addr}{es:Array (Int×SK)}{ep:Nat}{t:Yr}{R:List m4}(x:SAt w s.heap a es ep t R):s.TypeIs (.ref a) "set":=let ⟨o,b,hc,_⟩:=x.at_;⟨o,b,hc⟩
end
end Tb
end L3
namespace L3
open PySem L2
inductive D where
 | non|bl (b:Bool)|int (i:Int)|str (x:Str)|tup (xs:List D)|rol (xs:List D)|loc (a:Nat)|ty (n:String)
 deriving Inhabited
inductive C where
 | lst (xs:List D)
 | dK (kvs:List (aF×D))
 | st (ks:List (List Int))
 | dT (kvs:List (List Int×D))
 deriving Inhabited
noncomputable abbrev Hm:=List C
noncomputable abbrev aH:=List (Option D)
noncomputable abbrev ME:=aH->Hm->Option (D×Hm)
noncomputable abbrev MT:=aH->Hm->Option (Bool×Hm)
noncomputable abbrev MA:=aH->Hm->Option (List D×Hm)
inductive Fl where
 | nx|rt (d:D)|bk|ct
noncomputable abbrev MS:=aH->Hm->Option (Fl×aH×Hm)
noncomputable abbrev MF:=List D->Hm->Option (D×Hm)
noncomputable def RoL (K:SJ)(H:Hp)(p:Addr)(xs:List V):Prop:=
 (∃ o,H p=some (.frz o (.lst xs))) \/
  ∃ (o:Vu)(a:Array SK)(n:Nat),K.lookup p=some o/\o.cls=.type "list"/\o.dict=none/\o.data=.seq a n/\a.size<=S8/\Vals xs a.toList
theorem RoL.sq {K:SJ}{H:Hp}{p:Addr}{xs:List V}(h:RoL K H p xs):SqL K H p xs:=by
 rcases h with ⟨o,h⟩|h
 ·exact .inl (.inr ⟨o,h⟩)
 ·exact .inr h
mutual
inductive IsD (K:SJ)(π:Nat->Addr)(n:Nat)(H:Hp):V->D->Prop where
 | non:IsD K π n H .non .non
 | bl (b:Bool):IsD K π n H (.bl b) (.bl b)
 | int (i:Int):IsD K π n H (.int i) (.int i)
 | str (x:Str):IsD K π n H (.str x) (.str x)
 | tup {p:Addr}{vs:List V}{ds:List D}(h:SqT K H p vs)(t:IsDs K π n H vs ds):IsD K π n H (.ref p) (.tup ds)
 | rol {p:Addr}{vs:List V}{ds:List D}(h:RoL K H p vs)(t:IsDs K π n H vs ds):IsD K π n H (.ref p) (.rol ds)
 | loc {a:Nat}(h:a<n):IsD K π n H (.ref (π a)) (.loc a)
 | ty (x:String):IsD K π n H (.ty x) (.ty x)
inductive IsDs (K:SJ)(π:Nat->Addr)(n:Nat)(H:Hp):List V->List D->Prop where
 | nil:IsDs K π n H [] []
 | cons {v:V}{d:D}{vs:List V}{ds:List D}(h:IsD K π n H v d)(t:IsDs K π n H vs ds):IsDs K π n H (v::vs) (d::ds)
end
structure Ext (π:Nat->Addr)(n:Nat)(H:Hp)(π':Nat->Addr)(n':Nat)(H':Hp):Prop where
 le:n<=n'
 pi:∀ a,a<n->π' a=π a
 tup:∀ p vs,H p=some (.tup vs)->H' p=some (.tup vs)
 frz:∀ p o u,H p=some (.frz o u)->H' p=some (.frz o u)
structure Ext0 (π:Nat->Addr)(n:Nat)(H:Hp)(π':Nat->Addr)(n':Nat)(H':Hp):Prop where
 le:n<=n'
 pi:∀ a,a<n->π' a=π a
 tup:∀ p vs,H p=some (.tup vs)->H' p=some (.tup vs)
 frz:∀ p o u,(∀ φ,u≠HO.ext φ)->H p=some (.frz o u)->H' p=some (.frz o u)
section
variable {K:SJ}{π π' π2:Nat->Addr}{n n' n2:Nat}{H H' H2:Hp}
theorem Ext.weak (e:Ext π n H π' n' H'):Ext0 π n H π' n' H':=⟨e.le,e.pi,e.tup,fun p o u _ h=>e.frz p o u h⟩
theorem Ext.refl:Ext π n H π n H:=⟨SX _,fun _ _=>rfl,fun _ _ h=>h,fun _ _ _ h=>h⟩
theorem Ext.trans (a:Ext π n H π' n' H')(b:Ext π' n' H' π2 n2 H2):Ext π n H π2 n2 H2:=
 ⟨TQ a.le b.le,fun i h=>(b.pi i (TF h a.le)).trans (a.pi i h),fun p c h=>b.tup p c (a.tup p c h),fun p o u h=>b.frz p o u (a.frz p o u h)⟩
theorem Ext0.sqT (e:Ext0 π n H π' n' H'){p:Addr}{vs:List V}(h:SqT K H p vs):SqT K H' p vs:=by
 rcases h with h|h
 ·rcases h with h|⟨o,h⟩
  ·exact .inl (.inl (e.tup _ _ h))
  ·exact .inl (.inr ⟨o,e.frz _ _ _ (fun _ z=>nomatch z) h⟩)
 ·exact .inr h
theorem Ext.sqT (e:Ext π n H π' n' H'){p:Addr}{vs:List V}(h:SqT K H p vs):SqT K H' p vs:=e.weak.sqT h
theorem Ext0.roL (e:Ext0 π n H π' n' H'){p:Addr}{vs:List V}(h:RoL K H p vs):RoL K H' p vs:=by
 rcases h with ⟨o,h⟩|h
 ·exact .inl ⟨o,e.frz _ _ _ (fun _ z=>nomatch z) h⟩
 ·exact .inr h
theorem Ext.roL (e:Ext π n H π' n' H'){p:Addr}{vs:List V}(h:RoL K H p vs):RoL K H' p vs:=e.weak.roL h
mutual
theorem IsD.mono0 {v:V}{d:D}(e:Ext0 π n H π' n' H'):IsD K π n H v d->IsD K π' n' H' v d
 | .non=>.non
 | .bl b=>.bl b
 | .int i=>.int i
 | .str x=>.str x
 | .ty x=>.ty x
 | .tup h t=>.tup (e.sqT h) (IsDs.mono0 e t)
 | .rol h t=>.rol (e.roL h) (IsDs.mono0 e t)
 | .loc h=>by
  rw [<- e.pi _ h]
  exact .loc (TF h e.le)
theorem IsDs.mono0 {vs:List V}{ds:List D}(e:Ext0 π n H π' n' H'):IsDs K π n H vs ds->IsDs K π' n' H' vs ds
 | .nil=>.nil
 | .cons h t=>.cons (IsD.mono0 e h) (IsDs.mono0 e t)
end
theorem IsD.mono {v:V}{d:D}(e:Ext π n H π' n' H')(h:IsD K π n H v d):IsD K π' n' H' v d:=h.mono0 e.weak
theorem IsDs.mono {vs:List V}{ds:List D}(e:Ext π n H π' n' H')(h:IsDs K π n H vs ds):IsDs K π' n' H' vs ds:=h.mono0 e.weak
theorem IsDs.length {vs:List V}{ds:List D}(h:IsDs K π n H vs ds):vs.length=ds.length:=by
 induction ds generalizing vs with
 | nil=>cases h;rfl
 | cons d ds a=>
  cases h with
  | cons h t=>rw [Ti,Ti,a t]
theorem IsDs.get {vs:List V}{ds:List D}(h:IsDs K π n H vs ds){i:Nat}{d:D}(e:ds[i]? = some d):∃ v,vs[i]? = some v/\IsD K π n H v d:=by
 induction ds generalizing vs i with
 | nil=>simp at e
 | cons g ds c=>
  cases h with
  | cons h t=>
   cases i with
   | zero=>
    simp at e
    subst e
    exact ⟨_,rfl,h⟩
   | succ i=>
    obtain ⟨v,a,b⟩:=c t (by simpa using e)
    exact ⟨v,by simpa using a,b⟩
theorem IsDs.append {vs ws:List V}{ds es:List D}(h:IsDs K π n H vs ds)(a:IsDs K π n H ws es):IsDs K π n H (vs++ws) (ds++es):=by
 induction ds generalizing vs with
 | nil=>cases h;exact a
 | cons d ds b=>
  cases h with
  | cons h t=>exact .cons h (b t)
theorem IsDs.drop {vs:List V}{ds:List D}(h:IsDs K π n H vs ds)(k:Nat):IsDs K π n H (vs.drop k) (ds.drop k):=by
 induction ds generalizing vs k with
 | nil=>cases h;simpa using IsDs.nil
 | cons d ds a=>
  cases h with
  | cons h t=>
   cases k with
   | zero=>exact .cons h t
   | succ k=>exact a t k
theorem IsDs.take {vs:List V}{ds:List D}(h:IsDs K π n H vs ds)(k:Nat):IsDs K π n H (vs.take k) (ds.take k):=by
 induction ds generalizing vs k with
 | nil=>cases h;simpa using IsDs.nil
 | cons d ds a=>
  cases h with
  | cons h t=>
   cases k with
   | zero=>exact .nil
   | succ k=>exact .cons h (a t k)
theorem IsDs.atI {vs:List V}{ds:List D}(h:IsDs K π n H vs ds){i:Int}{d:D}(e:L2.atI ds i=some d):∃ v,L2.atI vs i=some v/\IsD K π n H v d:=by
 unfold L2.atI at e ⊢
 rw [h.length]
 cases q:lH ds.length i with
 | none=>rw [q] at e;cases e
 | some j=>
  rw [q] at e
  exact h.get e
end
noncomputable def rC (p:Addr)(L:List Tb.El):HO:=.ext fun h=>∃ o,h.get? p=some o/\Tb.SObj L o
noncomputable def u6 (p:List Int×Addr×V)(w:SK):T6:=⟨Tb.hashT p.1,.ref p.2.1,w⟩
noncomputable def aW (a:Addr)(ps:List (List Int×Addr×V)):HO:=.ext fun h=>∃ ws:List SK,Vals (ps.map (·.2.2)) ws/\(a == Ui)=false/\ps.length<=S8 /\
 ∃ o b c,h.get? a=some o/\o.ExactDict/\o.data=.dict b c/\b.toList=YV u6 ps ws/\(ps.map (·.1)).Nodup
structure Rp (K:SJ)(π:Nat->Addr)(H:Hp)(μ:Hm):Prop where
 inj:∀ a b,a<μ.length->b<μ.length->π a=π b->a=b
 has:∀ a,a<μ.length->(H (π a)).isSome=true
 lst:∀ a xs,μ[a]? = some (.lst xs)->∃ vs,H (π a)=some (.lst vs)/\IsDs K π μ.length H vs xs
 dK:∀ a kvs,μ[a]? = some (.dK kvs)->∃ vs,H (π a)=some (.dK vs)/\vs.map (·.1)=kvs.map (·.1)/\IsDs K π μ.length H (vs.map (·.2)) (kvs.map (·.2))
 st:∀ a ks,μ[a]? = some (.st ks)->∃ L:List Tb.El,H (π a)=some (rC (π a) L)/\L.map (·.1)=ks/\IsDs K π μ.length H (L.map fun p=>V.ref p.2) (ks.map fun k=>D.tup (k.map D.int))
 dT:∀ a kvs,μ[a]? = some (.dT kvs)->∃ ps:List (List Int×Addr×V),H (π a)=some (aW (π a) ps)/\ps.map (·.1)=kvs.map (·.1)/\IsDs K π μ.length H (ps.map fun p=>V.ref p.2.1) (kvs.map fun k=>D.tup (k.1.map D.int))/\IsDs K π μ.length H (ps.map (·.2.2)) (kvs.map (·.2))
structure En (K:SJ)(π:Nat->Addr)(n:Nat)(H:Hp)(σ:St)(ρ:aH):Prop where
 len:σ.length=ρ.length
 get:∀ (i:Nat)(d:D),ρ[i]? = some (some d)->∃ v,σ[i]? = some (some v)/\IsD K π n H v d
section
variable {K:SJ}{π π' π2:Nat->Addr}{n n' n2:Nat}{H H' H2:Hp}{μ μ':Hm}{σ:St}{ρ:aH}
theorem En.mono (E:En K π n H σ ρ)(e:Ext π n H π' n' H'):En K π' n' H' σ ρ:=
 ⟨E.len,fun i d h=>let ⟨v,a,b⟩:=E.get i d h;⟨v,a,b.mono e⟩⟩
theorem En.set (E:En K π n H σ ρ){v:V}{d:D}(h:IsD K π n H v d)(i:Nat):En K π n H (σ.set i (some v)) (ρ.set i (some d)):=by
 refine ⟨by rw [Wj,Wj];exact E.len,fun j c e=>?_⟩
 rw [List.getElem?_set] at e ⊢
 by_cases a:i=j
 ·subst a
  rw [if_pos rfl] at e ⊢
  rw [E.len]
  by_cases b:i<ρ.length
  ·rw [if_pos b] at e ⊢
   cases e
   exact ⟨v,rfl,h⟩
  ·rw [if_neg b] at e
   cases e
 ·rw [if_neg a] at e ⊢
  exact E.get j c e
theorem Rp.ne {p:Addr}(R:Rp K π H μ)(h:H p=none){a:Nat}(b:a<μ.length):π a≠p:=fun e=>by
 have:=R.has a b
 rw [e,h] at this
 cases this
theorem Rp.fresh {p:Addr}{o:HO}(R:Rp K π H μ)(h:H p=none):Ext π μ.length H π μ.length (aI H p o)/\Rp K π (aI H p o) μ:=by
 have c:∀ b u,H b=some u->aI H p o b=some u:=fun b u e=>by
  rw [bO (lF e h)]
  exact e
 have e:Ext π μ.length H π μ.length (aI H p o):=⟨SX _,fun _ _=>rfl,fun q g e=>c q _ e,fun q o u e=>c q _ e⟩
 refine ⟨e,R.inj,fun a d=>?_,fun a v d=>?_,fun a l d=>?_,fun a s d=>?_
  ,fun a l d=>?_
  ⟩
 ·rw [bO (R.ne h d)]
  exact R.has a d
 ·obtain ⟨g,i,j⟩:=R.lst a v d
  exact ⟨g,c _ _ i,j.mono e⟩
 ·obtain ⟨g,i,j,m⟩:=R.dK a l d
  exact ⟨g,c _ _ i,j,m.mono e⟩
 ·obtain ⟨g,i,j,m⟩:=R.st a s d
  exact ⟨g,c _ _ i,j,m.mono e⟩
 ·obtain ⟨g,i,j,m,r⟩:=R.dT a l d
  exact ⟨g,c _ _ i,j,m.mono e,r.mono e⟩
noncomputable def u7 (K:SJ)(π:Nat->Addr)(n:Nat)(H:Hp)(p:Addr):C->HO->Prop
 | .lst xs,.lst vs=>IsDs K π n H vs xs
 | .dK kvs,.dK vs=>vs.map (·.1)=kvs.map (·.1)/\IsDs K π n H (vs.map (·.2)) (kvs.map (·.2))
 | .st ks,o=>∃ L:List Tb.El,o=rC p L/\L.map (·.1)=ks/\IsDs K π n H (L.map fun p=>V.ref p.2) (ks.map fun k=>D.tup (k.map D.int))
 | .dT kvs,o=>∃ a:List (List Int×Addr×V),o=aW p a/\a.map (·.1)=kvs.map (·.1)/\IsDs K π n H (a.map fun p=>V.ref p.2.1) (kvs.map fun k=>D.tup (k.1.map D.int))/\IsDs K π n H (a.map (·.2.2)) (kvs.map (·.2))
 | _,_=>False
noncomputable def fW (π:Nat->Addr)(n:Nat)(p:Addr):Nat->Addr:=fun a=>if a=n then p else π a
theorem Rp.alloc {p:Addr}{c:C}{o:HO}(R:Rp K π H μ)(h:H p=none)(hc:u7 K π μ.length H p c o) :
  Ext π μ.length H (fW π μ.length p) (μ++[c]).length (aI H p o)/\Rp K (fW π μ.length p) (aI H p o) (μ++[c])/\fW π μ.length p μ.length=p:=by
 have B:(μ++[c]).length=μ.length+1:=by simp
 have g:∀ b u,H b=some u->aI H p o b=some u:=fun b u e=>by
  rw [bO (lF e h)]
  exact e
 have w:fW π μ.length p μ.length=p:=if_pos rfl
 have s:∀ a,a<μ.length->fW π μ.length p a=π a:=fun a d=>if_neg (Tp d)
 have e:Ext π μ.length H (fW π μ.length p) (μ++[c]).length (aI H p o):=⟨by rw [B];exact Zo _,s,fun q l e=>g q _ e,fun q o u e=>g q _ e⟩
 have split:∀ a,a<(μ++[c]).length->a<μ.length\/a=μ.length:=fun a d=>by rw [B] at d;omega
 have get:∀ a,a<μ.length->(μ++[c])[a]? = μ[a]?:=fun a d=>S7 d
 have j:(μ++[c])[μ.length]? = some c:=by simp
 refine ⟨e,⟨fun a b d z q=>?_,fun a d=>?_,fun a G d=>?_,fun a y d=>?_,fun a E d=>?_
  ,fun a y d=>?_
  ⟩,w⟩
 ·rcases split a d with d|rfl<;>rcases split b z with z|rfl
  ·rw [s a d,s b z] at q
   exact R.inj a b d z q
  ·rw [s a d,w] at q
   exact absurd q (R.ne h d)
  ·rw [w,s b z] at q
   exact absurd q.symm (R.ne h z)
  ·rfl
 ·rcases split a d with d|rfl
  ·rw [s a d,bO (R.ne h d)]
   exact R.has a d
  ·rw [w,cR]
   rfl
 ·have i:a<(μ++[c]).length:=(SN.mp d).1
  rcases split a i with m|rfl
  ·rw [get a m] at d
   obtain ⟨l,x,r⟩:=R.lst a G d
   rw [s a m]
   exact ⟨l,g _ _ x,r.mono e⟩
  ·rw [j] at d
   cases d
   cases o with
   | lst l=>
    rw [w]
    exact ⟨l,cR,IsDs.mono e hc⟩
   | _=>exact Vh hc
 ·have i:a<(μ++[c]).length:=(SN.mp d).1
  rcases split a i with m|rfl
  ·rw [get a m] at d
   obtain ⟨l,x,r,v⟩:=R.dK a y d
   rw [s a m]
   exact ⟨l,g _ _ x,r,v.mono e⟩
  ·rw [j] at d
   cases d
   cases o with
   | dK l=>
    rw [w]
    exact ⟨l,cR,hc.1,IsDs.mono e hc.2⟩
   | _=>exact Vh hc
 ·have i:a<(μ++[c]).length:=(SN.mp d).1
  rcases split a i with m|rfl
  ·rw [get a m] at d
   obtain ⟨l,x,r,v⟩:=R.st a E d
   rw [s a m]
   exact ⟨l,g _ _ x,r,v.mono e⟩
  ·rw [j] at d
   cases d
   obtain ⟨L,rfl,r,v⟩:=hc
   rw [w]
   exact ⟨L,cR,r,v.mono e⟩
 ·have i:a<(μ++[c]).length:=(SN.mp d).1
  rcases split a i with m|rfl
  ·rw [get a m] at d
   obtain ⟨l,x,r,v,A⟩:=R.dT a y d
   rw [s a m]
   exact ⟨l,g _ _ x,r,v.mono e,A.mono e⟩
  ·rw [j] at d
   cases d
   obtain ⟨L,rfl,r,v,A⟩:=hc
   rw [w]
   exact ⟨L,cR,r,v.mono e,A.mono e⟩
theorem Rp.put0 {a:Nat}{c:C}{o u:HO}(R:Rp K π H μ)(I:a<μ.length)(B:H (π a)=some u)(E:(∃ vs,u=.lst vs)\/(∃ vs,u=.dK vs)\/(∃ A,u=.ext A)\/∃ y A,u=.frz y (.ext A))(hc:u7 K π μ.length H (π a) c o) :
  Ext0 π μ.length H π (μ.set a c).length (aI H (π a) o)/\Rp K π (aI H (π a) o) (μ.set a c):=by
 have m:(μ.set a c).length=μ.length:=Wj ..
 have e:Ext0 π μ.length H π (μ.set a c).length (aI H (π a) o):=by
  refine ⟨Y8 m.symm,fun _ _=>rfl,fun q vs z=>?_,fun q O Q nx z=>?_⟩
  ·rw [bO]
   ·exact z
   ·intro e
    subst e
    rw [B] at z
    rcases E with ⟨w,rfl⟩|⟨w,rfl⟩|⟨w,rfl⟩|⟨y,w,rfl⟩<;>cases z
  ·rw [bO]
   ·exact z
   ·intro e
    subst e
    rw [B] at z
    rcases E with ⟨w,rfl⟩|⟨w,rfl⟩|⟨w,rfl⟩|⟨y,w,rfl⟩<;>cases z
    exact nx _ rfl
 have i:∀ b,b<μ.length->b≠a->aI H (π a) o (π b)=H (π b):=fun b d x=>bO fun q=>x (R.inj b a d I q)
 refine ⟨e,⟨fun b G d v=>R.inj b G (m ▸ d) (m ▸ v),fun b d=>?_,fun b N d=>?_,fun b r d=>?_,fun b M d=>?_
  ,fun b r d=>?_
  ⟩⟩
 ·by_cases h:b=a
  ·subst h
   rw [cR]
   rfl
  ·rw [i b (m ▸ d) h]
   exact R.has b (m ▸ d)
 ·have g:b<μ.length:=m ▸ (SN.mp d).1
  by_cases h:b=a
  ·subst h
   rw [Uw g] at d
   cases d
   cases o with
   | lst vs=>exact ⟨vs,cR,IsDs.mono0 e hc⟩
   | _=>exact Vh hc
  ·rw [UJ (UM h)] at d
   obtain ⟨vs,p,j⟩:=R.lst b N d
   exact ⟨vs,by rw [i b g h];exact p,j.mono0 e⟩
 ·have g:b<μ.length:=m ▸ (SN.mp d).1
  by_cases h:b=a
  ·subst h
   rw [Uw g] at d
   cases d
   cases o with
   | dK vs=>exact ⟨vs,cR,hc.1,IsDs.mono0 e hc.2⟩
   | _=>exact Vh hc
  ·rw [UJ (UM h)] at d
   obtain ⟨vs,p,j,l⟩:=R.dK b r d
   exact ⟨vs,by rw [i b g h];exact p,j,l.mono0 e⟩
 ·have g:b<μ.length:=m ▸ (SN.mp d).1
  by_cases h:b=a
  ·subst h
   rw [Uw g] at d
   cases d
   obtain ⟨L,rfl,j,l⟩:=hc
   exact ⟨L,cR,j,l.mono0 e⟩
  ·rw [UJ (UM h)] at d
   obtain ⟨vs,p,j,l⟩:=R.st b M d
   exact ⟨vs,by rw [i b g h];exact p,j,l.mono0 e⟩
 ·have g:b<μ.length:=m ▸ (SN.mp d).1
  by_cases h:b=a
  ·subst h
   rw [Uw g] at d
   cases d
   obtain ⟨L,rfl,j,l,s⟩:=hc
   exact ⟨L,cR,j,l.mono0 e,s.mono0 e⟩
  ·rw [UJ (UM h)] at d
   obtain ⟨vs,p,j,l,s⟩:=R.dT b r d
   exact ⟨vs,by rw [i b g h];exact p,j,l.mono0 e,s.mono0 e⟩
theorem Rp.put {a:Nat}{c:C}{o u:HO}(R:Rp K π H μ)(g:a<μ.length)(b:H (π a)=some u)(d:(∃ vs,u=.lst vs)\/(∃ vs,u=.dK vs)\/∃ j,u=.ext j)(hc:u7 K π μ.length H (π a) c o) :
  Ext π μ.length H π (μ.set a c).length (aI H (π a) o)/\Rp K π (aI H (π a) o) (μ.set a c):=by
 have i:(μ.set a c).length=μ.length:=Wj ..
 have e:Ext π μ.length H π (μ.set a c).length (aI H (π a) o):=by
  refine ⟨Y8 i.symm,fun _ _=>rfl,fun q vs z=>?_,fun q l m z=>?_⟩
  ·rw [bO]
   ·exact z
   ·intro e
    subst e
    rw [b] at z
    rcases d with ⟨w,rfl⟩|⟨w,rfl⟩|⟨w,rfl⟩<;>cases z
  ·rw [bO]
   ·exact z
   ·intro e
    subst e
    rw [b] at z
    rcases d with ⟨w,rfl⟩|⟨w,rfl⟩|⟨w,rfl⟩<;>cases z
 exact ⟨e,(R.put0 g b (d.imp_right fun h=>h.imp_right .inl) hc).2⟩
end
noncomputable def KC (K:SJ)(Q:VK)(π:Nat->Addr)(n:Nat)(H:Hp)(d:D)(a:Hm):Prop:=
 ∀ b v c,Ext π n H b a.length c->Rp K b c a->IsD K b a.length c v d->Q v c
theorem KC.after {K:SJ}{Q:VK}{π b:Nat->Addr}{n h:Nat}{H g:Hp}{d:D}{a:Hm}(k:KC K Q π n H d a)(e:Ext π n H b h g):KC K Q b h g d a:=
 fun c v j l R i=>k c v j (e.trans l) R i
noncomputable def tM (K:SJ)(m:ME):TE:=fun σ H Q=>∃ π ρ b d a,Rp K π H b/\En K π b.length H σ ρ/\m ρ b=some (d,a)/\KC K Q π b.length H d a
noncomputable def cI (K:SJ)(m:MT):TT:=fun σ H Q=>∃ π ρ d b a,Rp K π H d/\En K π d.length H σ ρ/\m ρ d=some (b,a)/\∀ c e,Ext π d.length H c a.length e->Rp K c e a->Q b e
noncomputable def d6 (K:SJ)(m:MA):TA:=fun σ H Q=>∃ π ρ d ds a,Rp K π H d/\En K π d.length H σ ρ/\m ρ d=some (ds,a)/\∀ b vs c,Ext π d.length H b a.length c->Rp K b c a->IsDs K b a.length c vs ds->Q vs c
noncomputable def lM (K:SJ)(E:Ends)(π:Nat->Addr)(n:Nat)(H:Hp)(h:Fl)(g:aH)(b:Hm):Prop:=
 match h with
 | .nx=>∀ a c e,Ext π n H a b.length e->Rp K a e b->En K a b.length e c g->E.nx c e
 | .bk=>∀ a c e,Ext π n H a b.length e->Rp K a e b->En K a b.length e c g->E.bk c e
 | .ct=>∀ a c e,Ext π n H a b.length e->Rp K a e b->En K a b.length e c g->E.ct c e
 | .rt d=>KC K E.rt π n H d b
noncomputable def cP (K:SJ)(m:MS):TS:=fun E σ H=>∃ π ρ c d b a,Rp K π H c/\En K π c.length H σ ρ/\m ρ c=some (d,b,a)/\lM K E π c.length H d b a
noncomputable def iB (K:SJ)(k:Nat)(f:MF):Sp:=fun vs H Q _=>vs.length=k/\∃ π ds b d a,Rp K π H b/\IsDs K π b.length H vs ds/\f ds b=some (d,a)/\KC K Q π b.length H d a
section
variable {X:Cx}{e a b c:Expr}{t:TE}{m ma mb mc:ME}{pos:UY}
theorem b6 (h:PE X e t)(hw:∀ σ H Q,tM X.K m σ H Q->t σ H Q):PE X e (tM X.K m):=fun a4b s σ H Q I q=>h a4b s σ H Q I (hw σ H Q q)
theorem rD {t:TT}{m:MT}(h:PT X e t)(hw:∀ σ H Q,cI X.K m σ H Q->t σ H Q):PT X e (cI X.K m):=fun a4b s σ H Q I q=>h a4b s σ H Q I (hw σ H Q q)
theorem Bp {t:TT}{m:MT}(h:PW X e t)(hw:∀ σ H Q,cI X.K m σ H Q->t σ H Q):PW X e (cI X.K m):=fun d a4b s σ H Q I q=>h d a4b s σ H Q I (hw σ H Q q)
theorem Bq {es:List Expr}{t:TA}{m:MA}(h:PA X es t)(hw:∀ σ H Q,d6 X.K m σ H Q->t σ H Q):PA X es (d6 X.K m):=fun p a4b s σ H Q I q=>h p a4b s σ H Q I (hw σ H Q q)
theorem iC {st:Stmt}{t:TS}{m:MS}(h:PS X st t)(hw:∀ E σ H,cP X.K m E σ H->t E σ H):PS X st (cP X.K m):=fun a4b s σ H E I q=>h a4b s σ H E I (hw E σ H q)
theorem Br {st:List Stmt}{t:TS}{m:MS}(h:PSs X st t)(hw:∀ E σ H,cP X.K m E σ H->t E σ H):PSs X st (cP X.K m):=fun a4b s σ H E I q=>h a4b s σ H E I (hw E σ H q)
noncomputable def aA (i:Nat):ME:=fun ρ g=>match ρ[i]? with|some (some d)=>some (d,g)|_=>none
noncomputable def mC (d:D):ME:=fun _ g=>some (d,g)
theorem Jd {i:Nat}{ρ:aH}{j g:Hm}{d:D}(h:aA i ρ j=some (d,g)):ρ[i]? = some (some d)/\g=j:=by
 unfold aA at h
 split at h
 ·rename_i l e
  cases h
  exact ⟨e,rfl⟩
 ·cases h
theorem Je {x:Str}(i:Nat)(h:PE X (.Name x pos) (Aw i)):PE X (.Name x pos) (tM X.K (aA i)):=b6 h (by
 rintro s H Q ⟨p,r,q,d,o,R,E,n,k⟩
 obtain ⟨g,rfl⟩:=Jd n
 obtain ⟨v,j,l⟩:=E.get i d g
 exact ⟨v,j,k p v H .refl R l⟩)
theorem m7 {v:V}{d:D}(h:PE X e (tC v))(hd:∀ π n H,IsD X.K π n H v d):PE X e (tM X.K (mC d)):=b6 h (by
 rintro p H Q ⟨π,o,l,j,i,R,E,g,k⟩
 cases g
 exact k π v H .refl R (hd _ _ _))
theorem Jf {i:Int}{j:Nat}:PE X (.Constant (.int i) j pos) (tM X.K (mC (.int i))):=m7 Gh fun _ _ _=>.int i
theorem Jg {i:Bool}{j:Nat}:PE X (.Constant (.bool i) j pos) (tM X.K (mC (.bl i))):=m7 Gi fun _ _ _=>.bl i
theorem Jh {i:Str}{j:Nat}:PE X (.Constant (.str i) j pos) (tM X.K (mC (.str i))):=m7 Gk fun _ _ _=>.str i
theorem Ji {j:Nat}:PE X (.Constant .none j pos) (tM X.K (mC .non)):=m7 Gj fun _ _ _=>.non
noncomputable def aB (f:D->D->Hm->Option (D×Hm))(a b:ME):ME:=fun ρ d=>(a ρ d).bind fun p=>(b ρ p.2).bind fun q=>f p.1 q.1 q.2
noncomputable def cF (K:SJ)(f:D->D->Hm->Option (D×Hm))(r:R2):Prop:=
 ∀ i H g x y d h j l Q,Rp K i H g->IsD K i g.length H j x->IsD K i g.length H l y->f x y g=some (d,h)->KC K Q i g.length H d h->r j l H Q
theorem m8 {f:D->D->Hm->Option (D×Hm)}{r:R2}{K:SJ}(z:cF K f r):∀ σ H Q,tM K (aB f ma mb) σ H Q->pA r (tM K ma) (tM K mb) σ H Q:=by
 rintro σ H Q ⟨M,q,L,d,j,R,E,g,k⟩
 obtain ⟨⟨x,h⟩,v,g⟩:=SF.mp g
 obtain ⟨⟨y,i⟩,w,g⟩:=SF.mp g
 exact ⟨M,q,L,x,h,R,E,v,fun l G N o u A=>⟨l,q,h,y,i,u,E.mono o,w,fun n I s p R2 B=>z n s i x y d j G I Q R2 (A.mono p) B g (k.after (o.trans p))⟩⟩
theorem Jj {op:a0u}{r:R2}{f:D->D->Hm->Option (D×Hm)}(i:OpR X (WJ op) r)(h:cF X.K f r)(d:PE X a (tM X.K ma))(g:PE X b (tM X.K mb)):PE X (.BinOp a op b pos) (tM X.K (aB f ma mb)):=
 b6 (Hk i d g) (m8 h)
theorem eU {op:W3}{r:R2}{f:D->D->Hm->Option (D×Hm)}(j:OpR X (Uq op) r)(h:cF X.K f r)(d:PE X a (tM X.K ma))(g:PE X b (tM X.K mb))(i:Wv op b=false):PE X (.Compare a [op] [b] pos) (tM X.K (aB f ma mb)):=
 b6 (Ht j d g i) (m8 h)
noncomputable def aU (m:ME):MT:=fun ρ d=>(m ρ d).bind fun p=>match p.1 with|.bl b=>some (b,p.2)|_=>none
theorem Bt {K:SJ}:∀ σ H Q,cI K (aU m) σ H Q->tM K m σ H fun x g=>∃ k,x=.bl k/\Q k g:=by
 rintro σ H Q ⟨r,s,o,b,p,R,E,d,k⟩
 obtain ⟨⟨x,q⟩,l,d⟩:=SF.mp d
 cases x with
 | bl c=>
  cases d
  refine ⟨r,s,o,_,_,R,E,l,fun h v g j i n=>?_⟩
  cases n
  exact ⟨_,rfl,k h g j i⟩
 | _=>cases d
theorem eV {op:W3}{r:R2}{f:D->D->Hm->Option (D×Hm)}(n:OpR X (Uq op) r)(j:cF X.K f r)(g:PE X a (tM X.K ma))(i:PE X b (tM X.K mb))(l:Wv op b=false):PT X (.Compare a [op] [b] pos) (cI X.K (aU (aB f ma mb))):=
 rD (Hu n g i l) fun d H Q h=>m8 j d H _ (Bt d H Q h)
end
end L3
namespace L3
open PySem L2
section
variable {X:Cx}{e a b c:Expr}{m ma mb mc:ME}{pos:UY}{mt mu:MT}{rest:List Expr}
noncomputable def m9 (a b:MT):MT:=fun ρ d=>(a ρ d).bind fun p=>match p.1 with|true=>b ρ p.2|false=>some (false,p.2)
noncomputable def u9 (a b:MT):MT:=fun ρ d=>(a ρ d).bind fun p=>match p.1 with|true=>some (true,p.2)|false=>b ρ p.2
noncomputable def vA (a:MT):MT:=fun ρ d=>(a ρ d).map fun p=>(!p.1,p.2)
theorem Jk (d:PT X a (cI X.K mt)):PW X (.BoolOp .And [a] pos) (cI X.K mt):=Gu d
theorem Jl (d:PT X a (cI X.K mt)):PW X (.BoolOp .Or [a] pos) (cI X.K mt):=Gv d
theorem Jm (v:PT X a (cI X.K mt))(w:PW X (.BoolOp .And (b::rest) pos) (cI X.K mu)):PW X (.BoolOp .And (a::b::rest) pos) (cI X.K (m9 mt mu)):=Bp (Gw v w) (by
 rintro A H Q ⟨z,p,y,d,l,R,E,i,k⟩
 obtain ⟨⟨x,g⟩,u,i⟩:=SF.mp i
 refine ⟨z,p,y,x,g,R,E,u,fun h q j o=>?_⟩
 cases x with
 | true=>
  refine j8 ?_
  exact ⟨h,p,g,d,l,o,E.mono j,i,fun n r s R2=>k n r (j.trans s) R2⟩
 | false=>
  refine j7 ?_
  cases i
  exact k h q j o)
theorem Jn (v:PT X a (cI X.K mt))(w:PW X (.BoolOp .Or (b::rest) pos) (cI X.K mu)):PW X (.BoolOp .Or (a::b::rest) pos) (cI X.K (u9 mt mu)):=Bp (Gx v w) (by
 rintro A H Q ⟨z,p,y,d,l,R,E,i,k⟩
 obtain ⟨⟨x,g⟩,u,i⟩:=SF.mp i
 refine ⟨z,p,y,x,g,R,E,u,fun h q j o=>?_⟩
 cases x with
 | true=>
  refine j8 ?_
  cases i
  exact k h q j o
 | false=>
  refine j7 ?_
  exact ⟨h,p,g,d,l,o,E.mono j,i,fun n r s R2=>k n r (j.trans s) R2⟩)
theorem Jo (p:PT X a (cI X.K mt)):PT X (.UnaryOp .Not a pos) (cI X.K (vA mt)):=rD (Gy p) (by
 rintro v H Q ⟨s,u,q,d,r,R,E,g,k⟩
 obtain ⟨⟨x,h⟩,o,g⟩:=SS.mp g
 cases g
 exact ⟨s,u,q,x,h,R,E,o,fun i j n l=>k i j n l⟩)
noncomputable def iD (a b:ME):ME:=fun ρ d=>(a ρ d).bind fun p=>match p.1 with|.bl true=>b ρ p.2|.bl false=>some (.bl false,p.2)|_=>none
noncomputable def vB (a b:ME):ME:=fun ρ d=>(a ρ d).bind fun p=>match p.1 with|.bl true=>some (.bl true,p.2)|.bl false=>b ρ p.2|_=>none
noncomputable def vC (a:ME):ME:=fun ρ d=>(a ρ d).bind fun p=>match p.1 with|.bl b=>some (.bl (!b),p.2)|_=>none
theorem Jp {op:BoolOp}(h:PE X a (tM X.K m)):PE X (.BoolOp op [a] pos) (tM X.K m):=GC h
theorem Jq (r:PE X a (tM X.K ma))(s:PE X (.BoolOp .And (b::rest) pos) (tM X.K mb)):PE X (.BoolOp .And (a::b::rest) pos) (tM X.K (iD ma mb)):=b6 (GD r s) (by
 rintro z H Q ⟨w,o,v,d,l,R,E,g,k⟩
 obtain ⟨⟨x,h⟩,q,g⟩:=SF.mp g
 cases x with
 | bl c=>
  refine ⟨w,o,v,.bl c,h,R,E,q,fun i y p j n u=>?_⟩
  cases u
  refine ⟨c,rfl,?_⟩
  cases c with
  | true=>
   refine j8 ?_
   exact ⟨i,o,h,d,l,n,E.mono j,g,k.after j⟩
  | false=>
   refine j7 ?_
   cases g
   exact k i _ p j n (.bl false)
 | _=>cases g)
theorem Jr (r:PE X a (tM X.K ma))(s:PE X (.BoolOp .Or (b::rest) pos) (tM X.K mb)):PE X (.BoolOp .Or (a::b::rest) pos) (tM X.K (vB ma mb)):=b6 (GF r s) (by
 rintro z H Q ⟨w,o,v,d,l,R,E,g,k⟩
 obtain ⟨⟨x,h⟩,q,g⟩:=SF.mp g
 cases x with
 | bl c=>
  refine ⟨w,o,v,.bl c,h,R,E,q,fun i y p j n u=>?_⟩
  cases u
  refine ⟨c,rfl,?_⟩
  cases c with
  | true=>
   refine j8 ?_
   cases g
   exact k i _ p j n (.bl true)
  | false=>
   refine j7 ?_
   exact ⟨i,o,h,d,l,n,E.mono j,g,k.after j⟩
 | _=>cases g)
theorem Js (o:PE X a (tM X.K ma)):PE X (.UnaryOp .Not a pos) (tM X.K (vC ma)):=b6 (GG o) (by
 rintro y H Q ⟨u,v,q,d,r,R,E,g,k⟩
 obtain ⟨⟨x,s⟩,n,g⟩:=SF.mp g
 cases x with
 | bl c=>
  cases g
  refine ⟨u,v,q,_,_,R,E,n,fun h w i l j p=>?_⟩
  cases p
  exact ⟨_,rfl,k h _ i l j (.bl _)⟩
 | _=>cases g)
noncomputable def lN (t:MT)(a b:ME):ME:=fun ρ d=>(t ρ d).bind fun p=>match p.1 with|true=>a ρ p.2|false=>b ρ p.2
theorem Jt (hc:PT X c (cI X.K mt))(q:PE X a (tM X.K ma))(r:PE X b (tM X.K mb)):PE X (.IfExp c a b pos) (tM X.K (lN mt ma mb)):=b6 (GI hc q r) (by
 rintro w H Q ⟨u,n,s,d,h,R,E,l,k⟩
 obtain ⟨⟨x,g⟩,p,l⟩:=SF.mp l
 refine ⟨u,n,s,x,g,R,E,p,fun i v j o=>?_⟩
 cases x with
 | true=>
  refine j8 ?_
  exact ⟨i,n,g,d,h,o,E.mono j,l,k.after j⟩
 | false=>
  refine j7 ?_
  exact ⟨i,n,g,d,h,o,E.mono j,l,k.after j⟩)
noncomputable def aD:MA:=fun _ d=>some ([],d)
noncomputable def aC (a:ME)(r:MA):MA:=fun ρ d=>(a ρ d).bind fun p=>(r ρ p.2).bind fun q=>some (p.1::q.1,q.2)
variable {es:List Expr}{ms:MA}
theorem Ju:PA X [] (d6 X.K aD):=Bq HB (by
 rintro n H Q ⟨i,l,j,d,h,R,E,g,k⟩
 cases g
 exact k i [] H .refl R .nil)
theorem Jv (v:PE X e (tM X.K m))(w:PA X es (d6 X.K ms))(y:TU (e::es) X.env=(false,eval e X.env)::TU es X.env:=by rfl):PA X (e::es) (d6 X.K (aC m ms)):=Bq (HC v w y) (by
 rintro O H Q ⟨K,p,G,d,I,R,E,g,k⟩
 obtain ⟨⟨x,h⟩,s,g⟩:=SF.mp g
 obtain ⟨⟨B,i⟩,u,g⟩:=SF.mp g
 cases g
 exact ⟨K,p,G,x,h,R,E,s,fun j M L n r z=>⟨j,p,h,B,i,r,E.mono n,u,fun l N q o R2 A=>k l _ q (n.trans o) R2 (.cons (z.mono o) A)⟩⟩)
noncomputable def bW (ms:MA):ME:=fun ρ d=>(ms ρ d).bind fun p=>if p.1.length<=S8 then some (.tup p.1,p.2) else none
noncomputable def cQ (ms:MA):ME:=fun ρ d=>(ms ρ d).bind fun p=>if p.1.length<=S8 then some (.loc p.2.length,p.2++[.lst p.1]) else none
theorem Jw {v:Nat}(h:PA X es (d6 X.K ms)):PE X (.Tuple es v pos) (tM X.K (bW ms)):=b6 (HF h) (by
 rintro I H Q ⟨z,A,w,d,x,R,E,g,k⟩
 obtain ⟨⟨G,y⟩,q,g⟩:=SF.mp g
 split at g
 ·rename_i r
  cases g
  refine ⟨z,A,w,_,_,R,E,q,fun i u B o n l=>⟨by rw [l.length];exact r,fun p s=>?_⟩⟩
  obtain ⟨j,R2⟩:=n.fresh (o:=.tup u) s
  exact k i _ _ (o.trans j) R2 (.tup (.of cR) (l.mono j))
 ·cases g)
theorem Jx (h:PA X es (d6 X.K ms)):PE X (.List es pos) (tM X.K (cQ ms)):=b6 (HG h) (by
 rintro K H Q ⟨G,I,A,d,B,R,E,i,k⟩
 obtain ⟨⟨l,g⟩,w,i⟩:=SF.mp i
 split at i
 ·rename_i x
  cases i
  refine ⟨G,I,A,l,g,R,E,w,fun j n o u s r=>⟨by rw [r.length];exact x,fun p y=>?_⟩⟩
  obtain ⟨v,R2,q⟩:=s.alloc (c:=.lst l) (o:=.lst n) y r
  have z:IsD X.K (fW j g.length p) (g++[C.lst l]).length (aI o p (.lst n)) (.ref p) (.loc g.length):=by
   have:=IsD.loc (K:=X.K) (π:=fW j g.length p) (n:=(g++[C.lst l]).length) (H:=aI o p (.lst n)) (a:=g.length) (by simp)
   rw [q] at this
   exact this
  exact k _ _ _ (u.trans v) R2 z
 ·cases i)
noncomputable def aL (f:MF)(ms:MA):ME:=fun ρ d=>(ms ρ d).bind fun p=>f p.1 p.2
theorem Jy {K:SJ}{f:MF}{n:Nat}{E:XK}(v:∀ ρ i ds g,ms ρ i=some (ds,g)->ds.length=n):∀ σ H Q,tM K (aL f ms) σ H Q->uS (iB K n f) [] E (d6 K ms) σ H Q:=by
 rintro σ H Q ⟨x,ρ,i,d,g,R,E,j,k⟩
 obtain ⟨⟨l,h⟩,p,j⟩:=SF.mp j
 refine ⟨x,ρ,i,l,h,R,E,p,fun o w r u s q=>?_⟩
 show iB K n f (w++[]) r Q _
 rw [Uh]
 exact ⟨by rw [q.length];exact v ρ i l h p,o,l,h,d,g,s,q,j,k.after u⟩
theorem Jz:∀ ρ g ds d,aD ρ g=some (ds,d)->ds.length=0:=by
 intro ρ g ds d h
 cases h
 rfl
theorem JA {n:Nat}(h:∀ ρ i ds d,ms ρ i=some (ds,d)->ds.length=n):∀ ρ i ds d,aC m ms ρ i=some (ds,d)->ds.length=n+1:=by
 intro ρ i ds d g
 obtain ⟨⟨x,j⟩,q,g⟩:=SF.mp g
 obtain ⟨⟨o,p⟩,l,g⟩:=SF.mp g
 cases g
 rw [Ti,h ρ j o _ l]
theorem JB {k:Nat}{f:Addr}{i:VA}{ps:List Str}{j:MF}{x:Str}{p:UY}{n:Nat}(F:FnOk X.prog X.w X.K X.mg X.base eS k f i ps (iB X.K n j))(w:Room k X.A)(r:Gl X x)(u:X.mg x=some (.ref f))
  (s:Vf X.K (.ref f)=true)(o:Binds X.K i ps [])(l:PA X (e::es) (d6 X.K ms))(v:∀ z y ds h,ms z y=some (ds,h)->ds.length=n)(d:(x == ("__debug__":Str))=false:=by decide)
  (q:TU (e::es) X.env=(false,eval e X.env)::TU es X.env:=by rfl)(g:(Wg pos (TU es X.env)).any (·.1)=false:=by rfl) :
  PE X (.Call (.Name x p) (e::es) [] pos) (tM X.K (aL j ms)):=
 b6 (HH F w r u s o .nil (E:=E0) Bg l d q g) (Jy v)
noncomputable def dW (K:SJ)(f:MF)(r:List V->Hp->VK->Prop):Prop:=
 ∀ i H h l d g j Q,Rp K i H h->IsDs K i h.length H j l->f l h=some (d,g)->KC K Q i h.length H d g->r j H Q
theorem Bu {K:SJ}{f:MF}{r:List V->Hp->VK->Prop}(s:dW K f r):∀ σ H Q,tM K (aL f ms) σ H Q->uT r (d6 K ms) σ H Q:=by
 rintro σ H Q ⟨x,y,w,d,i,R,E,h,k⟩
 obtain ⟨⟨l,g⟩,q,h⟩:=SF.mp h
 exact ⟨x,y,w,l,g,R,E,q,fun j v n p o u=>s j n g l d i v Q o u h (k.after p)⟩
theorem JC {f:MF}{r:List V->Hp->VK->Prop}{id:String}{x:Str}{p:UY}(hc:CallR X (.builtin id) r)(j:dW X.K f r)(l:Gl X x)(n:X.mg x=none)(q:U4 x=some (.builtin id))(h:PA X (e::es) (d6 X.K ms))
  (o:x ≠ "__name__":=by decide) (d:(x == ("__debug__":Str))=false:=by decide)
  (i:TU (e::es) X.env=(false,eval e X.env)::TU es X.env:=by rfl)(g:(Wg pos (TU es X.env)).any (·.1)=false:=by rfl):PE X (.Call (.Name x p) (e::es) [] pos) (tM X.K (aL f ms)):=
 b6 (HL hc l n q h o d i g) (Bu j)
theorem JD {f:MF}{r:List V->Hp->VK->Prop}{T:String}{x:Str}{p:UY}(hc:CallR X (.type T) r)(j:dW X.K f r)(l:Gl X x)(n:X.mg x=none)(q:U4 x=some (.type T))(h:PA X (e::es) (d6 X.K ms))
  (o:x ≠ "__name__":=by decide) (d:(x == ("__debug__":Str))=false:=by decide)
  (i:TU (e::es) X.env=(false,eval e X.env)::TU es X.env:=by rfl)(g:(Wg pos (TU es X.env)).any (·.1)=false:=by rfl):PE X (.Call (.Name x p) (e::es) [] pos) (tM X.K (aL f ms)):=
 b6 (HM hc l n q h o d i g) (Bu j)
noncomputable def bN (d:Hm):D->Option (List D)
 | .tup xs=>some xs
 | .rol xs=>some xs
 | .loc a=>match d[a]? with|some (.lst xs)=>some xs|_=>none
 | _=>none
noncomputable def fX:D->D->Hm->Option (D×Hm)
 | .str z,.int i,μ=>if z.length<=S8 then (atI z.cps.toList i).map fun c=>(.str ⟨#[c]⟩,μ) else none
 | x,.int i,μ=>(bN μ x).bind fun g=>(atI g i).map fun d=>(d,μ)
 | _,_,_=>none
theorem JE {K:SJ}:cF K fX (A3 K):=by
 intro p H O x y d G M N Q R r B g k
 cases B with
 | int i=>
  cases r with
  | str z=>
   simp only [fX] at g
   split at g
   ·rename_i w
    obtain ⟨c,j,l⟩:=SS.mp g
    cases l
    exact .inr (.inr ⟨z,i,c,rfl,rfl,w,j,k p _ H .refl R (.str _)⟩)
   ·cases g
  | tup h t=>
   simp only [fX,bN,T1] at g
   obtain ⟨q,j,l⟩:=SS.mp g
   cases l
   obtain ⟨v,n,o⟩:=t.atI j
   exact .inr (.inl ⟨_,_,i,v,rfl,rfl,h,n,k p _ H .refl R o⟩)
  | rol h t=>
   simp only [fX,bN,T1] at g
   obtain ⟨q,j,l⟩:=SS.mp g
   cases l
   obtain ⟨v,n,o⟩:=t.atI j
   exact .inl ⟨_,_,i,v,rfl,rfl,h.sq,n,k p _ H .refl R o⟩
  | @loc a I=>
   simp only [fX,bN] at g
   split at g
   ·rename_i E A
    simp only [T1] at g
    obtain ⟨q,j,l⟩:=SS.mp g
    cases l
    obtain ⟨L,s,u⟩:=R.lst a E A
    obtain ⟨v,n,o⟩:=u.atI j
    exact .inl ⟨_,_,i,v,rfl,rfl,.of s,n,k p _ H .refl R o⟩
   ·cases g
  | _=>simp [fX,bN] at g
 | _=>cases r<;>simp [fX] at g
theorem JF (d:PE X a (tM X.K ma))(g:PE X b (tM X.K mb))(h:uZ b):PE X (.Subscript a b pos) (tM X.K (aB fX ma mb)):=b6 (Iw Iz d g h) (m8 JE)
noncomputable def fF (xs:List D)(lo d:Option Int):List D:=(xs.drop (HT.sIx xs.length 0 lo)).take (HT.sIx xs.length xs.length d - HT.sIx xs.length 0 lo)
noncomputable abbrev MO:=aH->Hm->Option (Option Int×Hm)
noncomputable def pE:MO:=fun _ d=>some (none,d)
noncomputable def iE (m:ME):MO:=fun ρ d=>(m ρ d).bind fun p=>match p.1 with|.int i=>some (some i,p.2)|_=>none
noncomputable def pF (K:SJ)(m:MO):TO:=fun σ H Q=>∃ π ρ h o d,Rp K π H h/\En K π h.length H σ ρ/\m ρ h=some (o,d)/\∀ g i,Ext π h.length H g d.length i->Rp K g i d->Q o i
theorem JG:PO X none (pF X.K pE):=fun a4b s σ H Q I q=>Im a4b s σ H Q I (by
 obtain ⟨h,j,i,o,g,R,E,d,k⟩:=q
 cases d
 exact k h H .refl R)
theorem JI (h:PE X e (tM X.K m)):PO X (some e) (pF X.K (iE m)):=fun a4b s σ H Q I q=>Io h a4b s σ H Q I (by
 obtain ⟨y,z,u,o,v,R,E,d,k⟩:=q
 obtain ⟨⟨x,w⟩,p,d⟩:=SF.mp d
 cases x with
 | int i=>
  cases d
  refine ⟨y,z,u,_,_,R,E,p,fun g A j n l r=>?_⟩
  cases r
  exact ⟨_,rfl,k g j n l⟩
 | _=>cases d)
noncomputable abbrev Bv (K:SJ):V->Option Int->Option Int->Hp->VK->Prop:=u3 K
theorem JJ {X:Cx}:SlR X (Bv X.K):=IC
theorem Bw {K:SJ}{x:V}{lo d:Option Int}{H:Hp}{Q:VK}(h:u3 K x lo d H Q):Bv K x lo d H Q:=h
noncomputable def iF (a:ME)(lo d:MO):ME:=fun ρ h=>(a ρ h).bind fun p=>(lo ρ p.2).bind fun q=>(d ρ q.2).bind fun r=>
 match p.1 with
 | .tup _=>none
 | x=>(bN r.2 x).bind fun g=>some (.loc r.2.length,r.2++[.lst (fF g q.1 r.1)])
theorem Bx {K:SJ}{π:Nat->Addr}{n:Nat}{H:Hp}{vs:List V}{ds:List D}(h:IsDs K π n H vs ds)(lo d:Option Int):IsDs K π n H (jZ vs lo d) (fF ds lo d):=by
 unfold jZ fF
 rw [h.length]
 exact (h.drop _).take _
theorem fY {K:SJ}{π:Nat->Addr}{d:Hm}{p:Addr}{c:C}{H:Hp}:IsD K (fW π d.length p) (d++[c]).length H (.ref p) (.loc d.length):=by
 have:=IsD.loc (K:=K) (π:=fW π d.length p) (n:=(d++[c]).length) (H:=H) (a:=d.length) (by simp)
 rw [show fW π d.length p d.length=p from if_pos rfl] at this
 exact this
theorem JK {lo K:Option Expr}{M L:MO}{p2:UY}(ha:PE X a (tM X.K ma))(hl:PO X lo (pF X.K M))(hu:PO X K (pF X.K L)):PE X (.Subscript a (.Slice lo K none p2) pos) (tM X.K (iF ma M L)):=b6 (Iq JJ ha hl hu) (by
 rintro σ H Q ⟨π,I,μ,d,μ',R,E,g,k⟩
 obtain ⟨⟨x,j⟩,T,g⟩:=SF.mp g
 obtain ⟨⟨l,n⟩,U,g⟩:=SF.mp g
 obtain ⟨⟨u,A⟩,Y,g⟩:=SF.mp g
 refine ⟨π,I,μ,x,j,R,E,T,fun B v1 H1 o O i1=>⟨B,I,j,l,n,O,E.mono o,U,fun G H2 r R2=>⟨G,I,n,u,A,R2,(E.mono o).mono r,Y,fun π3 H3 w s=>?_⟩⟩⟩
 have i3:=(i1.mono r).mono w
 cases i3 with
 | rol h t=>
  simp only [bN,T1] at g
  cases g
  refine Bw ⟨_,_,rfl,h.sq,fun p z=>?_⟩
  obtain ⟨y,v,q⟩:=s.alloc (c:=.lst (fF _ l u)) (o:=.lst (jZ _ l u)) z (Bx t l u)
  exact k _ _ _ (((o.trans r).trans w).trans y) v fY
 | @loc i hi'=>
  simp only [bN] at g
  split at g
  ·rename_i N hx
   simp only [T1] at g
   cases g
   obtain ⟨vs,Z,h6⟩:=s.lst i N hx
   refine Bw ⟨_,_,rfl,.of Z,fun p z=>?_⟩
   obtain ⟨y,v,q⟩:=s.alloc (c:=.lst (fF N l u)) (o:=.lst (jZ vs l u)) z (Bx h6 l u)
   exact k _ _ _ (((o.trans r).trans w).trans y) v fY
  ·cases g
 | tup h t=>simp at g
 | _=>simp [bN] at g)
end
section
variable {X:Cx}{e a b c:Expr}{m:ME}{pos:UY}{mt:MT}{st:Stmt}{rest body orelse:List Stmt}{ms mr mu:MS}
noncomputable def bS:MS:=fun ρ d=>some (.nx,ρ,d)
noncomputable def aK (a b:MS):MS:=fun ρ d=>(a ρ d).bind fun p=>match p.1 with|.nx=>b p.2.1 p.2.2|_=>some p
noncomputable def bB (m:ME):MS:=fun ρ d=>(m ρ d).map fun p=>(.rt p.1,ρ,p.2)
noncomputable def gO (m:ME):MS:=fun ρ d=>(m ρ d).map fun p=>(.nx,ρ,p.2)
noncomputable def bT (t:MT)(a b:MS):MS:=fun ρ d=>(t ρ d).bind fun p=>match p.1 with|true=>a ρ p.2|false=>b ρ p.2
noncomputable def aX (i:Nat)(m:ME):MS:=fun ρ d=>(m ρ d).map fun p=>(.nx,ρ.set i (some p.1),p.2)
theorem JL:PSs X [] (cP X.K bS):=Br GL (by
 rintro E l H ⟨i,p,o,n,j,h,R,d,g,k⟩
 cases g
 exact k i l H .refl R d)
theorem JM (h1:PS X st (cP X.K ms))(A:PSs X rest (cP X.K mr)):PSs X (st::rest) (cP X.K (aK ms mr)):=Br (GN h1 A) (by
 rintro E M H ⟨G,I,B,w,u,r,R,y,i,k⟩
 obtain ⟨⟨v,p,o⟩,h1,i⟩:=SF.mp i
 refine ⟨G,I,B,v,p,o,R,y,h1,?_⟩
 cases v with
 | nx=>
  intro s K L q z x
  refine ⟨s,p,o,w,u,r,z,x,i,?_⟩
  cases w with
  | nx=>exact fun g h l n R2 j=>k g h l (q.trans n) R2 j
  | bk=>exact fun g h l n R2 j=>k g h l (q.trans n) R2 j
  | ct=>exact fun g h l n R2 j=>k g h l (q.trans n) R2 j
  | rt d=>exact KC.after k q
 | rt d=>cases i;exact k
 | bk=>cases i;exact k
 | ct=>cases i;exact k)
theorem JN (h1:PS X st (cP X.K ms)):PSs X [st] (cP X.K ms):=GO h1
theorem JO:PS X (.Pass pos) (cP X.K bS):=iC GP (by
 rintro E l H ⟨i,p,o,n,j,h,R,d,g,k⟩
 cases g
 exact k i l H .refl R d)
theorem JP (j:PE X e (tM X.K m)):PS X (.Return (some e) pos) (cP X.K (bB m)):=iC (GU j) (by
 rintro E s H ⟨o,p,l,r,q,n,R,h,d,k⟩
 obtain ⟨⟨x,g⟩,i,d⟩:=SS.mp d
 cases d
 exact ⟨o,p,l,x,g,R,h,i,k⟩)
theorem JQ (p:PE X e (tM X.K m))(q:X8 e none pos.line X.env=pure false:=by rfl):PS X (.Expr e pos) (cP X.K (gO m)):=iC (GR p q) (by
 rintro E y H ⟨u,v,r,z,w,s,R,i,d,k⟩
 obtain ⟨⟨x,g⟩,o,d⟩:=SS.mp d
 cases d
 exact ⟨u,v,r,x,g,R,i,o,fun h B l j n A=>k h y l j n (i.mono j)⟩)
theorem JR (hc:PT X c (cI X.K mt))(G:PSs X body (cP X.K ms))(I:PSs X orelse (cP X.K mu)):PS X (.If c body orelse pos) (cP X.K (bT mt ms mu)):=iC (GY hc G I) (by
 rintro E M H ⟨L,w,K,s,n,j,R,v,u,k⟩
 obtain ⟨⟨x,i⟩,B,u⟩:=SF.mp u
 refine ⟨L,w,K,x,i,R,v,B,fun l A o y=>?_⟩
 have z:lM X.K E l i.length A s n j:=by
  cases s with
  | nx=>exact fun g h q r R2 p=>k g h q (o.trans r) R2 p
  | bk=>exact fun g h q r R2 p=>k g h q (o.trans r) R2 p
  | ct=>exact fun g h q r R2 p=>k g h q (o.trans r) R2 p
  | rt d=>exact KC.after k o
 cases x with
 | true=>
  refine j8 ?_
  exact ⟨l,w,i,s,n,j,y,v.mono o,u,z⟩
 | false=>
  refine j7 ?_
  exact ⟨l,w,i,s,n,j,y,v.mono o,u,z⟩)
theorem By {i:Nat}{x:Str}{d:UY}(r:X.N.Nodup)(v:X.N[i]? = some x)(y:Loc X.env.scope x)(s:PE X e (tM X.K m))(w:X8 e (some (.Name x d)) pos.line X.env=pure false:=by rfl)
  (u:X.fn x=true\/X.env.scope.names.lookup x=some .local:=by first|exact .inl rfl|exact .inr rfl|assumption):PS X (.Assign [.Name x d] e pos) (cP X.K (aX i m)):=iC (G4 r v y s w u) (by
 rintro E N H ⟨G,I,A,L,K,B,R,l,g,k⟩
 obtain ⟨⟨x,h⟩,q,g⟩:=SS.mp g
 cases g
 exact ⟨G,I,A,x,h,R,l,q,fun j M o n p z=>k j _ o n p ((l.mono n).set z i)⟩)
end
noncomputable def rF (n:Nat)(ds:List D):aH:=ds.map some++Vt (n - ds.length) none
noncomputable def vD (n:Nat)(m:MS):MF:=fun ds a=>(m (rF n ds) a).bind fun p=>match p.1 with|.rt d=>some (d,p.2.2)|.nx=>some (.non,p.2.2)|_=>none
theorem JS {K:SJ}{π:Nat->Addr}{n:Nat}{H:Hp}{N:List Str}{vs:List V}{ds:List D}(h:IsDs K π n H vs ds)(o:vs.length<=N.length):En K π n H (L2.start N vs) (rF N.length ds):=by
 have a:=h.length
 refine ⟨by simp [L2.start,rF,a],fun i d e=>?_⟩
 unfold rF at e
 unfold L2.start
 by_cases b:i<ds.length
 ·rw [S7 (by simpa using b),Tx] at e
  obtain ⟨m,c,g⟩:=SS.mp e
  cases g
  obtain ⟨v,j,l⟩:=h.get c
  exact ⟨v,by rw [S7 (by rw [SQ,a];exact b),Tx,j];rfl,l⟩
 ·rw [Tg (by simpa using Xw.mp b)] at e
  have:=V3 (n:=N.length - ds.length) (a:=(none:Option D)) (i:=i - (ds.map some).length)
  rw [this] at e
  split at e<;>simp at e
section
variable {P:Tj}{w:TH}{K:SJ}{mg:Str->Option SK}{base:Uj}
theorem JT {x a:Str}{st:Stmt}{f:Addr}{o:VA}{N ps:List Str}{k:Nat}{m:MS}(F:Fun K x a st f o)(S:FnScope N ps (b9 st))(g:ps.length<=N.length)
  (c:∀ (b:SK)(A:Tv)(outer:List YU)(s:SM)(H:Hp)(E:XK),Room k (A.deeper (ZG a (b9 st) s.heap.objs.size f b))->
   PSs (i6 eS P w K mg base N a (b9 st) f b A outer s H E).nox (fE st) (cP K m)):FnOk P w K mg base eS (k+1) f o ps (iB K ps.length (vD N.length m)):=by
 refine F.ok S (fun G H Q E h=>h.1) fun b A outer s H G Q E z h=>⟨_,c b A outer s H E z,?_⟩
 obtain ⟨B,M,ds,I,d,L,R,i,e,q⟩:=h
 obtain ⟨⟨p,n,j⟩,y,e⟩:=SF.mp e
 refine ⟨M,_,I,p,n,j,R,JS i (by rw [B];exact g),y,?_⟩
 cases p with
 | rt U=>cases e;exact q
 | nx=>cases e;exact fun l O r v u T=>q l .non r v u .non
 | bk=>cases e
 | ct=>cases e
end
end L3
namespace L3
open PySem L2
open SeqAt (EqAt RcAt RcNeAt)
inductive KD where
 | non|bl (b:Bool)|int (i:Int)|str (x:Str)|tup (n:Nat)|lst (n:Nat)
inductive IsK (s:SM):SK->KD->Prop where
 | non:IsK s .none .non
 | bl (b:Bool):IsK s (.bool b) (.bl b)
 | int (i:Int)(t:a2t):IsK s (.int i t) (.int i)
 | str (x:Str)(t:a2t):IsK s (.str x t) (.str x)
 | tup {l:Addr}{its:List SK}(h:s.heap.IsTuple l its.toArray):IsK s (.ref l) (.tup its.length)
 | lst {l:Addr}{its:List SK}(h:s.heap.IsList l its.toArray):IsK s (.ref l) (.lst its.length)
noncomputable def nA (e:Nat->Bool):KD->KD->Bool
 | .non,.non=>true
 | .bl a,.bl b=>a == b
 | .bl a,.int b=>(if a then 1 else 0) == b
 | .int a,.bl b=>a == (if b then 1 else 0)
 | .int a,.int b=>a == b
 | .str a,.str b=>a == b
 | .tup n,.tup k=>(Tz (min n k)).all e&&n == k
 | .lst n,.lst k=>(Tz (min n k)).all e&&n == k
 | _,_=>false
noncomputable def rG (A:Tv)(s:SM)(u v:SK)(e:Nat->Bool):Prop:=
 (∀ l b c a,u=.ref l->v=.ref b->s.heap.IsTuple l c->s.heap.IsTuple b a->∀ j (h1:j<c.size)(d:j<a.size),EqAt A.in1 s c[j] a[j] (e j)) /\
 (∀ l b c a,u=.ref l->v=.ref b->s.heap.IsList l c->s.heap.IsList b a->∀ j (h1:j<c.size)(d:j<a.size),EqAt A.in1 s c[j] a[j] (e j))
section
variable {A:Tv}{s:SM}{u v:SK}{k k':KD}{e:Nat->Bool}
theorem Bz {n k:Nat}(e:Nat->Bool)(h:n=k):((Tz (min n k)).all e&&n == k)=(Tz n).all e:=by
 subst h
 simp
theorem BA {n k:Nat}(e:Nat->Bool)(h:n≠k):((Tz (min n k)).all e&&n == k)=false:=by
 simp [h]
theorem vE (h:IsK s u k)(h':IsK s v k')(c:A.units<UT)(o:rG A s u v e):RcAt A s u v (nA e k k'):=by
 cases h with
 | non=>
  cases h' with
  | non=>exact RcAt.none_none
  | bl b=>exact RcAt.none_bool b
  | int i t=>exact RcAt.none_int i t
  | str x t=>exact RcAt.none_str x t
  | tup h=>exact RcAt.none_tuple h c
  | lst h=>exact RcAt.none_list h c
 | bl a=>
  cases h' with
  | non=>exact RcAt.bool_none a
  | bl b=>exact RcAt.bool_bool a b
  | int i t=>exact RcAt.bool_int a i t
  | str x t=>exact RcAt.bool_str a x t
  | tup h=>exact RcAt.bool_tuple a h c
  | lst h=>exact RcAt.bool_list a h c
 | int a j=>
  cases h' with
  | non=>exact RcAt.int_none a j
  | bl b=>exact RcAt.int_bool a j b
  | int i t=>exact RcAt.int_int a j i t
  | str x t=>exact RcAt.int_str a j x t
  | tup h=>exact RcAt.int_tuple a j h c
  | lst h=>exact RcAt.int_list a j h c
 | str a j=>
  cases h' with
  | non=>exact RcAt.str_none a j
  | bl b=>exact RcAt.str_bool a j b
  | int i t=>exact RcAt.str_int a j i t
  | str x t=>exact RcAt.str_str a j x t
  | tup h=>exact RcAt.str_tuple a j h c
  | lst h=>exact RcAt.str_list a j h c
 | tup g=>
  cases h' with
  | non=>exact RcAt.tuple_none g c
  | bl b=>exact RcAt.tuple_bool b g c
  | int i t=>exact RcAt.tuple_int i t g c
  | str x t=>exact RcAt.tuple_str x t g c
  | tup h=>
   have:=RcAt.tuples (e:=e) g h c (o.1 _ _ _ _ rfl rfl g h)
   simpa [nA] using this
  | lst h=>exact RcAt.tuple_list g h c
 | lst g=>
  cases h' with
  | non=>exact RcAt.list_none g c
  | bl b=>exact RcAt.list_bool b g c
  | int i t=>exact RcAt.list_int i t g c
  | str x t=>exact RcAt.list_str x t g c
  | tup h=>exact RcAt.list_tuple g h c
  | @lst b d h=>
   rename_i l m
   by_cases n:m.length=d.length
   ·have:=RcAt.lists (e:=e) g h (by simpa using n) c (o.2 _ _ _ _ rfl rfl g h)
    show RcAt A s _ _ ((Tz (min m.length d.length)).all e&&m.length == d.length)
    rw [Bz e n]
    simpa using this
   ·have:=RcAt.lists_lengths g h (by simpa using n) c
    show RcAt A s _ _ ((Tz (min m.length d.length)).all e&&m.length == d.length)
    rw [BA e n]
    exact this
theorem JU (h:IsK s u k)(h':IsK s v k')(c:A.units<UT)(o:rG A s u v e):RcNeAt A s u v (!nA e k k'):=by
 cases h with
 | non=>
  cases h' with
  | non=>exact RcNeAt.none_none
  | bl b=>exact RcNeAt.none_bool b
  | int i t=>exact RcNeAt.none_int i t
  | str x t=>exact RcNeAt.none_str x t
  | tup h=>exact RcNeAt.none_tuple h c
  | lst h=>exact RcNeAt.none_list h c
 | bl a=>
  cases h' with
  | non=>exact RcNeAt.bool_none a
  | bl b=>exact RcNeAt.bool_bool a b
  | int i t=>exact RcNeAt.bool_int a i t
  | str x t=>exact RcNeAt.bool_str a x t
  | tup h=>exact RcNeAt.bool_tuple a h c
  | lst h=>exact RcNeAt.bool_list a h c
 | int a j=>
  cases h' with
  | non=>exact RcNeAt.int_none a j
  | bl b=>exact RcNeAt.int_bool a j b
  | int i t=>exact RcNeAt.int_int a j i t
  | str x t=>exact RcNeAt.int_str a j x t
  | tup h=>exact RcNeAt.int_tuple a j h c
  | lst h=>exact RcNeAt.int_list a j h c
 | str a j=>
  cases h' with
  | non=>exact RcNeAt.str_none a j
  | bl b=>exact RcNeAt.str_bool a j b
  | int i t=>exact RcNeAt.str_int a j i t
  | str x t=>exact RcNeAt.str_str a j x t
  | tup h=>exact RcNeAt.str_tuple a j h c
  | lst h=>exact RcNeAt.str_list a j h c
 | tup g=>
  cases h' with
  | non=>exact RcNeAt.tuple_none g c
  | bl b=>exact RcNeAt.tuple_bool b g c
  | int i t=>exact RcNeAt.tuple_int i t g c
  | str x t=>exact RcNeAt.tuple_str x t g c
  | tup h=>
   have:=RcNeAt.tuples (e:=e) g h c (o.1 _ _ _ _ rfl rfl g h)
   simpa [nA] using this
  | lst h=>exact RcNeAt.tuple_list g h c
 | lst g=>
  cases h' with
  | non=>exact RcNeAt.list_none g c
  | bl b=>exact RcNeAt.list_bool b g c
  | int i t=>exact RcNeAt.list_int i t g c
  | str x t=>exact RcNeAt.list_str x t g c
  | tup h=>exact RcNeAt.list_tuple g h c
  | @lst b d h=>
   rename_i l m
   by_cases n:m.length=d.length
   ·have:=RcNeAt.lists (e:=e) g h (by simpa using n) c (o.2 _ _ _ _ rfl rfl g h)
    show RcNeAt A s _ _ (!((Tz (min m.length d.length)).all e&&m.length == d.length))
    rw [Bz e n]
    simpa using this
   ·have:=RcNeAt.lists_lengths g h (by simpa using n) c
    show RcNeAt A s _ _ (!((Tz (min m.length d.length)).all e&&m.length == d.length))
    rw [BA e n]
    exact this
theorem JV (h:IsK s u k)(h':IsK s v k')(c:A.units<UT)(o:rG A s u v e)(n:∀ l b,u=.ref l->v=.ref b->l≠b):EqAt A s u v (nA e k k'):=by
 cases h with
 | non=>
  cases h' with
  | non=>exact EqAt.same _
  | bl b=>exact EqAt.none_bool b
  | int i t=>exact EqAt.none_int i t
  | str x t=>exact EqAt.none_str x t
  | tup h=>exact EqAt.none_tuple h c
  | lst h=>exact EqAt.none_list h c
 | bl a=>
  cases h' with
  | non=>exact EqAt.bool_none a
  | bl b=>exact EqAt.bool_bool a b
  | int i t=>exact EqAt.bool_int a i t
  | str x t=>exact EqAt.bool_str a x t
  | tup h=>exact EqAt.bool_tuple a h c
  | lst h=>exact EqAt.bool_list a h c
 | int a d=>
  cases h' with
  | non=>exact EqAt.int_none a d
  | bl b=>exact EqAt.int_bool a d b
  | int i t=>exact EqAt.int_int a d i t
  | str x t=>exact EqAt.int_str a d x t
  | tup h=>exact EqAt.int_tuple a d h c
  | lst h=>exact EqAt.int_list a d h c
 | str a d=>
  cases h' with
  | non=>exact EqAt.str_none a d
  | bl b=>exact EqAt.str_bool a d b
  | int i t=>exact EqAt.str_int a d i t
  | str x t=>exact EqAt.str_str a d x t
  | tup h=>exact EqAt.str_tuple a d h c
  | lst h=>exact EqAt.str_list a d h c
 | @tup l m g=>
  cases h' with
  | non=>exact EqAt.tuple_none g c
  | bl b=>exact EqAt.tuple_bool b g c
  | int i t=>exact EqAt.tuple_int i t g c
  | str x t=>exact EqAt.tuple_str x t g c
  | @tup b j h=>exact EqAt.of_refs (n l b rfl rfl) (vE (k:=.tup m.length) (k':=.tup j.length) (.tup g) (.tup h) c o)
  | lst h=>exact EqAt.tuple_list g h c
 | @lst l m g=>
  cases h' with
  | non=>exact EqAt.list_none g c
  | bl b=>exact EqAt.list_bool b g c
  | int i t=>exact EqAt.list_int i t g c
  | str x t=>exact EqAt.list_str x t g c
  | tup h=>exact EqAt.list_tuple g h c
  | @lst b j h=>exact EqAt.of_refs (n l b rfl rfl) (vE (k:=.lst m.length) (k':=.lst j.length) (.lst g) (.lst h) c o)
end
inductive KdD where
 | non|bl (b:Bool)|int (i:Int)|str (x:Str)|tup (xs:List D)|lst (xs:List D)
noncomputable def j9 (c:Hm):D->Option KdD
 | .non=>some .non
 | .bl b=>some (.bl b)
 | .int i=>some (.int i)
 | .str x=>some (.str x)
 | .tup xs=>some (.tup xs)
 | .rol xs=>some (.lst xs)
 | .loc a=>match c[a]? with|some (.lst xs)=>some (.lst xs)|_=>none
 | .ty _=>none
noncomputable def i9 (f:D->D->Option Bool):List D->List D->Option Bool
 | x::xs,y::ys=>(f x y).bind fun b=>(i9 f xs ys).map fun c=>b&&c
 | [],[]=>some true
 | _,_=>some false
noncomputable def jA (f:D->D->Option Bool):KdD->KdD->Option Bool
 | .non,.non=>some true
 | .bl a,.bl b=>some (a == b)
 | .bl a,.int b=>some ((if a then 1 else 0) == b)
 | .int a,.bl b=>some (a == (if b then 1 else 0))
 | .int a,.int b=>some (a == b)
 | .str a,.str b=>some (a == b)
 | .tup xs,.tup ys=>i9 f xs ys
 | .lst xs,.lst ys=>i9 f xs ys
 | _,_=>some false
noncomputable def c9:Nat->Hm->D->D->Option Bool
 | 0,_,_,_=>none
 | n+1,μ,x,y=>(j9 μ x).bind fun a=>(j9 μ y).bind fun b=>jA (c9 n μ) a b
noncomputable def vF:KdD->KD
 | .non=>.non|.bl b=>.bl b|.int i=>.int i|.str x=>.str x|.tup xs=>.tup xs.length|.lst xs=>.lst xs.length
noncomputable def nB:KdD->List D
 | .tup xs=>xs|.lst xs=>xs|_=>[]
section
variable {X:Cx}{a4b:List (Addr×Vu)}{σ:St}{H:Hp}{s:SM}{π:Nat->Addr}{μ:Hm}
inductive KdAt (X:Cx)(π:Nat->Addr)(n:Nat)(H:Hp)(s:SM)(u:SK):KdD->Prop where
 | non (h:u=.none):KdAt X π n H s u .non
 | bl (b:Bool)(h:u=.bool b):KdAt X π n H s u (.bl b)
 | int (i:Int)(t:a2t)(h:u=.int i t):KdAt X π n H s u (.int i)
 | str (x:Str)(t:a2t)(h:u=.str x t):KdAt X π n H s u (.str x)
 | tup {xs:List D}(p:Addr)(vs:List V)(its:List SK)(h:u=.ref p)(q:SqT X.K H p vs)(i:IsDs X.K π n H vs xs)(r:Vals vs its)(t:s.heap.IsTuple p its.toArray):KdAt X π n H s u (.tup xs)
 | lst {xs:List D}(p:Addr)(vs:List V)(its:List SK)(h:u=.ref p)(q:SqL X.K H p vs)(i:IsDs X.K π n H vs xs)(r:Vals vs its)(t:s.heap.IsList p its.toArray):KdAt X π n H s u (.lst xs)
theorem nC (I:Inv X a4b σ H s)(R:Rp X.K π H μ){v:V}{d:D}{u:SK}(h:IsD X.K π μ.length H v d)(r:RelV v u){k:KdD}(e:j9 μ d=some k):KdAt X π μ.length H s u k:=by
 cases h with
 | non=>cases e;exact .non r
 | bl b=>cases e;exact .bl b r
 | int i=>cases e;obtain ⟨t,q⟩:=r;exact .int i t q
 | str x=>cases e;obtain ⟨t,q⟩:=r;exact .str x t q
 | ty x=>cases e
 | tup q t=>
  cases e
  obtain ⟨c,g,p,_⟩:=I.tuple q
  exact .tup _ _ c r q t g p
 | rol q t=>
  cases e
  obtain ⟨c,g,p,_⟩:=I.list q.sq
  exact .lst _ _ c r q.sq t g p.isList
 | @loc a w=>
  simp only [j9] at e
  split at e
  ·rename_i o m
   cases e
   obtain ⟨n,j,l⟩:=R.lst a o m
   have q:SqL X.K H (π a) n:=.of j
   obtain ⟨c,g,p,_⟩:=I.list q
   exact .lst _ _ c r q l g p.isList
  ·cases e
theorem KdAt.isK {u:SK}{k:KdD}{n:Nat}(h:KdAt X π n H s u k):IsK s u (vF k):=by
 cases h with
 | non h=>subst h;exact .non
 | bl b h=>subst h;exact .bl b
 | int i t h=>subst h;exact .int i t
 | str x t h=>subst h;exact .str x t
 | tup p c a h q i r t=>
  subst h
  have:a.length=_:=r.length.symm.trans i.length
  show IsK s (.ref p) (.tup _)
  rw [<- this]
  exact .tup t
 | lst p c a h q i r t=>
  subst h
  have:a.length=_:=r.length.symm.trans i.length
  show IsK s (.ref p) (.lst _)
  rw [<- this]
  exact .lst t
noncomputable def fZ (f:D->D->Option Bool)(xs a:List D)(j:Nat):Bool:=match xs[j]?,a[j]? with
 | some x,some y=>(f x y).getD false
 | _,_=>false
theorem vG {f:D->D->Option Bool}:∀ {xs a:List D}{b:Bool},i9 f xs a=some b->b=((Tz (min xs.length a.length)).all (fZ f xs a)&&xs.length == a.length)/\∀ (j:Nat) x y,xs[j]? = some x->a[j]? = some y->f x y=some (fZ f xs a j)
 | [],[],b,h=>by
  cases h
  exact ⟨rfl,fun j x y e=>by simp at e⟩
 | x::xs,[],b,h=>by
  cases h
  exact ⟨by simp,fun j x y _ e=>by simp at e⟩
 | [],y::a,b,h=>by
  cases h
  exact ⟨by simp,fun j x y e=>by simp at e⟩
 | x::xs,y::a,b,h=>by
  simp only [i9] at h
  obtain ⟨c,m,o⟩:=SF.mp h
  obtain ⟨d,p,q⟩:=SS.mp o
  obtain ⟨r,u⟩:=vG p
  have l:fZ f (x::xs) (y::a) 0=c:=by simp [fZ,m]
  have n:∀ j,fZ f (x::xs) (y::a) (j+1)=fZ f xs a j:=fun j=>by simp [fZ]
  refine ⟨?_,fun j v w g i=>?_⟩
  ·subst q
   rw [r]
   simp only [Ti,Nat.add_min_add_right]
   rw [List.range_succ_eq_map,Up,List.all_map,l]
   have:(fZ f (x::xs) (y::a) ∘ Nat.succ)=fZ f xs a:=funext fun j=>n j
   rw [this]
   simp [Bool.and_assoc]
  ·cases j with
   | zero=>
    simp at g i
    subst g;subst i
    rw [l,m]
   | succ j=>
    rw [n j]
    exact u j v w (by simpa using g) (by simpa using i)
theorem BB {f:D->D->Option Bool}{k k':KdD}{b:Bool}(h:jA f k k'=some b):b=nA (fZ f (nB k) (nB k')) (vF k) (vF k'):=by
 cases k<;>cases k'<;>simp only [jA] at h<;>first
  | (have a:=TL h;subst a;rfl)
  | (obtain ⟨c,_⟩:=vG h;rw [c];rfl)
theorem JW (I:Inv X a4b σ H s)(R:Rp X.K π H μ):∀ (n:Nat){v:V}{u:SK}{x y:D}{b:Bool},RelV v u->IsD X.K π μ.length H v x->IsD X.K π μ.length H v y->c9 n μ x y=some b->b=true:=by
 intro n
 induction n with
 | zero=>intro v u x y b _ _ _ h;cases h
 | succ n ih=>
  intro v u x y b r hx hy h
  obtain ⟨k,U,h⟩:=SF.mp h
  obtain ⟨k',h2,h⟩:=SF.mp h
  have a1:=nC I R hx r U
  have o:=nC I R hy r h2
  have g:∀ {vs:List V}{xs T:List D}{c:Bool},(∀ v∈vs,∃ u,RelV v u)->IsDs X.K π μ.length H vs xs->IsDs X.K π μ.length H vs T->i9 (c9 n μ) xs T=some c->c=true:=by
   intro vs
   induction vs with
   | nil=>intro xs T c _ Z m h;cases Z;cases m;cases h;rfl
   | cons w vs ihv=>
    intro xs T c hr Z m h
    cases Z with
    | cons p1 t1=>
     cases m with
     | cons L B=>
      simp only [i9] at h
      obtain ⟨c1,U,h3⟩:=SF.mp h
      obtain ⟨c2,h4,h5⟩:=SS.mp h3
      obtain ⟨Q,N⟩:=hr w (Td ..)
      have a:=ih N p1 L U
      have l:=ihv (fun v G=>hr v (S3 _ G)) t1 B h4
      subst a;subst l
      exact h5.symm
  cases a1 with
  | non a=>
   subst a
   cases o with
   | non _=>simp only [jA] at h;exact (TL h).symm
   | bl _ e=>cases e
   | int _ _ e=>cases e
   | str _ _ e=>cases e
   | tup _ _ _ e=>cases e
   | lst _ _ _ e=>cases e
  | bl c a=>
   subst a
   cases o with
   | non e=>cases e
   | bl _ e=>cases e;simp only [jA,beq_self_eq_true] at h;exact (TL h).symm
   | int _ _ e=>cases e
   | str _ _ e=>cases e
   | tup _ _ _ e=>cases e
   | lst _ _ _ e=>cases e
  | int c t a=>
   subst a
   cases o with
   | non e=>cases e
   | bl _ e=>cases e
   | int _ _ e=>cases e;simp only [jA,beq_self_eq_true] at h;exact (TL h).symm
   | str _ _ e=>cases e
   | tup _ _ _ e=>cases e
   | lst _ _ _ e=>cases e
  | str c t a=>
   subst a
   cases o with
   | non e=>cases e
   | bl _ e=>cases e
   | int _ _ e=>cases e
   | str _ _ e=>cases e;simp only [jA,beq_self_eq_true] at h;exact (TL h).symm
   | tup _ _ _ e=>cases e
   | lst _ _ _ e=>cases e
  | tup p vs K a q i O t=>
   have z:KdAt X π μ.length H s (.ref p) _:=a ▸ KdAt.tup p vs K a q i O t
   rw [a] at o
   cases o with
   | non e=>cases e
   | bl _ e=>cases e
   | int _ _ e=>cases e
   | str _ _ e=>cases e
   | tup L E d l M m A B=>
    cases l
    have:=I.tuple_inj q M
    subst this
    exact g (fun v G=>by
     obtain ⟨j,Y,rfl⟩:=U0 G
     obtain ⟨Q,_,N⟩:=O.get (SO Y)
     exact ⟨Q,N⟩) i m h
   | lst L E d l M m A B=>
    cases l
    exact absurd rfl (Vg B t)
  | lst p vs K a q i O t=>
   rw [a] at o
   cases o with
   | non e=>cases e
   | bl _ e=>cases e
   | int _ _ e=>cases e
   | str _ _ e=>cases e
   | tup L E d l M m A B=>
    cases l
    exact absurd rfl (Vg t B)
   | lst L E d l M m A B=>
    cases l
    have:=I.list_inj q M
    subst this
    exact g (fun v G=>by
     obtain ⟨j,Y,rfl⟩:=U0 G
     obtain ⟨Q,_,N⟩:=O.get (SO Y)
     exact ⟨Q,N⟩) i m h
theorem lO (A:Tv):A.in1.units=A.units+1:=rfl
theorem BC (I:Inv X a4b σ H s){A:Tv}{n:Nat}(ih:∀ {A:Tv}{v v':V}{u u':SK}{x y:D}{b:Bool},A.units+n<UT->RelV v u->RelV v' u'->IsD X.K π μ.length H v x->IsD X.K π μ.length H v' y->c9 n μ x y=some b->EqAt A s u u' b)
  (hu:A.units+(n+1)<UT){u u':SK}{k k':KdD}{b:Bool}(a1:KdAt X π μ.length H s u k)(a2:KdAt X π μ.length H s u' k')(h:jA (c9 n μ) k k'=some b):rG A s u u' (fZ (c9 n μ) (nB k) (nB k')):=by
 have G:∀ {vs Q:List V}{m its':List SK}{xs U:List D}{c:Bool},Vals vs m->Vals Q its'->IsDs X.K π μ.length H vs xs->IsDs X.K π μ.length H Q U->i9 (c9 n μ) xs U=some c->
   ∀ j (h1:j<m.length)(T:j<its'.length),EqAt A.in1 s m[j] its'[j] (fZ (c9 n μ) xs U j):=by
  intro vs Q m its' xs U c r r' i i' e j h1 T
  have l1:=r.length
  have l2:=r'.length
  have l3:=i.length
  have l4:=i'.length
  have hx:xs[j]? = some (xs[j]'(by omega)):=SO _
  have hy:U[j]? = some (U[j]'(by omega)):=SO _
  obtain ⟨v,v1,v2⟩:=i.get hx
  obtain ⟨v',v1',v2'⟩:=i'.get hy
  obtain ⟨w,w1,w2⟩:=r.get v1
  obtain ⟨w',w1',w2'⟩:=r'.get v1'
  rw [SO h1] at w1
  rw [SO T] at w1'
  cases w1
  cases w1'
  exact ih (by rw [lO];omega) w2 w2' v2 v2' ((vG e).2 j _ _ hx hy)
 constructor
 ·intro l b' E z e1 e2 t1 t2 j h1 T
  subst e1;subst e2
  cases a1 with
  | tup p vs m e q i r t=>
   cases e
   cases a2 with
   | tup p2 R B a q2 Y Z O=>
    cases a
    have z1:E=m.toArray:=by
     obtain ⟨o,K,g2,n1,M⟩:=t1
     obtain ⟨o',d,L,N,g⟩:=t
     rw [K] at d;cases d
     rw [M] at g
     injection g
    have z2:z=B.toArray:=by
     obtain ⟨o,K,g2,n1,M⟩:=t2
     obtain ⟨o',d,L,N,g⟩:=O
     rw [K] at d;cases d
     rw [M] at g
     injection g
    subst z1;subst z2
    have:=G r Z i Y h j (by simpa using h1) (by simpa using T)
    simpa [nB] using this
   | lst p2 R B a q2 Y Z O=>
    cases a
    exact absurd rfl (Vg O t2)
   | non a=>cases a
   | bl _ a=>cases a
   | int _ _ a=>cases a
   | str _ _ a=>cases a
  | lst p vs m e q i r t=>
   cases e
   exact absurd rfl (Vg t t1)
  | non e=>cases e
  | bl _ e=>cases e
  | int _ _ e=>cases e
  | str _ _ e=>cases e
 ·intro l b' E z e1 e2 t1 t2 j h1 T
  subst e1;subst e2
  cases a1 with
  | lst p vs m e q i r t=>
   cases e
   cases a2 with
   | lst p2 R B a q2 Y Z O=>
    cases a
    have z1:E=m.toArray:=by
     obtain ⟨o,K,g2,n1,M⟩:=t1
     obtain ⟨o',d,L,N,g⟩:=t
     rw [K] at d;cases d
     rw [M] at g
     injection g
    have z2:z=B.toArray:=by
     obtain ⟨o,K,g2,n1,M⟩:=t2
     obtain ⟨o',d,L,N,g⟩:=O
     rw [K] at d;cases d
     rw [M] at g
     injection g
    subst z1;subst z2
    have:=G r Z i Y h j (by simpa using h1) (by simpa using T)
    simpa [nB] using this
   | tup p2 R B a q2 Y Z O=>
    cases a
    exact absurd rfl (Vg t2 O)
   | non a=>cases a
   | bl _ a=>cases a
   | int _ _ a=>cases a
   | str _ _ a=>cases a
  | tup p vs m e q i r t=>
   cases e
   exact absurd rfl (Vg t1 t)
  | non e=>cases e
  | bl _ e=>cases e
  | int _ _ e=>cases e
  | str _ _ e=>cases e
theorem vH (I:Inv X a4b σ H s)(R:Rp X.K π H μ):∀ (n:Nat){A:Tv}{v c:V}{u a:SK}{x y:D}{b:Bool},A.units+n<UT->RelV v u->RelV c a->IsD X.K π μ.length H v x->IsD X.K π μ.length H c y->c9 n μ x y=some b->EqAt A s u a b:=by
 intro n
 induction n with
 | zero=>intro A v c u a x y b _ _ _ _ _ h;cases h
 | succ n K=>
  intro A v c u a x y b G r m i j h
  have q:=h
  obtain ⟨k,w,h⟩:=SF.mp h
  obtain ⟨M,B,h⟩:=SF.mp h
  have d:=nC I R i r w
  have e:=nC I R j m B
  by_cases g:u=a
  ·subst g
   have:v=c:=r.inj m
   subst this
   have:=JW I R (n+1) r i j q
   subst this
   exact EqAt.same _
  ·have E:=BC I K G d e h
   rw [BB h]
   exact JV d.isK e.isK (by omega) E fun l L o p z=>g (by rw [o,p,z])
theorem BE (I:Inv X a4b σ H s)(R:Rp X.K π H μ)(n:Nat){A:Tv}{v g:V}{u d:SK}{x y:D}{b:Bool}(l:A.units+n<UT)(r:RelV v u)(p:RelV g d)(m:IsD X.K π μ.length H v x)(o:IsD X.K π μ.length H g y)(h:c9 n μ x y=some b) :
  RcAt A s u d b/\RcNeAt A s u d (!b):=by
 cases n with
 | zero=>cases h
 | succ n=>
  obtain ⟨k,i,h⟩:=SF.mp h
  obtain ⟨q,j,h⟩:=SF.mp h
  have a:=nC I R m r i
  have c:=nC I R o p j
  have e:=BC I (A:=A) (vH I R n) l a c h
  rw [BB h]
  exact ⟨vE a.isK c.isK (by omega) e,JU a.isK c.isK (by omega) e⟩
end
end L3
namespace L3
open PySem L2
open SeqAt (EqAt RcAt RcNeAt)
section
variable {K:SJ}
noncomputable def jB (g:Int->Int->Option Int):D->D->Hm->Option (D×Hm)
 | .int i,.int j,μ=>(g i j).map fun z=>(.int z,μ)
 | _,_,_=>none
theorem BF {g:Int->Int->Option Int}{x y d:D}{b a:Hm}(h:jB g x y b=some (d,a)):∃ i j z,x=.int i/\y=.int j/\g i j=some z/\d=.int z/\a=b:=by
 unfold jB at h
 split at h
 ·rename_i i j
  obtain ⟨z,c,e⟩:=SS.mp h
  cases e
  exact ⟨i,j,z,rfl,rfl,c,rfl,rfl⟩
 ·cases h
theorem rH {a:Int->Int->Prop}{g:Int->Int->Option Int}{g':Int->Int->Int}(e:∀ i j z,g i j=some z->a i j/\z=g' i j):cF K (jB g) (rI a fun i j=>.int (g' i j)):=by
 intro o H r x y d n p q Q R l m h k
 obtain ⟨i,j,z,rfl,rfl,b,rfl,rfl⟩:=BF h
 cases l
 cases m
 obtain ⟨c,rfl⟩:=e i j z b
 exact ⟨i,j,rfl,rfl,c,k o _ H .refl R (.int _)⟩
theorem JX {g':Int->Int->Int}:cF K (jB fun i j=>some (g' i j)) (fD fun i j=>.int (g' i j)):=by
 intro h H n x y d g l m Q R c e b k
 obtain ⟨i,j,z,rfl,rfl,a,rfl,rfl⟩:=BF b
 cases c
 cases e
 cases a
 exact ⟨i,j,rfl,rfl,k h _ H .refl R (.int _)⟩
noncomputable def cA:=jB fun i j=>some (i - j)
noncomputable def BG:=jB fun i j=>if ((-(2 ^ 64)<i/\i<2 ^ 64)\/(-(2 ^ 64)<j/\j<2 ^ 64))\/(i.natAbs<2 ^ 4000/\j.natAbs<2 ^ 4000)\/TJ i+TJ j<=134217728 then some (i * j) else none
noncomputable def bZ:D->D->Hm->Option (D×Hm)
 | x,y,μ=>BG x y μ
noncomputable def cS:=jB fun i j=>if 0<j/\j<2 ^ 4000 then some (i / j) else none
noncomputable def bG:=jB fun i j=>if 0<j then some (i % j) else none
noncomputable def nD:=jB fun i j=>if (0<=j/\j<=1000000/\i.natAbs<2 ^ 64)\/(0<=j/\j<=100/\i.natAbs<2 ^ 4000) then some (i ^ j.toNat) else none
noncomputable def CMulB (i j:Int):Prop:=CMul i j\/(i.natAbs<2 ^ 4000/\j.natAbs<2 ^ 4000)\/TJ i+TJ j<=134217728
noncomputable def BH (i j:Int):Prop:=0<j/\j<2 ^ 4000
noncomputable def BI (i j:Int):Prop:=Hn i j\/(0<=j/\j<=100/\i.natAbs<2 ^ 4000)
theorem vJ {i:Int}(h:i.natAbs<2 ^ 4000):TJ i<=4000:=by
 unfold TJ
 split
 ·exact Um _
 ·rename_i b
  have a:i.natAbs≠0:=by
   intro z
   exact b (by simpa using z)
  have:=(a3A a).mpr h
  omega
theorem CMulB.ok {i j:Int}(h:CMulB i j):a1X i j:=by
 rcases h with h|⟨b,c⟩|h
 ·exact h.ok
 rotate_left
 ·have a:WT (TJ i+TJ j)=false:=by
   unfold WT
   rw [decide_eq_false]
   have:bitsLine=134217728:=by decide
   omega
  unfold a1X
  rw [a]
  simp
 ·have d:=vJ b
  have e:=vJ c
  have a:WT (TJ i+TJ j)=false:=by
   unfold WT
   rw [decide_eq_false]
   have:(8000:Int)<=bitsLine:=by decide
   omega
  unfold a1X
  rw [a]
  simp
section
variable {X:Cx}
theorem JY:OpR X (WJ .Mult) (rI CMulB fun i j=>.int (i * j)):=qW fun _ _ _ _ _ _ _ hc q=>a3s q hc.ok
theorem JZ:OpR X (WJ .FloorDiv) (rI BH fun i j=>.int (i / j)):=qW fun i j _ _ _ _ _ hc q=>by
 have c:(0:Int)<j:=hc.1
 have d:j<2 ^ 4000:=hc.2
 have a:j.natAbs≠0:=by omega
 have b:j.natAbs<2 ^ 4000:=by
  have:((2 ^ 4000:Nat):Int)=2 ^ 4000:=by decide
  omega
 have e:=(a3A a).mpr b
 exact a3u (by omega) (by rw [Int.fdiv_eq_ediv_of_nonneg i (by omega)];exact q) (.inl (PyProof.noPylong_of_log2 (by omega)))
theorem J0:OpR X (WJ .Pow) (rI BI fun i j=>.int (i ^ j.toNat)):=qW fun i j _ _ _ _ _ hc q=>by
 rcases hc with hc|⟨a,c,d⟩
 ·exact a3p hc.1 hc.2.1 hc.2.2 q
 ·have b:=vJ d
  refine a3q a ?_ q
  have:(TJ i:Int) * j<=4000 * 100:=Int.mul_le_mul (by omega) c a (by omega)
  omega
end
theorem rJ {c:Prop} [Decidable c] {a z:Int}(h:(if c then some a else none)=some z):c/\z=a:=by
 split at h
 ·cases h;exact ⟨by assumption,rfl⟩
 ·cases h
theorem J1:cF K cA (fD fun i j=>.int (i - j)):=JX
theorem J2:cF K BG (rI CMulB fun i j=>.int (i * j)):=rH fun i j z h=>by
 have:=rJ h
 exact this
theorem J3:cF K bZ (rI CMulB fun i j=>.int (i * j)):=J2
theorem J4:cF K cS (rI BH fun i j=>.int (i / j)):=rH fun i j z h=>by
 have:=rJ h
 exact this
theorem J5:cF K bG (rI (fun _ j=>0<j) fun i j=>.int (i % j)):=rH fun _ _ _ h=>rJ h
theorem J6:cF K nD (rI BI fun i j=>.int (i ^ j.toNat)):=rH fun i j z h=>by
 have:=rJ h
 exact this
noncomputable def vK:D->Option D
 | .int i=>some (.int (-i))
 | _=>none
noncomputable def bV:D->D->Hm->Option (D×Hm)
 | .int i,.int j,μ=>some (.int (i+j),μ)
 | .str x,.str y,μ=>if x.length+y.length<=S8 then some (.str (x++y),μ) else none
 | .loc a,.loc b,μ=>match μ[a]?,μ[b]? with
  | some (.lst xs),some (.lst ys)=>if xs.length+ys.length<=S8 then some (.loc μ.length,μ++[.lst (xs++ys)]) else none
  | _,_=>none
 | _,_,_=>none
noncomputable def vL (K:SJ):R2:=fun x y H Q=>fD (fun i j=>.int (i+j)) x y H Q\/(∃ i j,x=.str i/\y=.str j/\i.length+j.length<=S8/\Q (.str (i++j)) H)\/Bd x y H Q
theorem J7 {X:Cx}:OpR X (WJ .Add) (vL X.K):=op_add.or (op_add_str.or IK)
noncomputable abbrev vO (K:SJ):R2:=vL K
theorem J8 {X:Cx}:OpR X (WJ .Add) (vO X.K):=J7
theorem vP {K:SJ}{x y:V}{H:Hp}{Q:VK}(h:vL K x y H Q):vO K x y H Q:=h
theorem J9:cF K bV (vO K):=by
 intro o H E x y d z A B Q R c e a k
 unfold bV at a
 split at a
 ·cases a
  cases c
  cases e
  exact vP (.inl ⟨_,_,rfl,rfl,k o _ H .refl R (.int _)⟩)
 ·split at a
  ·rename_i b
   cases a
   cases c
   cases e
   exact vP (.inr (.inl ⟨_,_,rfl,rfl,b,k o _ H .refl R (.str _)⟩))
  ·cases a
 ·split at a
  ·rename_i m n u v
   split at a
   ·rename_i b
    cases a
    cases c
    cases e
    obtain ⟨j,g,h⟩:=R.lst _ m u
    obtain ⟨l,s,i⟩:=R.lst _ n v
    refine vP (.inr (.inr ⟨_,_,j,l,rfl,rfl,by first|exact g|exact .inl (.inl g),s,by rw [h.length,i.length];exact b,fun p w=>?_⟩))
    obtain ⟨r,R2,q⟩:=R.alloc (c:=.lst (m++n)) (o:=.lst (j++l)) w (h.append i)
    exact k _ _ _ r R2 fY
   ·cases a
  ·cases a
 ·cases a
noncomputable def eW (p:Int->Int->Bool):D->D->Hm->Option (D×Hm)
 | .int i,.int j,μ=>some (.bl (p i j),μ)
 | _,_,_=>none
theorem f6 {p:Int->Int->Bool}:cF K (eW p) (fD fun i j=>.bl (p i j)):=by
 intro g H m x y d e h l Q R b c a k
 unfold eW at a
 split at a
 ·cases a
  cases b
  cases c
  exact ⟨_,_,rfl,rfl,k g _ H .refl R (.bl _)⟩
 ·cases a
noncomputable def gP:=eW fun i j=>decide (i<j)
noncomputable def vQ:=eW fun i j=>decide (i<=j)
noncomputable def pG:=eW fun i j=>decide (j<i)
noncomputable def vT:=eW fun i j=>decide (j<=i)
noncomputable def vU (K:SJ)(ne:Bool):R2:=fun x y H Q=>∃ π a c d b,Rp K π H a/\IsD K π a.length H x c/\IsD K π a.length H y d/\c9 8 a c d=some b/\Q (.bl (if ne then !b else b)) H
theorem BJ {X:Cx}(c:X.A.units+8<UT):OpR X (Uq .Eq) (vU X.K false):=by
 intro a s p H x y v u Q I i j h
 obtain ⟨o,n,l,m,b,R,d,g,e,q⟩:=h
 exact (BE I R 8 c i j d g e).1 _ _ _ _ ⟨.bl b,H,I,rfl,q⟩
theorem BK {X:Cx}(c:X.A.units+8<UT):OpR X (Uq .NotEq) (vU X.K true):=by
 intro a s p H x y v u Q I i j h
 obtain ⟨o,n,l,m,b,R,d,g,e,q⟩:=h
 exact (BE I R 8 c i j d g e).2 _ _ _ _ ⟨.bl (!b),H,I,rfl,q⟩
noncomputable def bE (ne:Bool):D->D->Hm->Option (D×Hm):=fun x y a=>(c9 8 a x y).map fun b=>(.bl (if ne then !b else b),a)
theorem rK {ne:Bool}:cF K (bE ne) (vU K ne):=by
 intro a H j x y d l m n Q R h i g k
 obtain ⟨b,c,e⟩:=SS.mp g
 cases e
 exact ⟨a,j,x,y,b,R,h,i,c,k a _ H .refl R (.bl _)⟩
noncomputable def vV:D->D->Hm->Option (D×Hm)
 | .str i,.str j,μ=>some (.bl (!(Uy j i 0 j.length 1).isEmpty),μ)
 | _,_,_=>none
theorem BL:cF K vV (fun x y H Q=>∃ i j,x=.str i/\y=.str j/\Q (.bl (!(Uy j i 0 j.length 1).isEmpty)) H):=by
 intro g H m x y d e h l Q R b c a k
 unfold vV at a
 split at a
 ·cases a
  cases b
  cases c
  exact ⟨_,_,rfl,rfl,k g _ H .refl R (.bl _)⟩
 ·cases a
end
section
variable {X:Cx}{a b c:Expr}{ma mb mc:ME}{pos:UY}
theorem rL {k:Nat}{A:Tv}(r:Room k A):A.units+8<UT:=by have:=r.un;omega
theorem Ka (r:PE X a (tM X.K ma)):PE X (.UnaryOp .USub a pos) (tM X.K (fun ρ g=>(ma ρ g).bind fun p=>(vK p.1).map fun d=>(d,p.2))):=b6 (Hl Hr r) (by
 rintro A H Q ⟨w,ρ,g,d,u,R,E,e,k⟩
 obtain ⟨⟨x,v⟩,o,e⟩:=SF.mp e
 obtain ⟨y,j,q⟩:=SS.mp e
 cases q
 cases x with
 | int i=>
  cases j
  refine ⟨w,ρ,g,_,_,R,E,o,fun h z l n m s=>?_⟩
  cases s
  exact ⟨_,rfl,k h _ l n m (.int _)⟩
 | _=>cases j)
theorem Kb {x:Str}{n:String}(d:Gl X x)(e:X.mg x=none)(h:U4 x=some (.type n))(g:x ≠ "__name__":=by decide) (hd:(x == ("__debug__":Str))=false:=by decide):PE X (.Name x pos) (tM X.K (mC (.ty n))):=
 m7 (Gp (v:=.ty n) d e h rfl g hd) fun _ _ _=>.ty n
end
end L3
namespace L3
open PySem L2
noncomputable abbrev MG:=D->aH->Hm->Option aH
noncomputable def fG (K:SJ)(g:MG):TG:=fun v σ H Q=>∃ π ρ a d b,Rp K π H a/\En K π a.length H σ ρ/\IsD K π a.length H v d/\g d ρ a=some b/\∀ c,En K π a.length H c b->Q c H
noncomputable def cT (i:Nat):MG:=fun d ρ _=>some (ρ.set i (some d))
section
variable {X:Cx}{pos:UY}
theorem BM {i:Nat}{x:Str}(b:X.N.Nodup)(e:X.N[i]? = some x)(j:Loc X.env.scope x)(c:X.fn x=true\/X.env.scope.names.lookup x=some .local:=by first|exact .inl rfl|exact .inr rfl|assumption):PG X (.Name x pos) (fG X.K (cT i)):=by
 intro a s m H v u Q I r h
 obtain ⟨o,p,n,d,l,R,E,hd,g,k⟩:=h
 cases g
 exact Ay b e j c a s m H v u Q I r (k _ (E.set hd i))
noncomputable def Kc (K:SJ)(c:TE):TI:=fun σ H R=>c σ H fun x b=>∃ a,x=.ref a/\(((∃ xs,SqL K b a xs)/\R (uI K a) b)\/((∃ xs,SqT K b a xs)/\R (uJ K a) b))
theorem Kd {l tg:Expr}{r:TE}(u:PE X l r):PI X tg l (Kc X.K r):=by
 intro i s E H R I h
 refine aP (u i s E H _ I h) fun v c ⟨x,n,d,z,y⟩=>?_
 obtain ⟨a,e,q⟩:=y
 subst e
 cases z
 rcases q with ⟨⟨B,m⟩,q⟩|⟨⟨B,m⟩,q⟩
 ·obtain ⟨g,A,p,w⟩:=d.list m
  refine a2A p.isList ?_
  refine ⟨c.heap.objs.size,[c.heap.objs.size],_,_,n,rfl,d.kept (t':=c.toks) fun b o e=>SR _ e,G7 a _,⟨_,Te _ rfl,rfl,rfl⟩,fun b j=>?_,q⟩
  have e:b=c.heap.objs.size:=by simpa using j
  subst e
  exact d.fpOk (SX _) (d.hok.fresh (SX _))
 ·obtain ⟨g,A,p,w⟩:=d.tuple m
  refine a2j (show c.heap.IsTuple a g.toArray from p) ?_
  refine ⟨c.heap.objs.size,[c.heap.objs.size],_,_,n,rfl,d.kept (t':=c.toks) fun b o e=>SR _ e,G8 a _,⟨_,Te _ rfl,rfl,rfl⟩,fun b j=>?_,q⟩
  have e:b=c.heap.objs.size:=by simpa using j
  subst e
  exact d.fpOk (SX _) (d.hok.fresh (SX _))
end
structure Wk (K:SJ)(J:It)(src:Hm->Nat->Option (Option D))(π:Nat->Addr)(n:Nat)(H:Hp):Prop where
 stop:∀ π' μ H' i,Ext π n H π' μ.length H'->Rp K π' H' μ->src μ i=some none->J.stop i H'
 go:∀ π' μ H' i d,Ext π n H π' μ.length H'->Rp K π' H' μ->src μ i=some (some d)->J.go i H'/\∀ x H2,J.yld i H' x H2->Ext π' μ.length H' π' μ.length H2/\Rp K π' H2 μ/\IsD K π' μ.length H2 x d
noncomputable def jC (x:D):Hm->Nat->Option (Option D):=fun a i=>(bN a x).map fun xs=>xs[i]?
theorem Ke {K:SJ}{π:Nat->Addr}{B:Hm}{H:Hp}{v:V}{x:D}{xs:List D}(R:Rp K π H B)(h:IsD K π B.length H v x)(E:bN B x=some xs) :
  ∃ a,v=.ref a/\(((∃ b,SqL K H a b)/\Wk K (uI K a) (jC x) π B.length H)\/((∃ b,SqT K H a b)/\Wk K (uJ K a) (jC x) π B.length H)):=by
 cases h with
 | @tup p b ds q t=>
  refine ⟨p,rfl,.inr ⟨⟨b,q⟩,⟨fun l j r i e m z=>?_,fun l j r i d e m z=>?_⟩⟩⟩
  ·simp only [jC,bN,T9] at z
   have g:ds[i]? = none:=TL z
   exact ⟨b,e.sqT q,by rw [t.length];exact WG.mp g⟩
  ·simp only [jC,bN,T9] at z
   have g:ds[i]? = some d:=TL z
   obtain ⟨w,c,n⟩:=t.get g
   refine ⟨⟨b,w,e.sqT q,c⟩,fun y L ⟨s,u⟩=>?_⟩
   subst s
   have:=u b (e.sqT q)
   rw [c] at this
   cases this
   exact ⟨.refl,m,n.mono e⟩
 | @rol p b ds q t=>
  refine ⟨p,rfl,.inl ⟨⟨b,q.sq⟩,⟨fun l j r i e m z=>?_,fun l j r i d e m z=>?_⟩⟩⟩
  ·simp only [jC,bN,T9] at z
   have g:ds[i]? = none:=TL z
   exact ⟨b,(e.roL q).sq,by rw [t.length];exact WG.mp g⟩
  ·simp only [jC,bN,T9] at z
   have g:ds[i]? = some d:=TL z
   obtain ⟨w,c,n⟩:=t.get g
   refine ⟨⟨b,w,(e.roL q).sq,c⟩,fun y L ⟨s,u⟩=>?_⟩
   subst s
   have:=u b (e.roL q).sq
   rw [c] at this
   cases this
   exact ⟨.refl,m,n.mono e⟩
 | @loc a N=>
  have hc:∃ b,H (π a)=some (.lst b):=by
   simp only [bN] at E
   split at E
   ·rename_i o A
    obtain ⟨b,c,_⟩:=R.lst a o A
    exact ⟨b,c⟩
   ·cases E
  obtain ⟨I,G⟩:=hc
  refine ⟨π a,rfl,.inl ⟨⟨I,.of G⟩,⟨fun l j r i e m z=>?_,fun l j r i d e m z=>?_⟩⟩⟩
  ·simp only [jC,bN] at z
   split at z
   ·rename_i o A
    obtain ⟨b,c,n⟩:=m.lst a o A
    rw [e.pi a N] at c
    have g:o[i]? = none:=TL z
    exact ⟨b,.of c,by rw [n.length];exact WG.mp g⟩
   ·cases z
  ·simp only [jC,bN] at z
   split at z
   ·rename_i o A
    obtain ⟨b,c,n⟩:=m.lst a o A
    rw [e.pi a N] at c
    have g:o[i]? = some d:=TL z
    obtain ⟨w,M,O⟩:=n.get g
    refine ⟨⟨b,w,.of c,M⟩,fun y L ⟨s,u⟩=>?_⟩
    subst s
    have:=u b (.of c)
    rw [M] at this
    cases this
    exact ⟨.refl,m,O⟩
   ·cases z
 | _=>cases E
noncomputable def d7 (a:Hm->Nat->Option (Option D))(g:MG)(b:MS):Nat->Nat->MS
 | 0,_,_,_=>none
 | n+1,i,ρ,μ=>(a μ i).bind fun o=>match o with
  | none=>some (.nx,ρ,μ)
  | some d=>(g d ρ μ).bind fun c=>(b c μ).bind fun p=>match p.1 with
   | .nx=>d7 a g b n (i+1) p.2.1 p.2.2
   | .ct=>d7 a g b n (i+1) p.2.1 p.2.2
   | .bk=>some (.nx,p.2.1,p.2.2)
   | .rt d=>some (.rt d,p.2.1,p.2.2)
theorem Kf {K:SJ}{J:It}{B:Hm->Nat->Option (Option D)}{g:MG}{b:MS}{π:Nat->Addr}{Q:Nat}{O:Hp}(W:Wk K J B π Q O){E:Ends}{A:Fl}{p:aH}{j:Hm}(hE:lM K E π Q O A p j)
  {G:Nat->Addr}{u:Hm}{H1:Hp}{T:aH}{σ1:St}{n:Nat}(e1:Ext π Q O G u.length H1)(R1:Rp K G H1 u)(E1:En K G u.length H1 σ1 T)(h:d7 B g b n 0 T u=some (A,p,j)) :
  ∃ Wd:Nat->Nat->St->Hp->Prop,(∃ m,Wd 0 m σ1 H1)/\∀ i m X H,Wd i m X H->
   (J.stop i H/\E.nx X H)\/(J.go i H/\∃ N:St->Hp->Prop,(∀ w s,N w s->∃ m',m'<m/\Wd (i+1) m' w s)/\∀ x s,J.yld i H x s->fG K g x X s fun σ2 H2=>cP K b { E with nx:=N,ct:=N,bk:=E.nx } σ2 H2):=by
 have lift:∀ {a:Nat->Addr}{n2:Nat}{H2:Hp}(e:Ext π Q O a n2 H2){A:Fl}{p:aH}{j:Hm},lM K E π Q O A p j->lM K E a n2 H2 A p j:=fun {a n2 H2} e {A p j} k=>by
  cases A with
  | nx=>exact fun v r H3 e3 R3 M=>k v r H3 (e.trans e3) R3 M
  | bk=>exact fun v r H3 e3 R3 M=>k v r H3 (e.trans e3) R3 M
  | ct=>exact fun v r H3 e3 R3 M=>k v r H3 (e.trans e3) R3 M
  | rt d=>exact KC.after k e
 refine ⟨fun i m X H=>∃ a l I,Ext π Q O a l.length H/\Rp K a H l/\En K a l.length H X I/\d7 B g b m i I l=some (A,p,j),⟨n,G,u,T,e1,R1,E1,h⟩,?_⟩
 rintro i m X H ⟨a,l,I,z,R2,E2,h2⟩
 cases m with
 | zero=>cases h2
 | succ m=>
  obtain ⟨o,h3,h4⟩:=SF.mp h2
  cases o with
  | none=>
   cases h4
   exact .inl ⟨W.stop a _ H i z R2 h3,hE a X H z R2 E2⟩
  | some d=>
   obtain ⟨g1,g2⟩:=W.go a l H i d z R2 h3
   obtain ⟨ρ3,h5,h6⟩:=SF.mp h4
   obtain ⟨⟨f4,U,R⟩,h7,h8⟩:=SF.mp h6
   refine .inr ⟨g1,fun w s=>∃ c L q,Ext π Q O c q.length s/\Rp K c s q/\En K c q.length s w L/\d7 B g b m (i+1) L q=some (A,p,j),
    fun w s ⟨c,L,q,a1,a2,a3,a4⟩=>⟨m,XA _,c,q,L,a1,a2,a3,a4⟩,fun x s y=>?_⟩
   obtain ⟨ex,Rx,hx⟩:=g2 x s y
   have z:=z.trans ex
   refine ⟨a,I,l,d,ρ3,Rx,E2.mono ex,hx,h5,fun r M=>⟨a,ρ3,l,f4,U,R,Rx,M,h7,?_⟩⟩
   cases f4 with
   | nx=>exact fun c Y H5 e5 R5 Z=>⟨c,U,R,z.trans e5,R5,Z,h8⟩
   | ct=>exact fun c Y H5 e5 R5 Z=>⟨c,U,R,z.trans e5,R5,Z,h8⟩
   | bk=>
    cases h8
    exact fun c Y H5 e5 R5 Z=>hE c Y H5 (z.trans e5) R5 Z
   | rt d'=>
    cases h8
    exact KC.after hE z
section
variable {X:Cx}{pos:UY}{tg iter:Expr}{body:List Stmt}{mi:ME}{g:MG}{mb:MS}
noncomputable def iG (lo:Int)(n:Nat):Hm->Nat->Option (Option D):=fun _ i=>some (if i<n then some (.int (lo+i)) else none)
theorem BN {K:SJ}{lo:Int}{k:Nat}{π:Nat->Addr}{n:Nat}{H:Hp}:Wk K (oY lo k) (iG lo k) π n H:=by
 refine ⟨fun b m c i e R z=>?_,fun b m c i d e R z=>?_⟩
 ·have a:=TL z
  split at a
  ·cases a
  ·exact Xw.mp (by assumption)
 ·have a:=TL z
  split at a
  ·cases a
   rename_i h
   exact ⟨h,fun x o ⟨j,l⟩=>by subst j;rw [l];exact ⟨.refl,R,.int _⟩⟩
  ·cases a
end
end L3
namespace L3
open PySem L2
noncomputable def nE (y:Str):Str:="#"++y
noncomputable def bH (xs N:List Str):List Str:=N.map fun y=>if xs.contains y then nE y else y
theorem lP (xs N:List Str):(bH xs N).length=N.length:=by unfold bH;simp
theorem Kg {xs N:List Str}{i:Nat}{y:Str}(h:(bH xs N)[i]? = some y):∃ a,N[i]? = some a/\((xs.contains a=true/\y=nE a)\/(xs.contains a=false/\y=a)):=by
 unfold bH at h
 rw [Tx] at h
 obtain ⟨a,c,b⟩:=SS.mp h
 refine ⟨a,c,?_⟩
 cases hc:xs.contains a with
 | true=>rw [hc] at b;exact .inl ⟨rfl,by simpa using b.symm⟩
 | false=>rw [hc] at b;exact .inr ⟨rfl,by simpa using b.symm⟩
noncomputable def cG (X:Cx)(scope:Wh)(a:List (Str×Addr))(C:Addr)(N:List Str)(s₀:SM)(H₀:Hp)(b:List Addr):Cx:=
 { X with N:=N,s₀:=s₀,H₀:=H₀,env:=Xq scope a C X.env,outer:=X.stack,stack:=X.stack,ex:=b,fn:=fun _=>false,pn:=[],xe:=fun _ _=>False }
theorem BO {env:YU}:∀ (names:List (Str×V2))(x:Str),(names.map fun (n,k)=>if (k == Vz&&env.scope.kind == .function&&env.kindOf n == some .cell) then (n,VP) else (n,k)).lookup x
  = (names.lookup x).map fun k=>if (k == Vz&&env.scope.kind == .function&&env.kindOf x == some .cell) then VP else k
 | [],_=>rfl
 | (n,k)::r,x=>by
  have d:=BO (env:=env) r x
  rw [S5]
  by_cases c:x=n
  ·subst c
   have a:∀ (k':V2)(l:List (Str×V2)),Yu x ((x,k')::l)=some k':=fun k' l=>by simp [Xk]
   rw [a]
   show Yu x ((if (k == Vz&&env.scope.kind == .function&&env.kindOf x == some .cell)=true then (x,VP) else (x,k))::_)=some (if (k == Vz&&env.scope.kind == .function&&env.kindOf x == some .cell)=true then VP else k)
   split
   ·rw [a]
   ·rw [a]
  ·have b:(x == n)=false:=by simpa using c
   have a:∀ (k':V2)(l:List (Str×V2)),Yu x ((n,k')::l)=Yu x l:=fun k' l=>by simp only [Xk,b]
   rw [a]
   show Yu x ((if (k == Vz&&env.scope.kind == .function&&env.kindOf n == some .cell)=true then (n,VP) else (n,k))::_)=_
   split
   ·rw [a]
    exact d
   ·rw [a]
    exact d
structure CompOk (X:Cx)(scope:Wh)(cl:List (Str×Addr))(xs:List Str):Prop where
 clos:a2q scope X.env=pure cl
 nocell:∀ y∈scope.names,y.2≠.cell
 kind:scope.kind=.function
 names:∀ y∈scope.names,y.2=.local->scope.names.lookup y.1=some .local
 here:∀ x∈xs,scope.names.lookup x=some .local
 sub:∀ y c,cl.lookup y=some c->X.env.cells.lookup y=some c
 free:∀ y,scope.names.lookup y=some .free->(X.env.kindOf y=some .cell\/X.env.kindOf y=some .free)/\∃ c,cl.lookup y=some c
 own:∀ y,scope.names.lookup y=some .local->y∉bH xs X.N
 hidn:∀ y∈X.N,xs.contains y=true->scope.names.lookup (nE y)=none
section
variable {X:Cx}{scope:Wh}{cl:List (Str×Addr)}{xs:List Str}
theorem CompOk.kindOf (O:CompOk X scope cl xs)(C:Addr)(y:Str):(Xq scope cl C X.env).kindOf y=(scope.names.lookup y).map fun k=>if (k == Vz&&X.env.scope.kind == .function&&X.env.kindOf y == some .cell) then VP else k:=
 BO scope.names y
theorem CompOk.outer (O:CompOk X scope cl xs){C:Addr}{y:Str}(h:(Xq scope cl C X.env).kindOf y=some .cell\/(Xq scope cl C X.env).kindOf y=some .free):scope.names.lookup y=some .free:=by
 rw [O.kindOf] at h
 cases q:scope.names.lookup y with
 | none=>rw [q] at h;rcases h with h|h<;>cases h
 | some k=>
  rw [q] at h
  cases k with
  | free=>rfl
  | cell=>exact absurd rfl (O.nocell _ (Uz q))
  | «local»=>rcases h with h|h<;>simp at h
  | globalExplicit=>rcases h with h|h<;>simp at h
  | globalImplicit=>rcases h with h|h<;>simp at h
theorem CompOk.inv {a4b:List (Addr×Vu)}{σ:St}{H:Hp}{s:SM}{Z:List Addr}{d:Uj}{tk:Nat}(O:CompOk X scope cl xs)(I:Inv X a4b σ H s)(B:∀ b∈Z,gK X a4b H b)(hob:∀ b∈Z,∃ o,s.heap.get? b=some o){m:Str->Option SK}
  (hns:d.Ns s.heap.objs.size m)(N:∀ b o,s.heap.get? b=some o->d.get? b=some o) :
  Inv (cG X scope cl s.heap.objs.size (bH xs X.N++xs) s H Z) [] (σ++Vt xs.length none) H { s with heap:=d,toks:=tk }:=by
 refine ⟨⟨I.ok.mod,O.kind,I.ok.glob,I.ok.blt,SX _,fun y z c h1 A=>?_,fun y hy=>?_,(fun y c h=>by cases h),I.ok.hd,I.ok.frames,.inl rfl,fun b G=>?_,fun b o e=>I.bs b o e,TQ I.ok.bsz I.sz,fun b o e G=>?_,fun b G hb2=>?_,I.stack,I.stkFree⟩,
  rfl,I.bare,Un.kept N,⟨m,hns,fun i y v h1 A w=>?_⟩,fun y c h=>?_,I.hok.fresh (SX _),fun y c h=>I.freeC y c (O.sub y c h),fun p hp=>absurd (show p∈([]:List (Addr×Vu)) from hp) (by simp),I.hok.kept N,?_⟩
 ·exact I.ok.inj y z c (O.sub y c h1) (O.sub z c A)
 ·exact (O.free y (O.outer hy)).2
 ·obtain ⟨f0,T,U,x,Y,f5⟩:=B b G
  obtain ⟨o,M⟩:=hob b G
  exact ⟨Tp (S6 M),fun y c h=>Y y c (O.sub y c h)⟩
 ·obtain ⟨f0,T,U,x,Y,f5⟩:=B b G
  rcases x with x|x
  ·exact I.ok.noex b o e x
  ·exact absurd (TF (S6 (I.ok.bs b o e).1) x) (Vj _)
 ·obtain ⟨f0,T,U,x,Y,f5⟩:=B b G
  rcases To.mp (I.stkSub b hb2) with z|z
  ·exact T z
  ·exact U z
 ·have L:i<σ.length:=by
   by_cases L:i<σ.length
   ·exact L
   ·rw [Tg (Xw.mp L),V3] at A
    split at A<;>cases A
  rw [S7 L] at A
  have K:(bH xs X.N)[i]? = some y:=by
   have n:(bH xs X.N++xs)[i]? = some y:=h1
   rw [S7 (by rw [lP,<- I.len];exact L)] at n
   exact n
  have j:scope.names.lookup y≠some .local:=fun z=>O.own y z (Th K)
  have E:=O.kindOf s.heap.objs.size y
  have h1':X.N[i]? = some y:=by
   obtain ⟨y0,q1,R⟩:=Kg K
   rcases R with ⟨R,q3⟩|⟨R,q3⟩
   ·exfalso
    have hz:=O.hidn y0 (Th q1) R
    rw [<- q3] at hz
    rw [hz] at E
    have a:(Xq scope cl s.heap.objs.size X.env).kindOf y=some .local\/(Xq scope cl s.heap.objs.size X.env).kindOf y=some .cell\/(Xq scope cl s.heap.objs.size X.env).kindOf y=some .free:=w
    rw [E] at a
    rcases a with a|a|a<;>cases a
   ·rw [q3];exact q1
  have a:(Xq scope cl s.heap.objs.size X.env).kindOf y=some .cell\/(Xq scope cl s.heap.objs.size X.env).kindOf y=some .free:=by
   rcases w with w|w|w
   ·exfalso
    have a:(Xq scope cl s.heap.objs.size X.env).kindOf y=some .local:=w
    rw [E] at a
    cases q:scope.names.lookup y with
    | none=>rw [q] at a;cases a
    | some k=>
     rw [q] at a
     cases k with
     | «local»=>exact j q
     | cell=>simp at a
     | free=>
      simp only [T9] at a
      split at a<;>cases a
     | globalExplicit=>simp at a
     | globalImplicit=>simp at a
   ·exact .inl w
   ·exact .inr w
  obtain ⟨g,c,hc⟩:=O.free y (O.outer a)
  obtain ⟨m0,hn0,hl0⟩:=I.loc
  obtain ⟨u,r,l⟩:=hl0 i y v h1' A (by rcases g with g|g;exact .inr (.inl g);exact .inr (.inr g))
  refine ⟨u,r,.inr ⟨a,c,hc,?_⟩⟩
  rcases l with ⟨Q,_⟩|⟨_,c',e',z⟩
  ·exfalso
   rcases g with g|g
   ·rw [g] at Q;cases Q
   ·rw [g] at Q;cases Q
  ·rw [O.sub y c hc] at e'
   cases e'
   obtain ⟨o,M,hd⟩:=z
   exact ⟨o,N c o M,hd⟩
 ·obtain ⟨v,q⟩:=I.cell y c (O.sub y c h)
  exact ⟨v,by obtain ⟨o,M,hd⟩:=q;exact ⟨o,N c o M,hd⟩⟩
 ·show (σ++Vt xs.length none).length=(bH xs X.N++xs).length
  rw [SV,SV,I.len,VM,lP]
theorem CompOk.back {a4b T:List (Addr×Vu)}{σ K:St}{H i:Hp}{s j:SM}{l:List Addr}{h':Uj}{N:List Str}(I:Inv X a4b σ H s)(y:∀ b∈l,gK X a4b H b)
  (J:Inv (cG X scope cl s.heap.objs.size N s H l) T K i j)(x:∀ b o,b≠s.heap.objs.size->j.heap.get? b=some o->h'.get? b=some o):Inv X a4b σ i { j with heap:=h' }:=by
 have u:Un (fT X.stack) l H i s.heap h':=by
  have h:Un (fT X.stack) l H i s.heap j.heap:=J.base
  have ne:∀ b o,s.heap.get? b=some o->b≠s.heap.objs.size:=fun b o e=>Tp (S6 e)
  refine ⟨fun b o e n m p=>x b o (ne b o e) (h.keep b o e n m p),fun b o e n m p=>?_,h.free,fun b o e p=>?_,h.tups,h.frzs,h.tbls⟩
  ·obtain ⟨U,q⟩:=h.slot b o e n m p
   exact ⟨U,x b _ (ne b o e) q⟩
  ·obtain ⟨R,q⟩:=h.there b o e p
   exact ⟨R,x b _ (ne b o e) q⟩
 have a:i s.heap.objs.size=none:=J.free
 have A:HOk X.prog X.w i h':=fun b v e=>by
  refine (J.hok b v e).stay (fun c w hc q=>x c w ?_ q) (fun _ q=>q) fun _ _ q=>q
  rcases hc with z|z
  ·rw [z]
   intro G
   rw [G,a] at e
   cases e
  ·intro G
   rw [G,a] at z
   cases z
 have B:j.os=s.os:=J.os
 obtain ⟨hh,g,d,t,E⟩:=j
 obtain rfl:E=s.os:=B
 have r:=Inv.call (X:=X) (a4b:=a4b) (σ:=σ) (H:=H) (s:=s) (h':=h') (g':=g) (d':=d) (t':=t) (ch:=l) I u A J.bare fun b m=>let ⟨Y,L,Z,M,O,Q⟩:=y b m;⟨M,L,O,Q⟩
 exact r
end
theorem Kh {prog:Tj}{w:TH}{A:Tv}{R:a1o->SM->Prop}{s:SM}{elt a iter:Expr}{ifs:List Expr}{scope:Wh}{pos:UY}{E q:SK}{env:YU}(I:Nat->SM->Prop)
  (turn:∀ n s,I n s->Tn (Tr prog w) A (Yi E) (fun r d=>match r with
   | none=>R (.ok .next) d
   | some v=>Tn (Tr prog w) A (YD a E v) (fun _ e=>Tn (Tr prog w) A (Zf a env v) (fun _ l=>
     Tn (Tr prog w) A (forIn ifs true fun c r=>if r=true then do let ok <- a1k c env (eval c env);pure (WC ok) else pure (WC r)) (fun ok g=>
      if ok=true then Tn (Tr prog w) A (eval elt env) (fun x o=>
       Tn (Tr prog w) A (call (.builtin "list.append") [q,x]) (fun _ p=>∃ m,m<n/\I m p) (fun _ _=>False) o) (fun _ _=>False) g
      else ∃ m,m<n/\I m g) (fun _ _=>False) l) (fun _ _=>False) e) (fun _ _=>False) d) (fun _ _=>False) s)
  (n:Nat)(h:I n s) :
  Yg (Tr prog w) A (.compLoop (.ListComp elt [⟨a,iter,ifs,0⟩] scope pos) 0 E q env) R s:=by
 refine codeAny_loop rfl I (fun n s G=>?_) n h
 show Tn _ A ((compTurn (.ListComp elt [⟨a,iter,ifs,0⟩] scope pos) 0 E q env).onRaise (fun x=>do noteFrame x env;theTreesLotGoes x)) _ _ s
 refine wpAny_noted ?_
 rw [compTurn_list]
 refine SG (a0H (SG (T7 (turn n s G) (fun r d i=>?_) fun _ _ b=>b.elim)))
 cases r with
 | none=>exact SU i
 | some v=>
  refine SG (T7 i (fun _ e u=>?_) fun _ _ b=>b.elim)
  refine SG (T7 u (fun _ l y=>SG (T7 y (fun ok g j=>?_) fun _ _ b=>b.elim)) fun _ _ b=>b.elim)
  cases ok with
  | false=>exact SU ⟨rfl,j⟩
  | true=>
   exact SG (SG (T7 j (fun x o z=>SG (T7 z (fun _ p B=>SU (SU ⟨rfl,B⟩)) fun _ _ b=>b.elim)) fun _ _ b=>b.elim))
noncomputable def nF (b:Hm)(a:Nat)(y:D):Option Hm:=match b[a]? with
 | some (.lst xs)=>if xs.length<S8 then some (b.set a (.lst (xs++[y]))) else none
 | _=>none
noncomputable abbrev BD:=D->Hm->Option aH
noncomputable def pH:BD:=fun d _=>some [some d]
noncomputable def BP (k:Nat):BD:=fun d a=>(bN a d).bind fun xs=>if xs.length=k then some (xs.map some) else none
noncomputable def jD (a:Hm->Nat->Option (Option D))(g:BD)(c:MT)(e:ME)(ρ:aH)(b:Nat):Nat->Nat->Hm->Option Hm
 | 0,_,_=>none
 | n+1,i,μ=>(a μ i).bind fun o=>match o with
  | none=>some μ
  | some d=>(g d μ).bind fun x=>(c (ρ++x) μ).bind fun p=>match p.1 with
   | true=>(e (ρ++x) p.2).bind fun q=>(nF q.2 b q.1).bind fun h=>jD a g c e ρ b n (i+1) h
   | false=>jD a g c e ρ b n (i+1) p.2
noncomputable def lQ:MT:=fun _ a=>some (true,a)
noncomputable def nG (X:Cx)(ifs:List Expr)(m:MT):Prop:=
 ∀ (a4b:List (Addr×Vu))(s:SM)(σ:St)(H:Hp)(Q:Bool->Hp->Prop),Inv X a4b σ H s->cI X.K m σ H Q->
  Tn (Tr X.prog X.w) X.A (forIn ifs true fun c r=>if r=true then do let ok <- a1k c X.env (eval c X.env);pure (WC ok) else pure (WC r)) (TP X a4b σ Q) X.xe s
theorem Ki {X:Cx}:nG X [] lQ:=by
 intro a s j H Q I h
 obtain ⟨e,i,g,b,d,R,E,c,k⟩:=h
 cases c
 exact wpAny_tests_nil ⟨H,I,k e H .refl R⟩
theorem Kj {X:Cx}{c:Expr}{m:MT}(h:PT X c (cI X.K m)):nG X [c] m:=fun a4b s σ H Q I q=>wpAny_tests_one (h a4b s σ H Q I q)
end L3
namespace L3
open PySem L2
section
variable {prog:Tj}{w:TH}{A:Tv}{E:SK->SM->Prop}{s:SM}
theorem BQ {e t:Addr}{items:Array SK}(h:t≠e):∀ (n i:Nat)(s:SM)(Q:List SK->SM->Prop),s.heap.IsListIter e t i->s.heap.IsList t items->i+n<=items.size->
  (∀ l,l.IsListIter e t (i+n)->WB e s.heap l->Q ((items.toList.drop i).take n) { s with heap:=l })->Tn (Tr prog w) A (draw (.ref e) n) Q E s
 | 0,i,s,Q,hit,_,_,hQ=>by
  show Tn _ _ (pure []) Q E s
  exact SU (by simpa using hQ s.heap hit (Z4 ..))
 | n+1,i,s,Q,hit,ht,hle,hQ=>by
  have g:i<items.size:=by omega
  show Tn _ _ (Yi (.ref e) >>= _) Q E s
  refine SG (a1f hit ht (x:=items[i]) (by simp [g]) fun m b a=>?_)
  refine SG (Uc (BQ h n (i+1) _ _ b (ht.extBut a.extBut h) (by omega) fun j c d=>SU ?_))
  have hd:items.toList.drop i=items[i]::items.toList.drop (i+1):=by simp [UZ,g]
  have:=hQ j (by rw [show i+(n+1)=i+1+n by omega];exact c) (a.trans d)
  rw [hd,YE] at this
  exact this
theorem Kk {t:Addr}{items:Array SK}{Q:List SK->SM->Prop}(r:A.handled=none)(j:s.heap.IsList t items)
  (q:∀ n,Zk s.heap.objs.size s.heap n->Q items.toList { s with heap:=n }):Tn (Tr prog w) A (unpackItems (.ref t) items.size none) Q E s:=by
 have i:t≠s.heap.objs.size:=by obtain ⟨o,u,_⟩:=j;exact Tp (S6 u)
 unfold unpackItems
 refine SG ?_
 ·unfold notIterableAtAll
  refine SG (YB j.typeIs slot_list_iter.lookup ?_)
  refine SU ?_
  simp only [S9,if_false]
  refine SG (Uc (a2A j ?_))
  refine SG (Uc (BQ i items.size 0 _ _ ⟨_,Te _ rfl,rfl,rfl⟩ (j.push _) (by omega) fun l c a=>?_))
  have h:List.take items.size (List.drop 0 items.toList)=items.toList:=by
   rw [V5];exact VE (by simp)
  rw [h]
  rw [if_neg (by simp)]
  have g:l.IsList t items:=(j.push _).extBut a.extBut i
  refine SG (Uc (a1z r c g (by simp) fun m d=>?_))
  simp only [Option.isSome_none,S9,if_false]
  refine SU (q m fun b o p e=>d b o p (a.extBut b o p (SR _ e)))
theorem Kl {env:YU}{a:List Expr} {x1} {pos:UY}{t:Addr}{items:Array SK}{Q:Unit->SM->Prop}(d:A.handled=none)(g:s.heap.IsList t items)
  (e:(VF a env).length=items.size)(b:(VF a env).findIdx? (·.1)=none)
  (h:∀ c,Zk s.heap.objs.size s.heap c->Tn (Tr prog w) A (assignInOrder ((VF a env).map (·.2)) items.toList) Q E { s with heap:=c }) :
  Tn (Tr prog w) A (Zf (.Tuple a x1 pos) env (.ref t)) Q E s:=by
 rw [a3z]
 refine SG (a0H ?_)
 unfold unpack
 rw [e,b]
 exact SG (Uc (Kk d g h))
end
noncomputable def lR:aH->List Nat->List D->aH
 | ρ,i::is,x::xs=>lR (ρ.set i (some x)) is xs
 | ρ,_,_=>ρ
noncomputable def eX (is:List Nat):MG:=fun d ρ a=>(bN a d).bind fun xs=>if xs.length=is.length then some (lR ρ is xs) else none
noncomputable def rM:List Nat->mY
 | []=>Az
 | i::r=>AA (uG i) (rM r)
theorem vW {K:SJ}{π:Nat->Addr}{n:Nat}{H:Hp}:∀ (is:List Nat){vs:List V}{xs:List D}{σ:St}{ρ:aH}{Q:St->Hp->Prop},IsDs K π n H vs xs->En K π n H σ ρ->xs.length=is.length->(∀ a,En K π n H a (lR ρ is xs)->Q a H)->rM is vs σ H Q
 | [],vs,xs,σ,ρ,Q,h,E,hl,k=>by
  cases h with
  | nil=>exact ⟨rfl,k σ E⟩
  | cons h t=>cases hl
 | i::is,vs,xs,σ,ρ,Q,h,E,hl,k=>by
  cases h with
  | nil=>cases hl
  | cons h t=>exact ⟨_,_,rfl,vW is t (E.set h i) (by simpa using hl) k⟩
section
variable {X:Cx}{pos:UY}
theorem Km {es:List Expr}{k:Nat}{is:List Nat}(hc:X.calm=true)(h:oX X es (rM is))(K:(VF es X.env).length=is.length:=by rfl)(m:(VF es X.env).findIdx? (·.1)=none:=by rfl) :
  PG X (.Tuple es k pos) (fG X.K (eX is)):=by
 intro i s w H v u Q I r hw
 obtain ⟨N,ρ,M,d,ρ',R,E,hd,U,L⟩:=hw
 obtain ⟨G,j,z⟩:=SF.mp U
 split at z
 ·rename_i p
  cases z
  have both:(∃ a g,v=.ref a/\SqT X.K H a g/\IsDs X.K N M.length H g G)\/(∃ a g,v=.ref a/\SqL X.K H a g/\IsDs X.K N M.length H g G):=by
   cases hd with
   | tup q t=>cases j;exact .inl ⟨_,_,rfl,q,t⟩
   | rol q t=>cases j;exact .inr ⟨_,_,rfl,q.sq,t⟩
   | @loc a ha=>
    simp only [bN] at j
    split at j
    ·rename_i ys Y
     cases j
     obtain ⟨g,O,T⟩:=R.lst a G Y
     exact .inr ⟨_,g,rfl,.of O,T⟩
    ·cases j
   | _=>cases j
  rcases both with ⟨a,g,rfl,q,t⟩|⟨a,g,rfl,q,t⟩
  ·cases r
   obtain ⟨l,n,A,Z⟩:=I.tuple q
   have c:l.length=is.length:=by rw [<- n.length,t.length];exact p
   refine a3y (I.ok.hd hc) A (by simp [K,c]) m fun y B=>?_
   have x:Inv X i w H { s with heap:=y }:=I.kept (t':=s.toks) fun b o e=>B b o (Tp (S6 e)) e
   exact h i _ w H g _ Q x (by simpa using n) (vW is t E p L)
  ·cases r
   obtain ⟨l,n,A,Z⟩:=I.list q
   have c:l.length=is.length:=by rw [<- n.length,t.length];exact p
   refine Kl (I.ok.hd hc) A.isList (by simp [K,c]) m fun y B=>?_
   have x:Inv X i w H { s with heap:=y }:=I.kept (t':=s.toks) fun b o e=>B b o (Tp (S6 e)) e
   exact h i _ w H g _ Q x (by simpa using n) (vW is t E p L)
 ·cases z
noncomputable def kB (m:ME)(g:MG):MS:=fun ρ b=>(m ρ b).bind fun p=>(g p.1 ρ p.2).map fun a=>(.nx,a,p.2)
theorem Kn {tg e:Expr}{m:ME}{g:MG}(q:PE X e (tM X.K m))(r:PG X tg (fG X.K g))(s:swapsWithSole [tg] e pos.line X.env=pure false:=by rfl)(hw:a0J [tg] e X.env=pure none:=by rfl)
  (h1:(VF [tg] X.env).map (·.2)=[Zf tg X.env]:=by rfl):PS X (.Assign [tg] e pos) (cP X.K (kB m g)):=iC (G3 q r s hw h1) (by
 rintro E I H ⟨y,l,v,B,z,w,R,h,a,k⟩
 obtain ⟨⟨x,c⟩,h1,a⟩:=SF.mp a
 obtain ⟨A,p,a⟩:=SS.mp a
 cases a
 exact ⟨y,l,v,x,c,R,h,h1,fun b G o j i u=>⟨b,l,_,x,_,i,h.mono j,u,p,fun d n=>k b d o j i n⟩⟩)
end
section
variable {X:Cx}{K:SJ}
noncomputable def pI:MF:=fun ds a=>match ds with
 | [.str z]=>if z.length<=S8 then some (.int z.length,a) else none
 | [x]=>(bN a x).map fun b=>(.int b.length,a)
 | _=>none
noncomputable def vX (K:SJ):List V->Hp->VK->Prop:=fun xs H Q=>(∃ p a,xs=[.ref p]/\(SqL K H p a\/SqT K H p a)/\Q (.int a.length) H)\/(∃ z,xs=[.str z]/\z.length<=S8/\Q (.int z.length) H)
theorem call_lenM:CallR X (.builtin "len") (vX X.K):=call_len_seq.or ID
theorem pJ {π:Nat->Addr}{b:Hm}{H:Hp}{v:V}{x:D}{xs:List D}(R:Rp K π H b)(h:IsD K π b.length H v x)(e:bN b x=some xs):∃ p vs,v=.ref p/\(SqL K H p vs\/SqT K H p vs)/\IsDs K π b.length H vs xs:=by
 cases h with
 | tup q t=>cases e;exact ⟨_,_,rfl,.inr q,t⟩
 | rol q t=>cases e;exact ⟨_,_,rfl,.inl q.sq,t⟩
 | @loc a i=>
  simp only [bN] at e
  split at e
  ·rename_i j g
   cases e
   obtain ⟨vs,c,d⟩:=R.lst a xs g
   exact ⟨_,vs,rfl,.inl (.of c),d⟩
  ·cases e
 | _=>cases e
theorem BR:dW K pI (vX K):=by
 intro b H o m d j l Q R i a k
 unfold pI at a
 split at a
 ·split at a
  ·rename_i g
   cases a
   cases i with
   | cons i t=>cases i;cases t;exact .inr ⟨_,rfl,g,k b _ H .refl R (.int _)⟩
  ·cases a
 ·obtain ⟨n,c,e⟩:=SS.mp a
  cases e
  cases i with
  | cons i t=>
   cases t
   obtain ⟨p,h,rfl,q,hd⟩:=pJ R i c
   refine .inl ⟨p,h,rfl,q,?_⟩
   rw [hd.length]
   exact k b _ H .refl R (.int _)
 ·cases a
noncomputable def rN:MF:=fun ds a=>match ds with
 | [x]=>(bN a x).map fun b=>(.loc a.length,a++[.lst b])
 | _=>none
theorem BS:dW K rN (fun xs H Q=>∃ p a,xs=[.ref p]/\(SqL K H p a\/SqT K H p a)/\∀ l,H l=none->Q (.ref l) (aI H l (.lst a))):=by
 intro r H o xs d m n Q R i b k
 unfold rN at b
 split at b
 ·obtain ⟨a,g,h⟩:=SS.mp b
  cases h
  cases i with
  | cons i t=>
   cases t
   obtain ⟨p,c,rfl,q,hd⟩:=pJ R i g
   refine ⟨p,c,rfl,q,fun l j=>?_⟩
   obtain ⟨e,R2,_⟩:=R.alloc (c:=.lst a) (o:=.lst c) j hd
   exact k _ _ _ e R2 fY
 ·cases b
end
noncomputable def kC:D->Option aF
 | .int i=>some (.inl i)
 | .str x=>some (.inr x)
 | _=>none
noncomputable def vY (kvs:List (aF×D))(k:aF)(d:D):List (aF×D):=
 if (kvs.any fun a=>decide (a.1=k))=true then kvs.map (fun a=>if a.1=k then (a.1,d) else a) else kvs++[(k,d)]
noncomputable def pK (kvs more:List (aF×D)):List (aF×D):=more.foldl (fun a b=>vY a b.1 b.2) kvs
noncomputable def d8 (kvs:List (aF×D))(k:aF):Option D:=(kvs.find? fun a=>decide (a.1=k)).map (·.2)
inductive IsKs (K:SJ)(π:Nat->Addr)(n:Nat)(H:Hp):List (aF×V)->List (aF×D)->Prop where
 | nil:IsKs K π n H [] []
 | cons {k:aF}{v:V}{d:D}{vs:List (aF×V)}{ds:List (aF×D)}(h:IsD K π n H v d)(t:IsKs K π n H vs ds):IsKs K π n H ((k,v)::vs) ((k,d)::ds)
section
variable {K:SJ}{π π':Nat->Addr}{n n':Nat}{H H':Hp}
theorem IsKs.mono {vs:List (aF×V)}{ds:List (aF×D)}(e:Ext π n H π' n' H')(h:IsKs K π n H vs ds):IsKs K π' n' H' vs ds:=by
 induction h with
 | nil=>exact .nil
 | cons h t a=>exact .cons (h.mono e) a
theorem IsKs.maps {vs:List (aF×V)}{ds:List (aF×D)}(h:IsKs K π n H vs ds):vs.map (·.1)=ds.map (·.1)/\IsDs K π n H (vs.map (·.2)) (ds.map (·.2)):=by
 induction h with
 | nil=>exact ⟨rfl,.nil⟩
 | cons h t a=>exact ⟨by rw [S5,S5,a.1],.cons h a.2⟩
theorem IsKs.of:∀ {vs:List (aF×V)}{ds:List (aF×D)},vs.map (·.1)=ds.map (·.1)->IsDs K π n H (vs.map (·.2)) (ds.map (·.2))->IsKs K π n H vs ds
 | [],[],_,_=>.nil
 | [],_::_,h,_=>by cases h
 | _::_,[],h,_=>by cases h
 | (k,v)::vs,(k',d)::ds,h,t=>by
  rw [S5,S5] at h t
  injection h with h1 h2
  dsimp only at h1
  subst h1
  cases t with
  | cons a b=>exact .cons a (IsKs.of h2 b)
theorem IsKs.append {vs ws:List (aF×V)}{ds es:List (aF×D)}(h:IsKs K π n H vs ds)(a:IsKs K π n H ws es):IsKs K π n H (vs++ws) (ds++es):=by
 induction h with
 | nil=>exact a
 | cons h t b=>exact .cons h b
theorem IsKs.any {vs:List (aF×V)}{ds:List (aF×D)}(h:IsKs K π n H vs ds)(k:aF):(vs.any fun a=>decide (a.1=k))=ds.any fun a=>decide (a.1=k):=by
 induction h with
 | nil=>rfl
 | cons h t b=>rw [XB,XB,b]
theorem IsKs.repl {vs:List (aF×V)}{ds:List (aF×D)}(h:IsKs K π n H vs ds){v:V}{d:D}(c:IsD K π n H v d)(k:aF):IsKs K π n H (vs.map fun a=>if a.1=k then (a.1,v) else a) (ds.map fun a=>if a.1=k then (a.1,d) else a):=by
 induction h with
 | nil=>exact .nil
 | @cons g j i vs ds h t b=>
  rw [S5,S5]
  by_cases e:g=k
  ·simp only [e,if_true]
   exact .cons c b
  ·simp only [e,if_false]
   exact .cons h b
theorem IsKs.put {vs:List (aF×V)}{ds:List (aF×D)}(h:IsKs K π n H vs ds){v:V}{d:D}(a:IsD K π n H v d)(k:aF):IsKs K π n H (dU vs k v) (vY ds k d):=by
 unfold dU vY
 rw [h.any k]
 split
 ·exact h.repl a k
 ·exact h.append (.cons a .nil)
theorem IsKs.merge {ws:List (aF×V)}{es:List (aF×D)}(a:IsKs K π n H ws es):∀ {vs:List (aF×V)}{ds:List (aF×D)},IsKs K π n H vs ds->IsKs K π n H (lG vs ws) (pK ds es):=by
 induction a with
 | nil=>exact fun h=>h
 | cons h t c=>exact fun b=>c (b.put h _)
theorem IsKs.val {vs:List (aF×V)}{ds:List (aF×D)}(h:IsKs K π n H vs ds)(k:aF):(d8 ds k=none/\dF vs k=none)\/∃ v d,d8 ds k=some d/\dF vs k=some v/\IsD K π n H v d:=by
 induction h with
 | nil=>exact .inl ⟨rfl,rfl⟩
 | @cons a c b vs ds h t j=>
  by_cases e:a=k
  ·exact .inr ⟨c,b,by simp [d8,Uu,e],by simp [dF,Uu,e],h⟩
  ·have g:d8 ((a,b)::ds) k=d8 ds k:=by simp [d8,Uu,e]
   have i:dF ((a,c)::vs) k=dF vs k:=by simp [dF,Uu,e]
   rw [g,i]
   exact j
theorem IsKs.length {vs:List (aF×V)}{ds:List (aF×D)}(h:IsKs K π n H vs ds):vs.length=ds.length:=by
 induction h with
 | nil=>rfl
 | cons h t a=>rw [Ti,Ti,a]
theorem BU {y:V}{d:D}{k:aF}(h:IsD K π n H y d)(e:kC d=some k):y=kV k:=by
 cases h<;>first|cases e;done|(cases e;rfl)
end
noncomputable def lS:List (ME×ME)->aH->Hm->Option (List (aF×D)×Hm)
 | [],_,μ=>some ([],μ)
 | (k,v)::r,ρ,μ=>(k ρ μ).bind fun p=>(v ρ p.2).bind fun q=>(kC p.1).bind fun a=>(lS r ρ q.2).map fun t=>((a,q.1)::t.1,t.2)
noncomputable def kD (b:List (ME×ME)):ME:=fun ρ a=>(lS b ρ (a++[.dK []])).bind fun p=>match p.2[a.length]? with
 | some (.dK [])=>if p.1.length<=15 then some (.loc a.length,p.2.set a.length (.dK (pK [] p.1))) else none
 | _=>none
noncomputable def nH (K:SJ)(a:List (ME×ME)):List (TE×TE):=a.map fun p=>(tM K p.1,tM K p.2)
theorem BV {K:SJ}:∀ (e:List (ME×ME)){π:Nat->Addr}{ρ:aH}{c a:Hm}{H:Hp}{σ:St}{kvs:List (aF×D)}{Q:List (V×V)->Hp->Prop},Rp K π H c->En K π c.length H σ ρ->lS e ρ c=some (kvs,a)->
  (∀ d h i,Ext π c.length H d a.length h->Rp K d h a->IsKs K d a.length h i kvs->Q (i.map fun q=>(kV q.1,q.2)) h)->rA (nH K e) σ H Q
 | [],π,ρ,c,a,H,σ,kvs,Q,R,E,b,k=>by
  cases b
  exact k π H [] .refl R .nil
 | (mk,mv)::r,π,ρ,c,a,H,σ,kvs,Q,R,E,b,k=>by
  obtain ⟨⟨x,g⟩,w,b⟩:=SF.mp b
  obtain ⟨⟨y,l⟩,z,b⟩:=SF.mp b
  obtain ⟨M,A,b⟩:=SF.mp b
  obtain ⟨⟨Y,O⟩,B,b⟩:=SS.mp b
  cases b
  refine ⟨π,ρ,c,x,g,R,E,w,fun m Z U j u G=>⟨m,ρ,g,y,l,u,E.mono j,z,fun T N X o R2 I=>?_⟩⟩
  refine BV r R2 ((E.mono j).mono o) B fun n s i p v L=>?_
  have:=BU G A
  subst this
  exact k n s ((M,N)::i) ((j.trans o).trans p) v (.cons (I.mono p) L)
section
variable {X:Cx}{a b c:Expr}{ma mb mc:ME}{pos:UY}
theorem Ko:i7 X pos [] [] (nH X.K []):=HY
theorem Kp {k v:Expr}{mk e:ME}{ks:List (Option Expr)}{vs:List Expr}{d:List (ME×ME)}(g:PE X k (tM X.K mk))(i:PE X v (tM X.K e))(h:i7 X pos ks vs (nH X.K d)):i7 X pos (some k::ks) (v::vs) (nH X.K ((mk,e)::d)):=HZ g i h
theorem Kq {keys:List (Option Expr)}{e:List Expr}{i:List (ME×ME)}(h:i7 X pos keys e (nH X.K i))(j:keys.all (·.isSome)=true)(O:keys.length=e.length)(L:keys≠[])
  (r:keys.length<=15):PE X (.Dict keys e pos) (tM X.K (kD i)):=b6 (Ib h j O L r) (by
 rintro σ H Q ⟨π,ρ,o,d,Y,R,E,g,k⟩ p T
 obtain ⟨⟨u,v⟩,M,g⟩:=SF.mp g
 split at g
 ·rename_i hc
  split at g
  ·rename_i l
   cases g
   obtain ⟨x,K,U⟩:=R.alloc (c:=.dK []) (o:=.dK []) T ⟨rfl,.nil⟩
   refine BV i K (E.mono x) M fun q Z G y R2 B=>?_
   have m:o.length<v.length:=(SN.mp hc).1
   have n:q o.length=p:=by rw [y.pi o.length (by simp),U]
   obtain ⟨I,s,N,h5⟩:=R2.dK o.length [] hc
   have hw:I=[]:=by
    cases I with
    | nil=>rfl
    | cons z zs=>cases N
   subst hw
   obtain ⟨A,w⟩:=R2.put (a:=o.length) (c:=.dK (pK [] u)) (o:=.dK (lG [] G)) m s (.inr (.inl ⟨_,rfl⟩)) (IsKs.maps (B.merge .nil))
   rw [n] at s A w
   refine ⟨s,G,rfl,by rw [B.length];exact l,k q _ _ ((x.trans y).trans A) w ?_⟩
   rw [<- n]
   exact .loc (by rw [Wj];exact m)
  ·cases g
 ·cases g)
noncomputable def pL:D->D->Hm->Option (D×Hm)
 | .loc a,y,μ=>match μ[a]? with
  | some (.dK kvs)=>(kC y).bind fun k=>(d8 kvs k).map fun d=>(d,μ)
  | _=>none
 | _,_,_=>none
theorem Kr {K:SJ}{π:Nat->Addr}{i:Hm}{H:Hp}{a:Nat}{kvs:List (aF×D)}(R:Rp K π H i)(h:i[a]? = some (.dK kvs)){y:V}{m:D}{k:aF}(r:IsD K π i.length H y m)(q:kC m=some k) :
  (d8 kvs k=none/\DGet H (π a) y none)\/∃ v d,d8 kvs k=some d/\DGet H (π a) y (some v)/\IsD K π i.length H v d:=by
 obtain ⟨u,n,o,p⟩:=R.dK a kvs h
 have e:=BU r q
 subst e
 have g:=DGet.k (k:=k) n
 rcases (IsKs.of o p).val k with ⟨j,l⟩|⟨v,d,j,l,s⟩
 ·exact .inl ⟨j,by rw [<- l];exact g⟩
 ·exact .inr ⟨v,d,j,by rw [<- l];exact g,s⟩
theorem Ks (o:X.A.units+1<UT)(l:PE X a (tM X.K ma))(m:PE X b (tM X.K mb))(n:q9 b):PE X (.Subscript a b pos) (tM X.K (aB pL ma mb)):=b6 (HW o l m n) (by
 intro A H Q h
 refine m8 (r:=fun x y H Q=>∃ a v,x=.ref a/\DGet H a y (some v)/\Q v H) ?_ A H Q h
 intro z H L x y d w I K Q R p q e k
 unfold pL at e
 split at e
 ·split at e
  ·rename_i r hc
   obtain ⟨G,j,e⟩:=SF.mp e
   obtain ⟨B,g,e⟩:=SS.mp e
   cases e
   cases p
   rcases Kr R hc q j with ⟨i,_⟩|⟨v,E,i,s,u⟩
   ·rw [i] at g;cases g
   ·rw [i] at g
    cases g
    exact ⟨_,v,rfl,s,k z _ H .refl R u⟩
  ·cases e
 ·cases e)
end
theorem eY {k:Nat}{A:Tv}(r:Room k A):A.units+1<UT:=by have:=r.un;omega
noncomputable def nI (a:ME):ME:=fun ρ b=>(a ρ b).bind fun p=>(vK p.1).map fun d=>(d,p.2)
end L3
namespace L3
open PySem L2
noncomputable def eZ (a:List (Str×Addr)):List (Str×V2)->List (Str×Addr)->List (Str×Addr)
 | [],acc=>acc
 | (n,k)::r,acc=>if k=.free then (match a.lookup n with|some c=>eZ a r ((n,c)::acc)|none=>eZ a r acc) else eZ a r acc
theorem BW {env:YU}:∀ (names:List (Str×V2))(a:List (Str×Addr)),(∀ y∈names,y.2=.free->∃ c,env.cells.lookup y.1=some c)->
  (forIn names a fun (x:Str×V2)(d:List (Str×Addr))=>(do
   if x.2 == .free then (do let c <- cellOf env x.1;pure (WC ((x.1,c)::d))) else pure (WC d):a0L (ForInStep (List (Str×Addr)))))=pure (eZ env.cells names a)
 | [],a,_=>rfl
 | (n,k)::r,a,h=>by
  have g:=fun a=>BW r a fun y i=>h y (S3 _ i)
  rw [List.forIn_cons]
  by_cases b:k=.free
  ·subst b
   obtain ⟨c,hc⟩:=h (n,.free) (Td ..) rfl
   dsimp only at hc
   have e:cellOf env n=pure c:=by unfold cellOf;rw [hc]
   simp only [eZ,hc,e,beq_self_eq_true,if_true,pure_bind]
   exact g _
  ·have e:(k == Vz)=false:=by simpa using b
   simp only [eZ,e,b,if_false,S9,pure_bind]
   exact g _
theorem Kt {scope:Wh}{env:YU}(h:∀ y∈scope.names,y.2=.free->∃ c,env.cells.lookup y.1=some c):a2q scope env=pure (eZ env.cells scope.names []):=by
 have:=BW (env:=env) scope.names [] h
 unfold a2q
 simp only [bind_pure] at *
 exact this
theorem rO {a:List (Str×Addr)}:∀ (names:List (Str×V2))(b:List (Str×Addr)),(∀ y c,b.lookup y=some c->a.lookup y=some c)->∀ y c,(eZ a names b).lookup y=some c->a.lookup y=some c
 | [],b,h=>h
 | (n,k)::r,b,h=>by
  unfold eZ
  split
  ·split
   ·rename_i g hc
    refine rO r _ fun y c e=>?_
    rw [Xk] at e
    by_cases d:y=n
    ·subst d
     simp only [beq_self_eq_true] at e
     cases e
     exact hc
    ·have:(y == n)=false:=by simpa using d
     rw [this] at e
     exact h y c e
   ·exact rO r b h
  ·exact rO r b h
theorem rP {b:List (Str×Addr)}:∀ (names:List (Str×V2))(a:List (Str×Addr))(y:Str),(∃ c,a.lookup y=some c)->∃ c,(eZ b names a).lookup y=some c
 | [],a,y,h=>h
 | (n,k)::r,a,y,h=>by
  unfold eZ
  split
  ·split
   ·refine rP r _ y ?_
    rw [Xk]
    by_cases d:(y == n)=true
    ·rw [d];exact ⟨_,rfl⟩
    ·have:(y == n)=false:=by simpa using d
     rw [this]
     exact h
   ·exact rP r a y h
  ·exact rP r a y h
theorem rQ {a:List (Str×Addr)}:∀ (names:List (Str×V2))(b:List (Str×Addr))(y:Str),(y,Vz)∈names->(∃ c,a.lookup y=some c)->∃ c,(eZ a names b).lookup y=some c
 | [],b,y,h,_=>by cases h
 | (n,k)::r,b,y,h,hc=>by
  unfold eZ
  rcases To.mp h with h|h
  ·cases h
   obtain ⟨c,hc⟩:=hc
   rw [if_pos rfl,hc]
   exact rP r _ _ ⟨c,by simp [Xk]⟩
  ·split
   ·split
    ·exact rQ r _ y h hc
    ·exact rQ r _ y h hc
   ·exact rQ r _ y h hc
structure CompSt (osc:Wh)(N:List Str)(scope:Wh)(xs:List Str):Prop where
 nocell:∀ y∈scope.names,y.2≠.cell
 kind:scope.kind=.function
 names:∀ y∈scope.names,y.2=.local->scope.names.lookup y.1=some .local
 here:∀ x∈xs,scope.names.lookup x=some .local
 free:∀ y∈scope.names,y.2=.free->osc.names.lookup y.1=some .cell\/osc.names.lookup y.1=some .free
 own:∀ y∈scope.names,y.2=.local->y.1∉bH xs N
 nd:N.Nodup
 hnd:(bH xs N).Nodup
 hidn:∀ y∈N,xs.contains y=true->scope.names.lookup (nE y)=none
theorem CompSt.ok {X:Cx}{scope:Wh}{xs:List Str}(S:CompSt X.env.scope X.N scope xs)(ok:X.Ok):CompOk X scope (eZ X.env.cells scope.names []) xs:=by
 have has:∀ y∈scope.names,y.2=.free->∃ c,X.env.cells.lookup y.1=some c:=fun y d b=>ok.has y.1 (S.free y d b)
 refine ⟨Kt has,S.nocell,S.kind,S.names,S.here,rO scope.names [] (fun y c e=>by cases e),fun y e=>?_,fun y e=>?_,S.hidn⟩
 ·have a:=Uz e
  exact ⟨S.free _ a rfl,rQ scope.names [] y a (has _ a rfl)⟩
 ·exact S.own _ (Uz e) rfl
end L3
namespace L3
open PySem L2
section
variable {X:Cx}{pos:UY}
end
end L3
namespace L3
open PySem L2
noncomputable def cX (e:Expr):Bool:=!(e.ctorIdx == 22)
theorem gQ {e:Expr}{es:List Expr}{env:YU}(h:cX e=true):TU (e::es) env=(false,eval e env)::TU es env:=by
 cases e<;>first|rfl|cases h
theorem lT {pos:UY}{env:YU}:∀ {es:List Expr},es.all cX=true->(Wg pos (TU es env)).any (·.1)=false
 | [],_=>rfl
 | e::es,h=>by
  rw [Up,S0] at h
  rw [gQ h.1]
  have:=lT (pos:=pos) (env:=env) h.2
  simpa [Wg] using this
theorem rR {e:Expr}{es:List Expr}{env:YU}(h:cX e=true):VF (e::es) env=(false,Zf e env)::VF es env:=by
 cases e<;>first|rfl|cases h
theorem BX {env:YU}:∀ {es:List Expr},es.all cX=true->(VF es env).length=es.length
 | [],_=>rfl
 | e::es,h=>by
  rw [Up,S0] at h
  rw [rR h.1,Ti,Ti,BX h.2]
theorem BY {env:YU}:∀ {es:List Expr},es.all cX=true->(VF es env).findIdx? (·.1)=none
 | [],_=>rfl
 | e::es,h=>by
  rw [Up,S0] at h
  rw [rR h.1,List.findIdx?_cons,BY h.2]
  rfl
section
variable {X:Cx}{e a b c:Expr}{es:List Expr}{m:ME}{ms:MA}{pos:UY}
end
end L3
namespace L3
open PySem L2
structure QE (X:Cx)(e:Expr)(m:ME):Prop where
 h:PE X e (tM X.K m)
structure QT (X:Cx)(e:Expr)(m:MT):Prop where
 h:PT X e (cI X.K m)
structure QW (X:Cx)(e:Expr)(m:MT):Prop where
 h:PW X e (cI X.K m)
structure QA (X:Cx)(es:List Expr)(m:MA)(n:Nat):Prop where
 h:PA X es (d6 X.K m)
 l:∀ ρ μ ds μ',m ρ μ=some (ds,μ')->ds.length=n
 s:es.all cX=true
structure QO (X:Cx)(e:Option Expr)(m:MO):Prop where
 h:PO X e (pF X.K m)
structure QS (X:Cx)(st:Stmt)(m:MS):Prop where
 h:PS X st (cP X.K m)
structure QB (X:Cx)(st:List Stmt)(m:MS):Prop where
 h:PSs X st (cP X.K m)
structure QG (X:Cx)(e:Expr)(g:MG):Prop where
 h:PG X e (fG X.K g)
structure QGs (X:Cx)(es:List Expr)(is:List Nat):Prop where
 h:oX X es (rM is)
 n:es.length=is.length
 s:es.all cX=true
structure QI (X:Cx)(ifs:List Expr)(m:MT):Prop where
 h:nG X ifs m
structure QP (X:Cx)(pos:UY)(keys:List (Option Expr))(values:List Expr)(prs:List (ME×ME)):Prop where
 h:i7 X pos keys values (nH X.K prs)
 a:keys.all (·.isSome)=true
 l:keys.length=values.length
section
variable {X:Cx}{e a b c:Expr}{m ma mb mc:ME}{pos:UY}{mt mu:MT}{rest es:List Expr}{ms:MA}{n:Nat}
theorem Ku {x:Str}(i:Nat)(g:X.N[i]? = some x:=by rfl)(h:oW X.env.scope x:=by first|exact a1C rfl|exact a0F (a1C rfl)|exact a0F (a0F rfl))(hd:(x == ("__debug__":Str))=false:=by decide)
  (d:(x == ("__classdict__":Str))=false:=by decide):QE X (.Name x pos) (aA i):=⟨Je i (Gg g h hd d)⟩
theorem Kv {i:Int}{j:Nat}:QE X (.Constant (.int i) j pos) (mC (.int i)):=⟨Jf⟩
theorem Kw {i:Bool}{j:Nat}:QE X (.Constant (.bool i) j pos) (mC (.bl i)):=⟨Jg⟩
theorem Ky {i:Str}{j:Nat}:QE X (.Constant (.str i) j pos) (mC (.str i)):=⟨Jh⟩
theorem Kz {j:Nat}:QE X (.Constant .none j pos) (mC .non):=⟨Ji⟩
theorem nJ {op:a0u}{r:R2}{f:D->D->Hm->Option (D×Hm)}(i:OpR X (WJ op) r)(h:cF X.K f r)(d:QE X a ma)(g:QE X b mb):QE X (.BinOp a op b pos) (aB f ma mb):=⟨Jj i h d.h g.h⟩
theorem KA (d:QE X a ma)(g:QE X b mb):QE X (.BinOp a .Add b pos) (aB bV ma mb):=nJ J8 J9 d g
theorem KG (d:QE X a ma)(g:QE X b mb):QE X (.BinOp a .Sub b pos) (aB cA ma mb):=nJ Ho J1 d g
theorem KH (d:QE X a ma)(g:QE X b mb):QE X (.BinOp a .Mult b pos) (aB bZ ma mb):=nJ JY J3 d g
theorem KI (d:QE X a ma)(g:QE X b mb):QE X (.BinOp a .FloorDiv b pos) (aB cS ma mb):=nJ JZ J4 d g
theorem KJ (d:QE X a ma)(g:QE X b mb):QE X (.BinOp a .Mod b pos) (aB bG ma mb):=nJ Hq J5 d g
theorem KL (d:QE X a ma)(g:QE X b mb):QE X (.BinOp a .Pow b pos) (aB nD ma mb):=nJ J0 J6 d g
theorem KN (d:QE X a ma):QE X (.UnaryOp .USub a pos) (nI ma):=⟨Ka d.h⟩
theorem KO (d:QE X a ma):QE X (.UnaryOp .Not a pos) (vC ma):=⟨Js d.h⟩
theorem KP {k:Nat}(h:Room k X.A)(d:QE X a ma)(g:QE X b mb):QE X (.Compare a [.Eq] [b] pos) (aB (bE false) ma mb):=⟨eU (BJ (rL h)) rK d.h g.h (dO _)⟩
theorem KQ {k:Nat}(h:Room k X.A)(d:QE X a ma)(g:QE X b mb):QE X (.Compare a [.NotEq] [b] pos) (aB (bE true) ma mb):=⟨eU (BK (rL h)) rK d.h g.h (dO _)⟩
theorem KR (d:QE X a ma)(g:QE X b mb):QE X (.Compare a [.Lt] [b] pos) (aB gP ma mb):=⟨eU uM f6 d.h g.h (dO _)⟩
theorem KS (d:QE X a ma)(g:QE X b mb):QE X (.Compare a [.LtE] [b] pos) (aB vQ ma mb):=⟨eU uN f6 d.h g.h (dO _)⟩
theorem KU (d:QE X a ma)(g:QE X b mb):QE X (.Compare a [.Gt] [b] pos) (aB pG ma mb):=⟨eU uO f6 d.h g.h (dO _)⟩
theorem KW (d:QE X a ma)(g:QE X b mb):QE X (.Compare a [.GtE] [b] pos) (aB vT ma mb):=⟨eU uP f6 d.h g.h (dO _)⟩
noncomputable def d9 (e:Expr):Bool:=!(e.ctorIdx == 7)
theorem f7 {op:W3}{b:Expr}(h:d9 b=true):Wv op b=false:=by
 cases b<;>first|rfl|cases h
theorem KY {op:BoolOp}(h:QE X a m):QE X (.BoolOp op [a] pos) m:=⟨Jp h.h⟩
theorem KZ (d:QE X a ma)(g:QE X (.BoolOp .And (b::rest) pos) mb):QE X (.BoolOp .And (a::b::rest) pos) (iD ma mb):=⟨Jq d.h g.h⟩
theorem K0 (d:QE X a ma)(g:QE X (.BoolOp .Or (b::rest) pos) mb):QE X (.BoolOp .Or (a::b::rest) pos) (vB ma mb):=⟨Jr d.h g.h⟩
theorem K1 (hc:QT X c mt)(d:QE X a ma)(g:QE X b mb):QE X (.IfExp c a b pos) (lN mt ma mb):=⟨Jt hc.h d.h g.h⟩
theorem K2:QA X [] aD 0:=⟨Ju,Jz,rfl⟩
theorem K3 (g:QE X e m)(d:QA X es ms n)(h:cX e=true:=by rfl):QA X (e::es) (aC m ms) (n+1):=⟨Jv g.h d.h (gQ h),JA d.l,by rw [Up,h,d.s];rfl⟩
theorem K4 {d:Nat}(h:QA X es ms n):QE X (.Tuple es d pos) (bW ms):=⟨Jw h.h⟩
theorem K5 (h:QA X es ms n):QE X (.List es pos) (cQ ms):=⟨Jx h.h⟩
noncomputable def lU (e:Expr):Bool:=!(e.ctorIdx == 26)
theorem vZ {b:Expr}(h:lU b=true):uZ b:=by
 intro o i
 cases b<;>first|rfl|cases h
theorem K6 (d:QE X a ma)(g:QE X b mb)(h:lU b=true:=by rfl):QE X (.Subscript a b pos) (aB fX ma mb):=⟨JF d.h g.h (vZ h)⟩
theorem K7 {k:Nat}(i:Room k X.A)(d:QE X a ma)(g:QE X b mb)(h:lU b=true:=by rfl):QE X (.Subscript a b pos) (aB pL ma mb):=⟨Ks (eY i) d.h g.h (vZ h)⟩
theorem K8:QO X none pE:=⟨JG⟩
theorem K9 (h:QE X e m):QO X (some e) (iE m):=⟨JI h.h⟩
theorem La {lo d:Option Expr}{h g:MO}{o:UY}(i:QE X a ma)(j:QO X lo h)(l:QO X d g):QE X (.Subscript a (.Slice lo d none o) pos) (iF ma h g):=⟨JK i.h j.h l.h⟩
theorem Lb {k:Nat}{f:Addr}{i:VA}{ps:List Str}{j:MF}{x:Str}{p:UY}(F:FnOk X.prog X.w X.K X.mg X.base eS k f i ps (iB X.K n j))(s:Room k X.A)(r:X.mg x=some (.ref f))
  (q:Vf X.K (.ref f)=true)(l:Binds X.K i ps [])(d:QA X (e::es) ms n)(o:Gl X x:=by rfl)(g:(x == ("__debug__":Str))=false:=by decide):QE X (.Call (.Name x p) (e::es) [] pos) (aL j ms):=by
 have h:=d.s
 rw [Up,S0] at h
 exact ⟨JB F s o r q l d.h d.l g (gQ h.1) (lT h.2)⟩
theorem v7 {f:MF}{r:List V->Hp->VK->Prop}{id:String}{x:Str}{p:UY}(hc:CallR X (.builtin id) r)(i:dW X.K f r)(l:X.mg x=none)(q:U4 x=some (.builtin id))(h:QA X (e::es) ms n)
  (j:Gl X x:=by rfl)(o:x ≠ "__name__":=by decide) (d:(x == ("__debug__":Str))=false:=by decide):QE X (.Call (.Name x p) (e::es) [] pos) (aL f ms):=by
 have g:=h.s
 rw [Up,S0] at g
 exact ⟨JC hc i j l q h.h o d (gQ g.1) (lT g.2)⟩
theorem BZ {f:MF}{r:List V->Hp->VK->Prop}{T:String}{x:Str}{p:UY}(hc:CallR X (.type T) r)(i:dW X.K f r)(l:X.mg x=none)(q:U4 x=some (.type T))(h:QA X (e::es) ms n)
  (j:Gl X x:=by rfl)(o:x ≠ "__name__":=by decide) (d:(x == ("__debug__":Str))=false:=by decide):QE X (.Call (.Name x p) (e::es) [] pos) (aL f ms):=by
 have g:=h.s
 rw [Up,S0] at g
 exact ⟨JD hc i j l q h.h o d (gQ g.1) (lT g.2)⟩
theorem Lc {x:Str}{n:String}(g:X.mg x=none)(i:U4 x=some (.type n))(d:Gl X x:=by rfl)(h:x ≠ "__name__":=by decide) (hd:(x == ("__debug__":Str))=false:=by decide):QE X (.Name x pos) (mC (.ty n)):=⟨Kb d g i h hd⟩
theorem Ld:QP X pos [] [] []:=⟨Ko,rfl,rfl⟩
theorem Le {k v:Expr}{mk h:ME}{ks:List (Option Expr)}{vs:List Expr}{d:List (ME×ME)}(i:QE X k mk)(j:QE X v h)(g:QP X pos ks vs d):QP X pos (some k::ks) (v::vs) ((mk,h)::d):=
 ⟨Kp i.h j.h g.h,by rw [Up,g.a];rfl,by rw [Ti,Ti,g.l]⟩
theorem Lf {k:Option Expr}{keys:List (Option Expr)}{d:List Expr}{g:List (ME×ME)}(h:QP X pos (k::keys) d g)(i:(k::keys).length<=15:=by decide):QE X (.Dict (k::keys) d pos) (kD g):=⟨Kq h.h h.a h.l (by simp) i⟩
theorem Lg {k:Nat}(h:Room k X.A)(d:QE X a ma)(g:QE X b mb):QT X (.Compare a [.Eq] [b] pos) (aU (aB (bE false) ma mb)):=⟨eV (BJ (rL h)) rK d.h g.h (dO _)⟩
theorem Lh {k:Nat}(h:Room k X.A)(d:QE X a ma)(g:QE X b mb):QT X (.Compare a [.NotEq] [b] pos) (aU (aB (bE true) ma mb)):=⟨eV (BK (rL h)) rK d.h g.h (dO _)⟩
theorem Li (d:QE X a ma)(g:QE X b mb):QT X (.Compare a [.Lt] [b] pos) (aU (aB gP ma mb)):=⟨eV uM f6 d.h g.h (dO _)⟩
theorem Lj (d:QE X a ma)(g:QE X b mb):QT X (.Compare a [.LtE] [b] pos) (aU (aB vQ ma mb)):=⟨eV uN f6 d.h g.h (dO _)⟩
theorem Lk (d:QE X a ma)(g:QE X b mb):QT X (.Compare a [.Gt] [b] pos) (aU (aB pG ma mb)):=⟨eV uO f6 d.h g.h (dO _)⟩
theorem Ll (d:QE X a ma)(g:QE X b mb):QT X (.Compare a [.GtE] [b] pos) (aU (aB vT ma mb)):=⟨eV uP f6 d.h g.h (dO _)⟩
noncomputable def v8:Expr->Bool
 | .UnaryOp .Not ..=>false
 | .BoolOp ..=>false
 | .IfExp ..=>false
 | .Compare ..=>false
 | _=>true
theorem Lm {e:Expr}{env:YU}(h:v8 e=true):∀ d,a1k e env d=(do let v <- d;standAt e.pos;holding [v] (truthy v)):=by
 intro d
 cases e<;>first|rfl|cases h|skip
 rename_i g x p
 cases g<;>first|rfl|cases h
theorem Ln (d:QT X a mt):QT X (.UnaryOp .Not a pos) (vA mt):=⟨Jo d.h⟩
theorem Lo (d:QT X a mt):QW X (.BoolOp .And [a] pos) mt:=⟨Jk d.h⟩
theorem Lp (d:QT X a mt):QW X (.BoolOp .Or [a] pos) mt:=⟨Jl d.h⟩
theorem Lq (d:QT X a mt)(g:QW X (.BoolOp .And (b::rest) pos) mu):QW X (.BoolOp .And (a::b::rest) pos) (m9 mt mu):=⟨Jm d.h g.h⟩
theorem Lr (d:QT X a mt)(g:QW X (.BoolOp .Or (b::rest) pos) mu):QW X (.BoolOp .Or (a::b::rest) pos) (u9 mt mu):=⟨Jn d.h g.h⟩
theorem Lu (h:QW X e mt):QT X e mt:=⟨h.h.pt⟩
theorem Lv:QI X [] lQ:=⟨Ki⟩
theorem Lx (h:QT X c mt):QI X [c] mt:=⟨Kj h.h⟩
end
section
variable {X:Cx}{e a b c:Expr}{m:ME}{pos:UY}{mt:MT}{st:Stmt}{rest body orelse:List Stmt}{ms mr mu:MS}{n:Nat}{is:List Nat}{es:List Expr}{g:MG}
theorem Ly:QB X [] bS:=⟨JL⟩
theorem Lz (h1:QS X st ms)(d:QB X rest mr):QB X (st::rest) (aK ms mr):=⟨JM h1.h d.h⟩
theorem LA (h1:QS X st ms):QB X [st] ms:=⟨JN h1.h⟩
theorem LB:QS X (.Pass pos) bS:=⟨JO⟩
theorem LC (d:QE X e m):QS X (.Return (some e) pos) (bB m):=⟨JP d.h⟩
noncomputable def jE (e:Expr):Bool:=!(e.ctorIdx == 8||e.ctorIdx == 9||e.ctorIdx == 10)
theorem v9 {e:Expr}{t:Option Expr}{n:Nat}{env:YU}(h:jE e=true):X8 e t n env=pure false:=by
 cases e<;>first|rfl|cases h
theorem LD (d:QE X e m)(h:jE e=true:=by rfl):QS X (.Expr e pos) (gO m):=⟨JQ d.h (v9 h)⟩
theorem LF (hc:QT X c mt)(d:QB X body ms)(h:QB X orelse mu):QS X (.If c body orelse pos) (bT mt ms mu):=⟨JR hc.h d.h h.h⟩
theorem LG (i:Nat){x:Str}{d:UY}(j:X.N.Nodup)(l:QE X e m)(h:jE e=true:=by rfl)(p:X.N[i]? = some x:=by rfl)(q:Loc X.env.scope x:=by first|exact a1C rfl|exact a0F rfl)
  (o:X.fn x=true\/X.env.scope.names.lookup x=some .local:=by first|exact .inl rfl|exact .inr rfl):QS X (.Assign [.Name x d] e pos) (aX i m):=⟨By j p q l.h (v9 h) o⟩
theorem LH (i:Nat){x:Str}(d:X.N.Nodup)(j:X.N[i]? = some x:=by rfl)(l:Loc X.env.scope x:=by first|exact a1C rfl|exact a0F rfl)
  (h:X.fn x=true\/X.env.scope.names.lookup x=some .local:=by first|exact .inl rfl|exact .inr rfl):QG X (.Name x pos) (cT i):=⟨BM d j l h⟩
theorem B0:QGs X [] []:=⟨GZ,rfl,rfl⟩
theorem B1 (i:Nat){x:Str}(h:X.N.Nodup)(d:QGs X es is)(l:X.N[i]? = some x:=by rfl)(o:Loc X.env.scope x:=by first|exact a1C rfl|exact a0F rfl)
  (j:X.fn x=true\/X.env.scope.names.lookup x=some .local:=by first|exact .inl rfl|exact .inr rfl):QGs X (.Name x pos::es) (i::is):=
 ⟨G0 (Ay h l o j) d.h (by rw [rR (e:=.Name x pos) rfl];rfl),by rw [Ti,Ti,d.n],by rw [Up,d.s];rfl⟩
theorem wA {k:Nat}(h:QGs X es is)(hc:X.calm=true:=by rfl):QG X (.Tuple es k pos) (eX is):=⟨Km hc h.h ((BX h.s).trans h.n) (BY h.s)⟩
noncomputable def wB (e:Expr):Bool:=!(e.ctorIdx == 25)
theorem LI {es:List Expr}{k:Nat}{pt:UY}{e:Expr}{env:YU}(h:wB e=true):a0J [.Tuple es k pt] e env=pure none:=by
 cases e<;>first|rfl|cases h
theorem LJ {k:Nat}{pt:UY}(d:QE X e m)(i:QG X (.Tuple es k pt) g)(h:wB e=true:=by rfl):QS X (.Assign [.Tuple es k pt] e pos) (kB m g):=
 ⟨Kn d.h i.h (by cases e<;>rfl) (LI h) (by rw [rR (e:=.Tuple es k pt) rfl];rfl)⟩
end
section
variable {P:Tj}{w:TH}{K:SJ}{mg:Str->Option SK}{base:Uj}
theorem LK {x a:Str}{st:Stmt}{f:Addr}{g:VA}{N ps:List Str}{k:Nat}{body:List Stmt}{m:MS}(F:Fun K x a st f g)(S:FnScope N ps (b9 st))(e:ps.length<=N.length)(d:fE st=body)
  (c:∀ (b:SK)(A:Tv)(outer:List YU)(s:SM)(H:Hp)(E:XK),Room k (A.deeper (ZG a (b9 st) s.heap.objs.size f b))->
   QB (i6 eS P w K mg base N a (b9 st) f b A outer s H E).nox body m):FnOk P w K mg base eS (k+1) f g ps (iB K ps.length (vD N.length m)):=
 JT F S e fun b A outer s H E h=>by
  rw [d]
  exact (c b A outer s H E h).h
end
end L3
namespace L3
open PySem L2
noncomputable abbrev lW:=Hm->Nat->Option (Option D)
noncomputable abbrev MI:=aH->Hm->Option (lW×Nat×Hm)
noncomputable def jF (K:SJ)(m:MI):TI:=fun σ H R=>∃ π ρ e c n a,Rp K π H e/\En K π e.length H σ ρ/\m ρ e=some (c,n,a) /\
 ∀ b d J,Ext π e.length H b a.length d->Rp K b d a->Wk K J c b a.length d->R J d
structure QJ (X:Cx)(e:Expr)(m:MI):Prop where
 h:∀ tg,PI X tg e (jF X.K m)
section
variable {X:Cx}{pos:UY}{e:Expr}{m:ME}
noncomputable def wC:MI:=fun _ _=>none
theorem j_bad:QJ X e wC:=⟨fun tg a4b s σ H R I hw=>by
 obtain ⟨h,i,g,b,n,c,d,E,a,k⟩:=hw
 cases a⟩
noncomputable def kH (a:Hm):D->Option (List D)
 | d=>bN a d
noncomputable def gR (x:D):lW:=fun a i=>(kH a x).map fun xs=>xs[i]?
noncomputable def cY (m:ME):MI:=fun ρ a=>(m ρ a).bind fun p=>(kH p.2 p.1).map fun xs=>(gR p.1,xs.length+1,p.2)
theorem LL (h:QE X e m):QJ X e (cY m):=⟨fun tg a4b s σ H R I hw=>by
 obtain ⟨M,N,K,B,n,L,u,E,b,k⟩:=hw
 obtain ⟨⟨x,j⟩,w,b⟩:=SF.mp b
 obtain ⟨G,y,b⟩:=SS.mp b
 cases b
 have g:∀ (p:bN j x=some G)(r:gR x=jC x),Tn (Tr X.prog X.w) X.A (eval e X.env) (fun v A=>Tn (Tr X.prog X.w) X.A (ZX v) (qT X a4b σ tg R) X.xe A) X.xe s:=fun p r=>by
  refine Kd h.h a4b s σ H R I ⟨M,N,K,x,_,u,E,w,fun c O l o d z=>?_⟩
  obtain ⟨a,e,q⟩:=Ke d z p
  subst e
  refine ⟨a,rfl,?_⟩
  dsimp only at k
  rw [r] at k
  rcases q with ⟨i,W⟩|⟨i,W⟩
  ·exact .inl ⟨i,k c l _ o d W⟩
  ·exact .inr ⟨i,k c l _ o d W⟩
 cases x with
 | _=>exact g y rfl⟩
noncomputable def iH (a:MA):MI:=fun ρ b=>(a ρ b).bind fun p=>match p.1 with
 | [.int j]=>if -(2 ^ 62)<=j/\j<2 ^ 62 then some (iG 0 j.toNat,j.toNat+1,p.2) else none
 | _=>none
theorem LM {a:Expr}{r:MA}{n:Nat}{p:UY}(c:Gl X "range") (d:X.mg "range" = none) (l:QA X [a] r n):QJ X (.Call (.Name "range" p) [a] [] pos) (iH r):=⟨fun tg a4b s σ H R I hw=>by
 have q:=l.s
 rw [Up,S0] at q
 obtain ⟨L,M,G,A,N,K,w,E,b,k⟩:=hw
 obtain ⟨⟨x,h⟩,z,b⟩:=SF.mp b
 refine Hc c d l.h (gQ q.1) a4b s σ H R I ⟨L,M,G,x,h,w,E,z,fun i O u y v g=>?_⟩
 dsimp only at b
 split at b
 ·rename_i j
  split at b
  ·rename_i o
   cases b
   cases g with
   | cons g B=>
    cases g
    cases B
    exact ⟨j,rfl,o.1,o.2,k i u _ y v BN⟩
  ·cases b
 ·cases b⟩
noncomputable def kI (a:MA):MI:=fun ρ b=>(a ρ b).bind fun p=>match p.1 with
 | [.int i,.int j]=>if -(2 ^ 62)<=i/\i<2 ^ 62/\-(2 ^ 62)<=j/\j<2 ^ 62 then some (iG i (j - i).toNat,(j - i).toNat+1,p.2) else none
 | _=>none
theorem LN {a b:Expr}{u:MA}{n:Nat}{p:UY}(g:Gl X "range") (h:X.mg "range" = none) (r:QA X [a,b] u n):QJ X (.Call (.Name "range" p) [a,b] [] pos) (kI u):=⟨fun tg a4b s σ H R I hw=>by
 have d:=r.s
 rw [Up,S0,Up,S0] at d
 obtain ⟨Q,T,N,K,U,O,y,E,c,k⟩:=hw
 obtain ⟨⟨x,o⟩,A,c⟩:=SF.mp c
 refine He g h r.h (by rw [gQ d.1,gQ d.2.1];rfl) (by rw [gQ d.2.1];rfl) a4b s σ H R I ⟨Q,T,N,x,o,y,E,A,fun q Y v z w l=>?_⟩
 dsimp only at c
 split at c
 ·rename_i i j
  split at c
  ·rename_i B
   cases c
   cases l with
   | cons l L=>
    cases l
    cases L with
    | cons G M=>
     cases G
     cases M
     exact ⟨i,j,rfl,B,k q v _ z w BN⟩
  ·cases c
 ·cases c⟩
noncomputable def dG (a:MI)(g:MG)(b:MS):MS:=fun ρ c=>(a ρ c).bind fun p=>d7 p.1 g b p.2.1 0 ρ p.2.2
end
noncomputable def nK (b:BD)(d:MI)(c:MT)(e:ME):ME:=fun ρ g=>(d ρ g).bind fun p=>
 (jD p.1 b c e ρ p.2.2.length p.2.1 0 (p.2.2++[.lst []])).map fun a=>(.loc p.2.2.length,a)
noncomputable abbrev fH (a:MI)(c:MT)(e:ME):ME:=nK pH a c e
noncomputable def gB (n:Nat)(a:BD):MG:=fun d ρ b=>(a d b).map fun x=>ρ.take n++x
theorem LO {X:Cx}{n:Nat}{x:Str}{i:UY}(j:X.N.length=n+1)(h:PG X (.Name x i) (fG X.K (cT n))):PG X (.Name x i) (fG X.K (gB n pH)):=by
 intro b s w H v u Q I r hw
 obtain ⟨p,a,o,d,q,R,E,hd,l,k⟩:=hw
 cases l
 refine h b s w H v u Q I r ⟨p,a,o,d,_,R,E,hd,rfl,fun c g=>k c ?_⟩
 have m:a.length=n+1:=by rw [<- E.len,I.len,j]
 have e:a.set n (some d)=a.take n++[some d]:=by
  rw [List.set_eq_take_append_cons_drop,if_pos (by omega),Vl (by omega)]
 rw [e] at g
 exact g
theorem B2:∀ (xs:List D)(a b:aH),b.length=xs.length->lR (a++b) (XD a.length xs.length) xs=a++xs.map some
 | [],a,[],_=>by simp [lR]
 | x::xs,a,y::b,h=>by
  have c:=B2 xs (a++[some x]) b (by simpa using h)
  rw [Ti,Xj]
  show lR ((a++y::b).set a.length (some x)) (XD (a.length+1) xs.length) xs=_
  rw [Xf _ _ (SX _),Xa,SY]
  rw [SV,VL] at c
  rw [Tc,List.singleton_append] at c
  rw [c]
  simp
theorem LP {X:Cx}{n k:Nat}{tg:Expr}(q:X.N.length=n+k)(h:PG X tg (fG X.K (eX (XD n k)))):PG X tg (fG X.K (gB n (BP k))):=by
 intro b s K H v u Q I r hw
 obtain ⟨B,a,A,d,G,R,E,hd,w,z⟩:=hw
 obtain ⟨y,m,o⟩:=SS.mp w
 obtain ⟨l,p,c⟩:=SF.mp m
 split at c
 ·rename_i j
  cases c
  subst o
  have x:a.length=n+k:=by rw [<- E.len,I.len,q]
  refine h b s K H v u Q I r ⟨B,a,A,d,lR a (XD n k) l,R,E,hd,(by simp only [eX,p,T1,List.length_range',if_pos j]),fun g i=>z g ?_⟩
  have e:=B2 l (a.take n) (a.drop n) (by rw [T8];omega)
  rw [TK,Tu,ZH (by omega),j] at e
  rw [e] at i
  exact i
 ·cases c
section
variable {X:Cx}{scope:Wh}{cl:List (Str×Addr)}{xs:List Str}{tg elt iter:Expr}{ifs:List Expr}{pos ppos:UY}{mi:MI}{me:ME}{mc:MT}{bd:BD}
theorem LQ {K:SJ}{π:Nat->Addr}{n:Nat}{H:Hp}{σ:St}{ρ o:aH}{k:Nat}(E:En K π n H σ (ρ++o))(b:o.length=k):En K π n H σ (ρ++Vt k none):=by
 refine ⟨by rw [E.len,SV,SV,VM,b],fun i d q=>?_⟩
 by_cases a:i<ρ.length
 ·rw [S7 a] at q
  exact E.get i d (by rw [S7 a];exact q)
 ·rw [Tg (Xw.mp a),V3] at q
  split at q<;>cases q
theorem B3 (O:CompOk X scope cl xs)(hcalm:X.calm=true)(hi:PI X tg iter (jF X.K mi))(hb':∀ d μ z,bd d μ=some z->z.length=xs.length)(hg:∀ C s₀ H₀ G,PG (cG X scope cl C (bH xs X.N++xs) s₀ H₀ G) tg (fG X.K (gB X.N.length bd)))
  (hc:∀ C s₀ H₀ G,nG (cG X scope cl C (bH xs X.N++xs) s₀ H₀ G) ifs mc)(he:∀ C s₀ H₀ G,PE (cG X scope cl C (bH xs X.N++xs) s₀ H₀ G) elt (tM X.K me))
  (hs:∀ x,Xp iter X.env x=pure x){use:Option (SK->a0L Unit)}{QQ:SK->SM->Prop}{a4b:List (Addr×Vu)}{s:SM}{σ:St}{H:Hp}{π:Nat->Addr}{ρ:aH}{μ Y:Hm}{d:D}
  (I:Inv X a4b σ H s)(R:Rp X.K π H μ)(E:En X.K π μ.length H σ ρ)(hm:nK bd mi mc me ρ μ=some (d,Y))
  (fin:∀ (p C:Addr)(l:Nat->Addr)(g:Hp)(s':SM),Ext π μ.length H l Y.length g->Rp X.K l g Y->IsD X.K l Y.length g (.ref p) d->(∃ m,s'.heap.Ns C m)->X.s₀.heap.objs.size<=C->C≠X.env.locals->g C=none->
   (∀ y c,X.env.cells.lookup y=some c->c≠C)->(∀ q∈X.pn++a4b,q.1≠C)->(∀ h',(∀ b o,b≠C->s'.heap.get? b=some o->h'.get? b=some o)->Inv X a4b σ g { s' with heap:=h' })->
   compPost (Tr X.prog X.w) X.A X.xe use QQ (.ref p) C (.ok .next) s') :
  Tn (Tr X.prog X.w) X.A (comprehension (.ListComp elt [⟨tg,iter,ifs,0⟩] scope pos) scope X.env ppos (newList []) false (eval iter X.env) use) QQ X.xe s:=by
 obtain ⟨⟨src,nt,a⟩,h1,hm⟩:=SF.mp hm
 obtain ⟨μ2,h3,hm⟩:=SS.mp hm
 cases hm
 have hit:Tn (Tr X.prog X.w) X.A (eval iter X.env) (fun v s1=>Tn (Tr X.prog X.w) X.A (ZX v) (qT X a4b σ tg fun J H1=>∃ Z,Ext π μ.length H Z a.length H1/\Rp X.K Z H1 a/\Wk X.K J src Z a.length H1) X.xe s1) X.xe s:=
  hi a4b s σ H _ I ⟨π,ρ,μ,src,nt,a,R,E,h1,fun Z H1 J e1 R1 W=>⟨Z,e1,R1,W⟩⟩
 refine wpAny_comprehension_free rfl hs O.clos O.kind O.names (T7 hit (fun v s1 hv=>T7 hv (fun itv B h4=>?_) fun _ _ z=>z) fun _ _ z=>z)
 obtain ⟨it,G,tn,J,H2,rfl,I2,T,st2,f2,Z,e1,R1,W⟩:=h4
 refine UR (wpAny_newFunctionEnv O.nocell (by intro y hy;simp at hy) (fun h₁ L M=>?_) O.kind)
 dsimp only at L M ⊢
 have hfr:H2 B.heap.objs.size=none:=I2.hok.fresh (SX _)
 have I3:Inv X a4b σ (aI H2 B.heap.objs.size (.lst [])) { B with heap:=B.heap.push { cls:=.type "list",dict:=none,data:=.seq ([]:List SK).toArray } }:=
  I2.laid (t':=B.toks) (fun b u e=>SR _ e) (SX _) ⟨Um _,[],0,.nil,Te _ rfl⟩
 obtain ⟨e2,R2,q2⟩:=R1.alloc (c:=.lst []) (o:=.lst []) hfr .nil
 generalize hs3:({ B with heap:=B.heap.push { cls:=.type "list",dict:=none,data:=.seq ([]:List SK).toArray } }:SM)=s3 at I3
 have K:B.heap.push { cls:=.type "list",dict:=none,data:=.seq ([]:List SK).toArray } = s3.heap:=by rw [<- hs3]
 have e12:=e1.trans e2
 generalize hH3:aI H2 B.heap.objs.size (.lst [])=H3 at I3 e2 R2 e12
 generalize hπ3:fW Z a.length B.heap.objs.size=π3 at e2 R2 q2 e12
 have hob:∀ b∈G,∃ o,s3.heap.get? b=some o:=fun b A=>by
  obtain ⟨o,ho,_⟩:=T.obj 0 _ st2 b A
  exact ⟨o,by rw [<- K];exact SR _ ho⟩
 have f3:∀ b∈G,gK X a4b H3 b:=fun b A=>by
  obtain ⟨o,ho,_⟩:=T.obj 0 _ st2 b A
  refine ⟨?_,(f2 b A).2⟩
  rw [<- hH3,bO (Tp (S6 ho))]
  exact (f2 b A).1
 have st3:tn 0 s3.heap:=T.keep 0 _ _ st2 fun b A o e=>by rw [<- K];exact SR _ e
 have hC:(B.heap.push { cls:=.type "list",dict:=none,data:=.seq ([]:List SK).toArray }).objs.size=s3.heap.objs.size:=by rw [K]
 rw [K] at L M
 have hk1:∀ b o,s3.heap.get? b=some o->h₁.get? b=some o:=fun b o e=>M.extBut b o (Tp (S6 e)) (SR _ e)
 have E3:En X.K π3 (a++[C.lst []]).length H3 (σ++Vt xs.length none) (ρ++Vt xs.length none):=by
  have E':=E.mono e12
  refine ⟨by rw [SV,SV,E'.len,VM,VM],fun i d' q=>?_⟩
  by_cases hi:i<ρ.length
  ·rw [S7 hi] at q
   obtain ⟨v,h5,h6⟩:=E'.get i d' q
   exact ⟨v,by rw [S7 (by rw [E'.len];exact hi)];exact h5,h6⟩
  ·rw [Tg (Xw.mp hi),V3] at q
   split at q<;>cases q
 have hlen:ρ.length=X.N.length:=by rw [<- E.len];exact I.len
 have stat:∀ {g:Hp}{pl:List (Addr×Vu)},(∀ b∈G,g b=none)->pl=[]->∀ b∈G,gK (cG X scope cl s3.heap.objs.size (bH xs X.N++xs) s3 H3 G) pl g b:=fun {g pl} hn hpl b A=>by
  obtain ⟨f0,f1,f2',f3',f4,f5⟩:=f3 b A
  obtain ⟨o,ho⟩:=hob b A
  refine ⟨hn b A,Tp (S6 ho),fun z=>?_,.inl A,fun y c h=>f4 y c (O.sub y c h),fun p hp=>?_⟩
  ·rcases To.mp (I3.stkSub b z) with z|z
   ·exact f1 z
   ·exact f2' z
  ·subst hpl
   exact absurd (show p∈([]:List (Addr×Vu)) from hp) (by simp)
 have loop:∀ s4:SM,(∃ tk,s4 = { s3 with heap:=h₁,toks:=tk })->
   Yg (Tr X.prog X.w) X.A (.compLoop (.ListComp elt [⟨tg,iter,ifs,0⟩] scope pos) 0 (.ref it) (.ref B.heap.objs.size) (Xq scope cl s3.heap.objs.size X.env))
    (compPost (Tr X.prog X.w) X.A X.xe use QQ (.ref B.heap.objs.size) s3.heap.objs.size) s4:=by
  rintro s4 ⟨tk,rfl⟩
  have I4:=O.inv (tk:=tk) I3 f3 hob L hk1
  refine Kh (fun n s'=>∃ i U g l N o,Inv (cG X scope cl s3.heap.objs.size (bH xs X.N++xs) s3 H3 G) [] U g s'/\tn i s'.heap/\(∀ b∈G,g b=none)/\Ext π3 (a++[C.lst []]).length H3 l N.length g/\Rp X.K l g N /\
   En X.K l N.length g U (ρ++o)/\o.length=xs.length/\jD src bd mc me ρ a.length n i N=some Y) ?_ nt
   ⟨0,_,H3,π3,a++[C.lst []],Vt xs.length none,I4,T.keep 0 _ _ st3 fun b A o e=>hk1 b o e,fun b A=>(f3 b A).1,.refl,R2,E3,VM,h3⟩
  rintro n s5 ⟨i,σ5,H5,Q,μ5,o5,I5,st5,fr5,e5,R5,E5,l5,g5⟩
  cases n with
  | zero=>cases g5
  | succ n=>
   obtain ⟨o,h6,h7⟩:=SF.mp g5
   cases o with
   | none=>
    cases h7
    have stop:=W.stop Q _ H5 i (e2.trans e5) R5 h6
    refine T7 (T.done (cG X scope cl s3.heap.objs.size (bH xs X.N++xs) s3 H3 G) rfl rfl rfl hcalm i [] s5 σ5 H5 (fun _ _=>False) I5 (stat fr5 rfl) st5 stop) (fun r s6 ⟨hr,I6⟩=>?_) fun _ _ z=>z
    subst hr
    obtain ⟨m6,hn6,_⟩:=id I6.loc
    have hp:Q a.length=B.heap.objs.size:=by rw [e5.pi a.length (by simp),q2]
    refine fin B.heap.objs.size s3.heap.objs.size Q H5 s6 (e12.trans e5) R5 ?_ ⟨m6,hn6⟩ I3.sz (UM (Tp I3.lt)) I6.free (fun y c hc z=>?_) (fun q hq z=>?_) fun h' hh=>CompOk.back I3 f3 I6 hh
    ·rw [<- hp]
     exact .loc (TF (by simp) e5.le)
    ·obtain ⟨v,o,ho,_⟩:=I3.cell y c hc
     exact Tp (S6 ho) z
    ·exact Tp (S6 (I3.pin q hq).1) z
   | some d=>
    obtain ⟨z,hz,h7⟩:=SF.mp h7
    obtain ⟨⟨b,μ6⟩,h8,h9⟩:=SF.mp h7
    obtain ⟨g1,g2⟩:=W.go Q μ5 H5 i d (e2.trans e5) R5 h6
    refine T7 (T.item (cG X scope cl s3.heap.objs.size (bH xs X.N++xs) s3 H3 G) rfl rfl rfl hcalm i [] s5 σ5 H5 (fun _ _=>False) I5 (stat fr5 rfl) st5 g1) (fun r s6 ⟨u,hr,h10⟩=>?_) fun _ _ z=>z
    subst hr
    refine T7 h10 (fun _ s7 ⟨v,H7,I7,r7,y7,st7,fr7⟩=>?_) fun _ _ z=>z
    obtain ⟨e7,R7,hd⟩:=g2 v H7 y7
    have I7':=I7.pinned (stat fr7 rfl) (T.obj _ _ st7)
    have e5:=e5.trans e7
    refine T7 (hg _ _ _ _ _ s7 σ5 H7 v u (fun U g=>En X.K Q μ5.length H7 U (ρ++z)/\g=H7) I7' r7
     ⟨Q,ρ++Vt xs.length none,μ5,d,ρ++z,R7,LQ (E5.mono e7) l5,hd,(by
      show (bd d μ5).map (fun x=>(ρ++Vt xs.length none).take X.N.length++x)=_
      rw [hz,<- hlen,ZR]
      rfl),fun U E'=>⟨E',rfl⟩⟩) (fun _ s8 ⟨σ8,H8,I8,E8,z2⟩=>?_) fun _ _ z=>z
    subst z2
    have again:∀ {s9:SM}{H9:Hp}{j:Nat->Addr}{μ9:Hm},Inv (cG X scope cl s3.heap.objs.size (bH xs X.N++xs) s3 H3 G) ([]++oZ G s7.heap) σ8 H9 s9->Ext π3 (a++[C.lst []]).length H3 j μ9.length H9->Rp X.K j H9 μ9->
      En X.K j μ9.length H9 σ8 (ρ++z)->jD src bd mc me ρ a.length n (i+1) μ9=some Y->
      ∃ m,m<n+1/\∃ i U g l N o,Inv (cG X scope cl s3.heap.objs.size (bH xs X.N++xs) s3 H3 G) [] U g s9/\tn i s9.heap/\(∀ b∈G,g b=none)/\Ext π3 (a++[C.lst []]).length H3 l N.length g/\Rp X.K l g N /\
       En X.K l N.length g U (ρ++o)/\o.length=xs.length/\jD src bd mc me ρ a.length m i N=some Y:=fun {s9 H9 j μ9} I9 e9 R9 E9 g9=>by
     refine ⟨n,XA _,i+1,_,H9,j,μ9,z,I9.unpinned,T.keep _ _ _ st7 fun b A o e=>(I9.pin (b,o) (T5 _ (T5 _ (qU A e)))).1,fun b A=>?_,e9,R9,E9,hb' _ _ _ hz,g9⟩
     obtain ⟨o,e,_⟩:=T.obj _ _ st7 b A
     exact (I9.pin (b,o) (T5 _ (T5 _ (qU A e)))).2.1
    refine T7 (hc _ _ _ _ _ s8 _ H8 (fun b' g=>∃ j,b'=b/\Ext Q μ5.length H8 j μ6.length g/\Rp X.K j g μ6) I8 ⟨Q,_,μ5,b,μ6,R7,E8,h8,fun j H9 e9 R9=>⟨j,rfl,e9,R9⟩⟩) (fun ok s9 ⟨H9,I9,j,A,e9,R9⟩=>?_) fun _ _ z=>z
    subst A
    cases ok with
    | false=>
     rw [if_neg TC]
     exact again I9 (e5.trans e9) R9 (E8.mono e9) h9
    | true=>
     rw [if_pos rfl]
     obtain ⟨⟨dy,μ7⟩,h11,h12⟩:=SF.mp h9
     obtain ⟨μ8,h13,h14⟩:=SF.mp h12
     refine T7 (he _ _ _ _ _ s9 _ H9 (fun y g=>∃ w,Ext j μ6.length H9 w μ7.length g/\Rp X.K w g μ7/\IsD X.K w μ7.length g y dy) I9 ⟨j,_,μ6,dy,μ7,R9,E8.mono e9,h11,fun w y H10 e10 R10 i10=>⟨w,e10,R10,i10⟩⟩)
      (fun u' s10 ⟨y,H10,I10,ry,w,e10,R10,i10⟩=>?_) fun _ _ z=>z
     unfold nF at h13
     split at h13
     ·rename_i zs hz
      split at h13
      ·rename_i hl
       cases h13
       obtain ⟨vs,h15,h16⟩:=R10.lst _ zs hz
       have eall:=(e5.trans e9).trans e10
       have hp:w a.length=B.heap.objs.size:=by rw [eall.pi a.length (by simp),q2]
       obtain ⟨e11,R11⟩:=R10.put (a:=a.length) (c:=.lst (zs++[dy])) (o:=.lst (vs++[y])) (SN.mp hz).1 h15 (.inl ⟨vs,rfl⟩) (h16.append (.cons i10 .nil))
       rw [hp] at h15 e11 R11
       refine T7 (Ba (X:=cG X scope cl s3.heap.objs.size (bH xs X.N++xs) s3 H3 G) _ s10 _ H10 (.ref B.heap.objs.size) [y] (.ref B.heap.objs.size) [u'] (fun _ g=>g=aI H10 B.heap.objs.size (.lst (vs++[y]))) I10 rfl (.cons ry .nil)
        ⟨B.heap.objs.size,vs,y,rfl,rfl,h15,by rw [h16.length];exact hl,rfl⟩) (fun _ s11 ⟨_,H11,I11,_,z⟩=>?_) fun _ _ z=>z
       subst z
       exact again I11 (eall.trans e11) R11 ((E8.mono (e9.trans e10)).mono e11) h14
      ·cases h13
     ·cases h13
 have l4:=loop { s3 with heap:=h₁,toks:=B.toks+([]:List (Str×SK)).length } ⟨_,rfl⟩
 have hst4:tn 0 h₁:=T.keep 0 _ _ st3 fun b A o e=>hk1 b o e
 subst hs3
 exact codeAny_compStart_list l4 (T.self _ 0 _ _ _ hst4 l4)
theorem LR (O:CompOk X scope cl xs)(a:X.calm=true)(K:PI X tg iter (jF X.K mi))(g:∀ d r z,bd d r=some z->z.length=xs.length)(G:∀ C s₀ H₀ c,PG (cG X scope cl C (bH xs X.N++xs) s₀ H₀ c) tg (fG X.K (gB X.N.length bd)))
  (hc:∀ C s₀ H₀ c,nG (cG X scope cl C (bH xs X.N++xs) s₀ H₀ c) ifs mc)(B:∀ C s₀ H₀ c,PE (cG X scope cl C (bH xs X.N++xs) s₀ H₀ c) elt (tM X.K me))
  (T:∀ x,Xp iter X.env x=pure x):PE X (.ListComp elt [⟨tg,iter,ifs,0⟩] scope pos) (tM X.K (nK bd mi mc me)):=by
 intro v s σ H Q I hw
 obtain ⟨π,ρ,r,d,μ',R,E,L,k⟩:=hw
 rw [eval_ListComp]
 refine B3 (use:=none) O a K g G hc B T I R E L fun p C j l s' w u Y i U N h n q back=>?_
 obtain ⟨m,M⟩:=i
 exact ⟨m,M,fun y Z=>⟨.ref p,l,back y (fun b o A e=>(Z.2 b A).trans e),rfl,k j _ l w u Y⟩⟩
theorem LS {i:Nat}{y:Str}{py g:UY}(O:CompOk X scope cl xs)(hN:X.N.Nodup)(h:X.calm=true)(hi:PI X tg iter (jF X.K mi))(B:∀ d Z z,bd d Z=some z->z.length=xs.length)(hg:∀ C s₀ H₀ n,PG (cG X scope cl C (bH xs X.N++xs) s₀ H₀ n) tg (fG X.K (gB X.N.length bd)))
  (hc:∀ C s₀ H₀ n,nG (cG X scope cl C (bH xs X.N++xs) s₀ H₀ n) ifs mc)(he:∀ C s₀ H₀ n,PE (cG X scope cl C (bH xs X.N++xs) s₀ H₀ n) elt (tM X.K me))
  (hs:∀ x,Xp iter X.env x=pure x)(hy:X.N[i]? = some y)(Y:X.env.scope.names.lookup y=some .local)
  (L:X8 (.ListComp elt [⟨tg,iter,ifs,0⟩] scope pos) (some (.Name y py)) g.line X.env=pure true) :
  PS X (.Assign [.Name y py] (.ListComp elt [⟨tg,iter,ifs,0⟩] scope pos) g) (cP X.K (aX i (nK bd mi mc me))):=by
 intro l s σ H EN I hw
 obtain ⟨π,ρ,Z,fl,ρ',μ',R,E,G,k⟩:=hw
 obtain ⟨⟨d,μ1⟩,h1,G⟩:=SS.mp G
 cases G
 rw [exec_Assign_Name_used _ _ _ _ L]
 refine SG (a0H ?_)
 refine SG (SG ?_)
 refine B3 (use:=some (Zf (.Name y py) X.env)) (QQ:=fun _ u=>Tn (Tr X.prog X.w) X.A (pure ()) (fun _ N=>Tn (Tr X.prog X.w) X.A (pure Flow.next) (SP X l EN) X.xe N) X.xe u) O h hi B hg hc he hs I R E h1 fun p C T v u U R1 i1 K M q j c r back=>?_
 obtain ⟨m,hn⟩:=K
 have I1:Inv X l σ v u:=back u.heap fun b o _ e=>e
 show Tn (Tr X.prog X.w) X.A (Zf (.Name y py) X.env (.ref p)) _ X.xe u
 refine a2B ?_
 refine Au I1 hN hy (.inl Y) (show RelV (.ref p) (.ref p) from rfl) (fun s2 I2 ⟨a,sb,A⟩=>?_) (.inr Y)
 have w:C≠a:=by
  rcases A with rfl|A
  ·exact q
  ·exact UM (c _ _ A)
 refine ⟨m,hn.sameBut sb w,fun h' Q=>SU (SU ?_)⟩
 refine ⟨σ.set i (some (.ref p)),v,I2.turned (t':=s2.toks) (fun b o hb e=>(Q.2 b hb).trans e) j q (.inr M) c r,?_⟩
 exact k T _ v U R1 ((E.mono U).set i1 i)
end
end L3
namespace L3
open PySem L2
noncomputable def bJ:ME:=fun _ _=>none
noncomputable def lX:MT:=fun _ _=>none
noncomputable def e8:MS:=fun _ _=>none
section
variable {X:Cx}{e a b c o:Expr}{m m1 m2 ma mb mc:ME}{pos:UY}{mt mu:MT}{rest es:List Expr}{ms:MA}{n:Nat}
theorem bP:QE X e bJ:=⟨fun a4b s σ H Q I h=>by
 obtain ⟨l,p,j,d,i,R,E,g,k⟩:=h
 cases g⟩
theorem wD:QT X e lX:=⟨fun a4b s σ H Q I h=>by
 obtain ⟨l,p,j,d,i,R,E,g,k⟩:=h
 cases g⟩
theorem LU:QW X e lX:=⟨fun j a4b s σ H Q I h=>by
 obtain ⟨p,q,l,d,i,R,E,g,k⟩:=h
 cases g⟩
theorem eC {st:Stmt}:QS X st e8:=⟨fun a4b s σ H D I h=>by
 obtain ⟨p,q,l,j,i,g,R,E,d,k⟩:=h
 cases d⟩
theorem rS {g:MG}(l:∀ d ρ j,g d ρ j=none):QG X e g:=⟨fun a4b s σ H v u Q I r h=>by
 obtain ⟨q,ρ,j,d,p,R,E,hd,i,k⟩:=h
 rw [l] at i
 cases i⟩
theorem nM (h1:QE X e m1)(l:QE X e m2)(h:∀ ρ g r,m ρ g=some r->m1 ρ g=some r\/m2 ρ g=some r):QE X e m:=⟨fun a4b s σ H Q I q=>by
 obtain ⟨j,ρ,g,d,i,R,E,p,k⟩:=q
 rcases h ρ g _ p with z|z
 ·exact h1.h a4b s σ H Q I ⟨j,ρ,g,d,i,R,E,z,k⟩
 ·exact l.h a4b s σ H Q I ⟨j,ρ,g,d,i,R,E,z,k⟩⟩
theorem rV {m m1 m2:MT}(h1:QT X e m1)(l:QT X e m2)(h:∀ ρ g r,m ρ g=some r->m1 ρ g=some r\/m2 ρ g=some r):QT X e m:=⟨fun a4b s σ H Q I q=>by
 obtain ⟨j,ρ,g,d,i,R,E,p,k⟩:=q
 rcases h ρ g _ p with z|z
 ·exact h1.h a4b s σ H Q I ⟨j,ρ,g,d,i,R,E,z,k⟩
 ·exact l.h a4b s σ H Q I ⟨j,ρ,g,d,i,R,E,z,k⟩⟩
theorem iI {f j l:D->D->Hm->Option (D×Hm)}(h:∀ x y d r,f x y d=some r->j x y d=some r\/l x y d=some r) :
  ∀ i d r,aB f ma mb i d=some r->aB j ma mb i d=some r\/aB l ma mb i d=some r:=by
 intro i d r g
 obtain ⟨p,s,g⟩:=SF.mp g
 obtain ⟨q,u,g⟩:=SF.mp g
 rcases h _ _ _ _ g with z|z
 ·exact .inl (SF.mpr ⟨p,s,SF.mpr ⟨q,u,z⟩⟩)
 ·exact .inr (SF.mpr ⟨p,s,SF.mpr ⟨q,u,z⟩⟩)
theorem rW (h:∀ ρ d r,m ρ d=some r->m1 ρ d=some r\/m2 ρ d=some r):∀ ρ d r,aU m ρ d=some r->aU m1 ρ d=some r\/aU m2 ρ d=some r:=by
 intro ρ d r g
 obtain ⟨p,i,g⟩:=SF.mp g
 rcases h _ _ _ i with z|z
 ·exact .inl (SF.mpr ⟨p,z,g⟩)
 ·exact .inr (SF.mpr ⟨p,z,g⟩)
noncomputable def wF:List D->Option (List Int)
 | []=>some []
 | .int i::r=>(wF r).map (i::·)
 | _=>none
noncomputable def dC:D->Option (List Int)
 | .tup ds=>wF ds
 | _=>none
noncomputable def b7 (kvs:List (List Int×D))(k:List Int):Option D:=(kvs.find? fun p=>decide (p.1=k)).map (·.2)
noncomputable def cZ (kvs:List (List Int×D))(k:List Int)(d:D):List (List Int×D):=if (b7 kvs k).isSome then kvs.map (fun p=>if p.1=k then (p.1,d) else p) else kvs++[(k,d)]
noncomputable def aN:D->D->Hm->Option (D×Hm):=fun x y g=>match x with
 | .loc a=>match g[a]? with
  | some (.dK kvs)=>(kC y).bind fun k=>(d8 kvs k).map fun d=>(d,g)
  | some (.dT kvs)=>(dC y).bind fun k=>(b7 kvs k).map fun d=>(d,g)
  | _=>fX x y g
 | _=>fX x y g
structure TabOk (X:Cx)(x:Str)(kvs:List (aF×D)):Prop where
 ex:∃ (p:Addr)(vs:List (aF×V))(ws:List (aF×SK)),X.mg x=some (.ref p)/\(∀ h:Uj,X.K.In h->h.DictOf (c8 X.prog X.w) p ws)/\KV vs ws/\∀ π n H,IsKs X.K π n H vs kvs
theorem B4 {a4b:List (Addr×Vu)}{σ:St}{H:Hp}{s:SM}(I:Inv X a4b σ H s){p:Addr}{d:Vu}(h:X.K.lookup p=some d):H p=none:=(I.bs p d (I.mod.kin p d h)).2
theorem B5 {K:SJ}{π:Nat->Addr}{H:Hp}{g:Hm}(R:Rp K π H g){a':Nat}(p:a'<g.length):(∃ vs,H (π a')=some (.lst vs))\/(∃ vs,H (π a')=some (.dK vs))\/(∃ i,H (π a')=some (.ext i))\/∃ l i,H (π a')=some (.frz l (.ext i)):=by
 cases q:g[a']? with
 | none=>exact absurd (WG.mp q) (by omega)
 | some j=>
  cases j with
  | lst d=>obtain ⟨vs,h,_⟩:=R.lst a' d q;exact .inl ⟨vs,h⟩
  | dK d=>obtain ⟨vs,h,_⟩:=R.dK a' d q;exact .inr (.inl ⟨vs,h⟩)
  | st d=>obtain ⟨vs,h,_⟩:=R.st a' d q;exact .inr (.inr (.inl ⟨_,h⟩))
  | dT d=>obtain ⟨vs,h,_⟩:=R.dT a' d q;exact .inr (.inr (.inl ⟨_,h⟩))
section
variable {a4b:List (Addr×Vu)}{σ:St}{H:Hp}{s:SM}{π:Nat->Addr}{μ:Hm}
theorem B6 (I:Inv X a4b σ H s)(R:Rp X.K π H μ){a':Nat}(g:a'<μ.length){vs:List V}(h:SqT X.K H (π a') vs):False:=by
 have hc:=B5 R g
 rcases h with h|h
 ·rcases h with h|⟨l,h⟩<;>rcases hc with ⟨d,z⟩|⟨d,z⟩|⟨d,z⟩|⟨_,d,z⟩<;>(rw [h] at z;cases z)
 ·obtain ⟨l,j,n,i,_⟩:=h
  have:=B4 I i
  rcases hc with ⟨d,z⟩|⟨d,z⟩|⟨d,z⟩|⟨_,d,z⟩<;>(rw [this] at z;cases z)
theorem B7 (I:Inv X a4b σ H s)(R:Rp X.K π H μ){a':Nat}(g:a'<μ.length){vs:List V}(h:RoL X.K H (π a') vs):False:=by
 have hc:=B5 R g
 rcases h with ⟨l,h⟩|h
 ·rcases hc with ⟨d,z⟩|⟨d,z⟩|⟨d,z⟩|⟨_,d,z⟩<;>(rw [h] at z;cases z)
 ·obtain ⟨l,j,n,i,_⟩:=h
  have:=B4 I i
  rcases hc with ⟨d,z⟩|⟨d,z⟩|⟨d,z⟩|⟨_,d,z⟩<;>(rw [this] at z;cases z)
theorem B8 (I:Inv X a4b σ H s){p:Addr}{vs ws:List V}(h:SqT X.K H p vs)(h':RoL X.K H p ws):False:=by
 obtain ⟨g,_,t,_⟩:=I.tuple h
 obtain ⟨d,_,l,_⟩:=I.list h'.sq
 exact absurd rfl (Vg l.isList t)
mutual
theorem B9 (I:Inv X a4b σ H s)(R:Rp X.K π H μ){v:V}{d d':D}:IsD X.K π μ.length H v d->IsD X.K π μ.length H v d'->d=d'
 | .non,h'=>by cases h';rfl
 | .bl _,h'=>by cases h';rfl
 | .int _,h'=>by cases h';rfl
 | .str _,h'=>by cases h';rfl
 | .ty _,h'=>by cases h';rfl
 | .tup h t,h'=>by
  cases h' with
  | tup g i=>
   have:=I.tuple_inj h g
   subst this
   rw [wG I R t i]
  | rol g i=>exact (B8 I h g).elim
  | loc g=>exact (B6 I R g h).elim
 | .rol h t,h'=>by
  cases h' with
  | tup g i=>exact (B8 I g h).elim
  | rol g i=>
   have:=I.list_inj h.sq g.sq
   subst this
   rw [wG I R t i]
  | loc g=>exact (B7 I R g h).elim
 | .loc (a:=a1) ha,h'=>by
  generalize hz:V.ref (π a1)=z at h'
  cases h' with
  | tup g i=>cases hz;exact (B6 I R ha g).elim
  | rol g i=>cases hz;exact (B7 I R ha g).elim
  | loc g=>
   have:=R.inj _ _ ha g (V.ref.inj hz)
   rw [this]
  | _=>cases hz
theorem wG (I:Inv X a4b σ H s)(R:Rp X.K π H μ){vs:List V}{ds d:List D}:IsDs X.K π μ.length H vs ds->IsDs X.K π μ.length H vs d->ds=d
 | .nil,h'=>by cases h';rfl
 | .cons h t,h'=>by
  cases h' with
  | cons g i=>rw [B9 I R h g,wG I R t i]
end
end
noncomputable def nN (a:Hm)(x:D):List D->Option Bool
 | []=>some false
 | y::r=>(c9 8 a y x).bind fun b=>(nN a x r).map fun c=>b||c
noncomputable def lY (a:Bool):D->D->Hm->Option (D×Hm):=fun x y c=>(bN c y).bind fun d=>(nN c x d).map fun b=>(.bl (if a then !b else b),c)
noncomputable def wH (K:SJ)(c:Bool):R2:=fun x y H Q=>∃ π a d e g b,Rp K π H a/\IsD K π a.length H x d/\IsD K π a.length H y e/\bN a e=some g/\nN a d g=some b/\Q (.bl (if c then !b else b)) H
theorem rX {K:SJ}{c:Bool}:cF K (lY c) (wH K c):=by
 intro e H p x y d m n o Q R i j a k
 obtain ⟨l,g,a⟩:=SF.mp a
 obtain ⟨b,h,a⟩:=SS.mp a
 cases a
 exact ⟨e,_,x,y,l,b,R,i,j,g,h,k e _ H .refl R (.bl _)⟩
theorem rY {a4b:List (Addr×Vu)}{σ:St}{H:Hp}{s:SM}{π:Nat->Addr}{i:Hm}(I:Inv X a4b σ H s)(R:Rp X.K π H i){A:Tv}(U:A.units+8<UT){x:V}{v:SK}{n:D}(rx:RelV x v)(ix:IsD X.K π i.length H x n) :
  ∀ {e:List D}{vs:List V}{us:List SK}{b:Bool},IsDs X.K π i.length H vs e->Vals vs us->nN i n e=some b->
   ∃ g:SK->Bool,(∀ u∈us,ZA A s u v (g u))/\us.any g=b:=by
 classical
 intro e vs us b l m d
 have p:∀ {e:List D}{vs:List V}{us:List SK}{b:Bool},IsDs X.K π i.length H vs e->Vals vs us->nN i n e=some b->(∀ u∈us,∃ c,ZA A s u v c/\∃ w o,RelV w u/\IsD X.K π i.length H w o/\c9 8 i o n=some c):=by
  intro e
  induction e with
  | nil=>
   intro vs us b l m d u a
   cases l
   cases m
   cases a
  | cons y e L=>
   intro vs us b l m d u a
   cases l with
   | cons h t=>
    cases m with
    | cons r rt=>
     obtain ⟨c,E,d⟩:=SF.mp d
     obtain ⟨c2,G,d⟩:=SS.mp d
     rcases To.mp a with rfl|a
     ·exact ⟨c,vH I R 8 U r rx h ix E,_,_,r,h,E⟩
     ·exact L t rt G u a
 have q:=p l m d
 refine ⟨fun u=>if h:u∈us then YM (q u h) else false,fun u a=>?_,?_⟩
 ·simp only [dif_pos a]
  exact (ZU (q u a)).1
 ·have M:∀ u (h:u∈us) w o c,RelV w u->IsD X.K π i.length H w o->c9 8 i o n=some c->YM (q u h)=c:=by
   intro u h w o c N iw O
   obtain ⟨_,w2,Q,r2,Z,T⟩:=ZU (q u h)
   have:w2=w:=r2.inj N
   subst this
   have:=B9 I R Z iw
   subst this
   rw [T] at O
   exact TL O
  have B:∀ {e:List D}{vs:List V}{j:List SK}{b:Bool},(∀ u∈j,u∈us)->IsDs X.K π i.length H vs e->Vals vs j->nN i n e=some b->j.any (fun u=>if h:u∈us then YM (q u h) else false)=b:=by
   intro e
   induction e with
   | nil=>
    intro vs j b K l m d
    cases l
    cases m
    cases d
    rfl
   | cons y e L=>
    intro vs j b K l m d
    cases l with
    | cons h t=>
     cases m with
     | @cons _ u _ us2 r rt=>
      obtain ⟨c,E,d⟩:=SF.mp d
      obtain ⟨c2,G,d⟩:=SS.mp d
      have eY:u∈us:=K u (Td ..)
      rw [XB,L (fun z Y=>K z (S3 _ Y)) t rt G,dif_pos eY,M u eY _ _ c r h E]
      exact d
  exact B (fun _ h=>h) l m d
theorem rZ {k:Nat}{A:Tv}(r:Room k A):A.units+9<UT:=by have:=r.un;omega
theorem Ca (K:X.A.units+9<UT):OpR X (Uq .In) (wH X.K false):=by
 intro n s T H x y v u Q I m B h
 obtain ⟨O,N,E,G,M,b,R,l,A,o,j,q⟩:=h
 obtain ⟨p,L,rfl,c,hd⟩:=pJ R A o
 cases B
 rcases c with c|c
 ·obtain ⟨a,r,i,z⟩:=I.list c
  obtain ⟨g,d,e⟩:=rY I R (A:=X.A.in1) (by rw [lO];omega) m l hd r j
  refine SeqAt.in_listAt g i.isList (fun w hw=>d w (by simpa using hw)) ⟨.bl _,H,I,rfl,?_⟩
  rw [show a.toArray.any g=a.any g by simp,e]
  exact q
 ·obtain ⟨a,r,i,z⟩:=I.tuple c
  obtain ⟨g,d,e⟩:=rY I R (A:=X.A.in1) (by rw [lO];omega) m l hd r j
  refine SeqAt.in_tupleAt g i (fun w hw=>d w (by simpa using hw)) ⟨.bl _,H,I,rfl,?_⟩
  rw [show a.toArray.any g=a.any g by simp,e]
  exact q
theorem Cb (K:X.A.units+9<UT):OpR X (Uq .NotIn) (wH X.K true):=by
 intro n s T H x y v u Q I m B h
 obtain ⟨O,N,E,G,M,b,R,l,A,o,j,q⟩:=h
 obtain ⟨p,L,rfl,c,hd⟩:=pJ R A o
 cases B
 rcases c with c|c
 ·obtain ⟨a,r,i,z⟩:=I.list c
  obtain ⟨g,d,e⟩:=rY I R (A:=X.A.in1) (by rw [lO];omega) m l hd r j
  refine SeqAt.notIn_listAt g i.isList (fun w hw=>d w (by simpa using hw)) ⟨.bl _,H,I,rfl,?_⟩
  rw [show a.toArray.any g=a.any g by simp,e]
  exact q
 ·obtain ⟨a,r,i,z⟩:=I.tuple c
  obtain ⟨g,d,e⟩:=rY I R (A:=X.A.in1) (by rw [lO];omega) m l hd r j
  refine SeqAt.notIn_tupleAt g i (fun w hw=>d w (by simpa using hw)) ⟨.bl _,H,I,rfl,?_⟩
  rw [show a.toArray.any g=a.any g by simp,e]
  exact q
noncomputable def cB (b:Bool):D->D->Hm->Option (D×Hm)
 | .str i,.str j,μ=>some (.bl (if b then !(!(Uy j i 0 j.length 1).isEmpty) else !(Uy j i 0 j.length 1).isEmpty),μ)
 | x,.loc a,μ=>match μ[a]? with
  | some (.dT kvs)=>(dC x).map fun k=>(.bl (if b then !(b7 kvs k).isSome else (b7 kvs k).isSome),μ)
  | _=>lY b x (.loc a) μ
 | x,y,μ=>lY b x y μ
noncomputable def wI:D->D->Hm->Option (D×Hm)
 | .str i,.str j,μ=>some (.bl (!(!(Uy j i 0 j.length 1).isEmpty)),μ)
 | _,_,_=>none
theorem Cd {K:SJ}:cF K wI (fun x y H Q=>∃ i j,x=.str i/\y=.str j/\Q (.bl (!(!(Uy j i 0 j.length 1).isEmpty))) H):=by
 intro g H m x y d e h l Q R b c a k
 unfold wI at a
 split at a
 ·cases a
  cases b
  cases c
  exact ⟨_,_,rfl,rfl,k g _ H .refl R (.bl _)⟩
 ·cases a
end
end L3
namespace L3
open PySem L2
section
variable {X:Cx}{e a b c o:Expr}{m m1 m2 ma mb mc mo:ME}{pos apos cpos:UY}{mt mu:MT}{rest es:List Expr}{ms:MA}{n:Nat}
noncomputable def nO (d:Hm):D->Bool
 | .rol _=>true
 | .loc a=>match d[a]? with|some (.lst _)=>true|_=>false
 | _=>false
noncomputable def f9 (f:D->List D->Hm->Option (D×Hm))(mo:ME)(ms:MA):ME:=fun ρ d=>(mo ρ d).bind fun p=>match nO p.2 p.1 with
 | true=>(ms ρ p.2).bind fun q=>f p.1 q.1 q.2
 | false=>none
noncomputable def iJ (K:SJ)(f:D->List D->Hm->Option (D×Hm))(r:V->List V->Hp->VK->Prop):Prop:=
 ∀ i H g x l d h v j Q,Rp K i H g->IsD K i g.length H v x->IsDs K i g.length H j l->f x l g=some (d,h)->KC K Q i g.length H d h->r v j H Q
theorem Ce {K:SJ}{π:Nat->Addr}{H:Hp}{d:Hm}{v:V}{x:D}(R:Rp K π H d)(h:IsD K π d.length H v x)(e:nO d x=true):rB K "list" v H:=by
 cases h with
 | rol h t=>exact .inl ⟨rfl,_,h.sq⟩
 | @loc a p=>
  simp only [nO] at e
  split at e
  ·rename_i l i
   obtain ⟨j,g,_⟩:=R.lst a l i
   exact .inl ⟨rfl,j,.of g⟩
  ·cases e
 | _=>cases e
theorem LV {K:SJ}{f:D->List D->Hm->Option (D×Hm)}{r:V->List V->Hp->VK->Prop}(G:iJ K f r):∀ σ H Q,tM K (f9 f mo ms) σ H Q->A8 K "list" r (tM K mo) (d6 K ms) σ H Q:=by
 rintro σ H Q ⟨T,y,O,d,j,R,E,g,k⟩
 obtain ⟨⟨x,h⟩,A,g⟩:=SF.mp g
 dsimp only at g
 split at g
 ·rename_i I
  obtain ⟨⟨w,i⟩,B,g⟩:=SF.mp g
  refine ⟨T,y,O,x,h,R,E,A,fun l M U s q v=>⟨Ce q v I,l,y,h,w,i,q,E.mono s,B,fun p N z u R2 L=>?_⟩⟩
  exact G p z i x w d j M N Q R2 (v.mono u) L g (k.after (s.trans u))
 ·cases g
theorem LW {K:SJ}{f:D->List D->Hm->Option (D×Hm)}{r:V->List V->Hp->VK->Prop}(w:iJ K f r):∀ σ H Q,tM K (f9 f mo aD) σ H Q->A7 K "list" r (tM K mo) σ H Q:=by
 rintro σ H Q ⟨G,I,A,d,i,R,E,g,k⟩
 obtain ⟨⟨x,h⟩,u,g⟩:=SF.mp g
 dsimp only at g
 split at g
 ·rename_i y
  obtain ⟨⟨L,B⟩,v,g⟩:=SF.mp g
  cases v
  refine ⟨G,I,A,x,h,R,E,u,fun j z q s l p=>⟨Ce l p y,?_⟩⟩
  exact w j q h x [] d i z [] Q l p .nil g (k.after s)
 ·cases g
noncomputable def fI:Expr->Bool
 | .Call (.Name _ _) [] [] _=>false
 | _=>true
theorem iK {o:Expr}{i:Str}{env:YU}{d:a0L SK}(h:fI o=true):VN o i env d=d:=by
 cases o with
 | Call f g j p=>
  cases f with
  | Name id q=>
   cases g with
   | nil=>
    cases j with
    | nil=>cases h
    | cons _ _=>rfl
   | cons _ _=>rfl
  | _=>rfl
 | _=>rfl
theorem Cf {e:Expr}{es:List Expr}{env:YU}{cpos:UY}(h:(e::es).all cX=true)(i:(e::es).length<30) :
  ((Wg cpos (TU (e::es) env)).all (fun x=>!x.1)&&(a0t cpos (YQ [] env)).all (fun x=>x.1.isSome)
   && decide ((e::es).length+([]:List WN).length+(if ([]:List WN).isEmpty then 0 else 1)<30))=true:=by
 have d:(Wg cpos (TU (e::es) env)).all (fun x=>!x.1)=true:=by
  have:=lT (pos:=cpos) (env:=env) h
  rw [List.all_eq_not_any_not]
  simpa using this
 rw [d]
 have g:(e::es).length+([]:List WN).length+(if ([]:List WN).isEmpty then 0 else 1)<30:=by
  show (e::es).length+0+0<30
  omega
 rw [decide_eq_true g]
 rfl
theorem Cg {f:D->List D->Hm->Option (D×Hm)}{r:V->List V->Hp->VK->Prop}{name:Str}{id:String}(slot:Slot "list" name id) (h:a1h (.builtin id)=pure (.type "method_descriptor")) (p:j6 X id r)(j:iJ X.K f r)
  (s:QE X o mo)(i:QA X (e::es) ms n)(u:fI o=true)(l:(apos.endLine == cpos.line)=true)(q:(e::es).length<30):QE X (.Call (.Attribute o name apos) (e::es) [] cpos) (f9 f mo ms):=by
 have g:=i.s
 have d:=g
 rw [Up,S0] at d
 exact ⟨b6 (IF ZP slot h p s.h i.h (iK u) (Cf g q) l (gQ d.1) (lT d.2)) (LV j)⟩
theorem LX {f:D->List D->Hm->Option (D×Hm)}{r:V->List V->Hp->VK->Prop}{name:Str}{id:String}(slot:Slot "list" name id) (d:a1h (.builtin id)=pure (.type "method_descriptor")) (i:j6 X id r)(g:iJ X.K f r)
  (j:QE X o mo)(l:fI o=true)(h:(apos.endLine == cpos.line)=true):QE X (.Call (.Attribute o name apos) [] [] cpos) (f9 f mo aD):=
 ⟨b6 (IE ZP slot d i j.h (iK l) h) (LW g)⟩
noncomputable def kJ:D->List D->Hm->Option (D×Hm)
 | .loc a,[y],μ=>(nF μ a y).map fun d=>(.non,d)
 | _,_,_=>none
noncomputable def nP:D->List D->Hm->Option (D×Hm)
 | .loc a,[.loc b],μ=>match μ[a]?,μ[b]? with
  | some (.lst xs),some (.lst ys)=>if xs.length+ys.length<=S8 then some (.non,μ.set a (.lst (xs++ys))) else none
  | _,_=>none
 | _,_,_=>none
noncomputable def lZ:D->List D->Hm->Option (D×Hm)
 | .loc a,[],μ=>match μ[a]? with
  | some (.lst xs)=>(xs[xs.length - 1]?).map fun y=>(y,μ.set a (.lst xs.dropLast))
  | _=>none
 | _,_,_=>none
theorem LY {K:SJ}{π:Nat->Addr}{n:Nat}{H:Hp}{vs:List V}{ds:List D}(h:IsDs K π n H vs ds):IsDs K π n H vs.dropLast ds.dropLast:=by
 rw [a0x,a0x,h.length]
 exact h.take _
theorem LZ {K:SJ}:iJ K kJ A9:=by
 intro I H N x M d E v L Q R A i h k
 unfold kJ at h
 split at h
 ·rename_i a y
  obtain ⟨G,g,h⟩:=SS.mp h
  cases h
  unfold nF at g
  split at g
  ·rename_i r q
   split at g
   ·rename_i w
    cases g
    obtain ⟨j,l,p⟩:=R.lst a r q
    cases A
    cases i with
    | cons B z=>
     cases z
     obtain ⟨u,s⟩:=R.put (a:=a) (c:=.lst (r++[y])) (o:=.lst (j++[_])) (SN.mp q).1 l (.inl ⟨j,rfl⟩) (p.append (.cons B .nil))
     exact ⟨_,j,_,rfl,rfl,l,by rw [p.length];exact w,k I _ _ u s .non⟩
   ·cases g
  ·cases g
 ·cases h
theorem L0 {K:SJ}:iJ K nP Bb:=by
 intro M H T x O d L v N Q R G h g k
 unfold nP at g
 split at g
 ·rename_i a b
  split at g
  ·rename_i u s q B
   split at g
   ·rename_i A
    cases g
    obtain ⟨i,j,l⟩:=R.lst a u q
    obtain ⟨r,z,p⟩:=R.lst b s B
    cases G
    cases h with
    | cons I E=>
     cases E
     cases I
     obtain ⟨y,w⟩:=R.put (a:=a) (c:=.lst (u++s)) (o:=.lst (i++r)) (SN.mp q).1 j (.inl ⟨i,rfl⟩) (l.append p)
     exact ⟨_,_,i,r,rfl,rfl,j,z,by rw [l.length,p.length];exact A,k M _ _ y w .non⟩
   ·cases g
  ·cases g
 ·cases g
theorem L1 {K:SJ}:iJ K lZ Bc:=by
 intro G H M x L d E v I Q R B i g k
 unfold lZ at g
 split at g
 ·rename_i a
  split at g
  ·rename_i r q
   obtain ⟨y,u,g⟩:=SS.mp g
   cases g
   obtain ⟨j,p,h⟩:=R.lst a r q
   cases B
   cases i
   obtain ⟨w,z,A⟩:=h.get u
   obtain ⟨l,s⟩:=R.put (a:=a) (c:=.lst r.dropLast) (o:=.lst j.dropLast) (SN.mp q).1 p (.inl ⟨j,rfl⟩) (LY h)
   refine ⟨_,j,w,rfl,rfl,p,by rw [h.length];exact z,k G w _ l s (A.mono l)⟩
  ·cases g
 ·cases g
noncomputable def kK (d:Hm):D->Option Bool
 | .non=>some false
 | .bl b=>some b
 | .int i=>some (i != 0)
 | .str z=>if z.length<=S8 then some ((z.length:Int) != 0) else none
 | .tup xs=>some (!xs.isEmpty)
 | .rol xs=>some (!xs.isEmpty)
 | .loc a=>match d[a]? with|some (.lst xs)=>some (!xs.isEmpty)|some (.dK kvs)=>some (!kvs.isEmpty)|_=>none
 | .ty _=>none
theorem r6 {g i:Type}{xs:List g}{d:List i}(h:xs.length=d.length):xs.isEmpty=d.isEmpty:=by
 cases xs<;>cases d<;>first|rfl|cases h
theorem L4 {K:SJ}{π:Nat->Addr}{H:Hp}{q:Hm}{v:V}{x:D}{b:Bool}(R:Rp K π H q)(h:IsD K π q.length H v x)(e:kK q x=some b):uR K v H b:=by
 cases h with
 | non=>cases e;rfl
 | bl c=>cases e;rfl
 | int i=>cases e;rfl
 | str z=>
  simp only [kK] at e
  split at e
  ·rename_i r;cases e;exact ⟨r,rfl⟩
  ·cases e
 | tup h t=>cases e;exact .inr (.inl ⟨_,h,by rw [r6 t.length]⟩)
 | rol h t=>cases e;exact .inl ⟨_,h.sq,by rw [r6 t.length]⟩
 | @loc a u=>
  simp only [kK] at e
  split at e
  ·rename_i s j
   cases e
   obtain ⟨p,d,g⟩:=R.lst a s j
   exact .inl ⟨p,.of d,by rw [r6 g.length]⟩
  ·rename_i l j
   cases e
   obtain ⟨p,d,g,_⟩:=R.dK a l j
   refine .inr (.inr ⟨p,d,?_⟩)
   have:=congrArg Ua g
   rw [SQ,SQ] at this
   rw [r6 this]
  ·cases e
 | ty n=>cases e
noncomputable def kL (m:ME):MT:=fun ρ d=>(m ρ d).bind fun p=>(kK p.2 p.1).map fun b=>(b,p.2)
theorem L5 (h:QE X e m)(r:v8 e=true):QT X e (kL m):=⟨rD (Hz h.h (Lm r)) (by
 rintro G H Q ⟨y,z,u,b,v,R,E,d,k⟩
 obtain ⟨⟨x,w⟩,p,d⟩:=SF.mp d
 obtain ⟨A,q,d⟩:=SS.mp d
 cases d
 exact ⟨y,z,u,x,_,R,E,p,fun g B j l i s=>⟨_,L4 i s q,k g j l i⟩⟩)⟩
theorem L6 {k:Nat}{f:Addr}{j:VA}{ps:List Str}{l:MF}{x:Str}{p:UY}(F:FnOk X.prog X.w X.K X.mg X.base eS k f j ps (iB X.K 0 l))(v:Room k X.A)(g:X.mg x=some (.ref f))
  (u:Vf X.K (.ref f)=true)(r:Binds X.K j ps [])(s:Gl X x)(h:(x == ("__debug__":Str))=false):QE X (.Call (.Name x p) [] [] pos) (aL l aD):=
 ⟨b6 (HI F v s g u r .nil (E:=E0) Bg h) (by
  rintro G H Q ⟨z,B,w,d,i,R,E,g,k⟩
  obtain ⟨⟨A,y⟩,q,g⟩:=SF.mp g
  cases q
  exact ⟨rfl,z,[],w,d,i,R,.nil,g,k⟩)⟩
noncomputable def l7 (c:MT)(b:MS):Nat->MS
 | 0,_,_=>none
 | n+1,ρ,μ=>(c ρ μ).bind fun p=>match p.1 with
  | false=>some (.nx,ρ,p.2)
  | true=>(b ρ p.2).bind fun q=>match q.1 with
   | .nx=>l7 c b n q.2.1 q.2.2
   | .ct=>l7 c b n q.2.1 q.2.2
   | .bk=>some (.nx,q.2.1,q.2.2)
   | .rt d=>some (.rt d,q.2.1,q.2.2)
noncomputable def nQ (n:Nat)(c:MT)(b:MS):MS:=l7 c b n
theorem L7 {body:List Stmt}{mb:MS}(n:Nat)(hc:QT X c mt)(hb:QB X body mb)(hp:Z2 (Tr X.prog X.w) X.A X.env X.xe):QS X (.While c body [] pos) (nQ n mt mb):=⟨iC (G6 hp hc.h hb.h) (by
 rintro E σ H ⟨Z,ρ,Y,T,B,z,R,EN,hm,k⟩
 have q:∀ {h:Nat->Addr}{n2:Nat}{H2:Hp}(e:Ext Z Y.length H h n2 H2),lM X.K E h n2 H2 T B z:=fun {h n2 H2} e=>by
  cases T with
  | nx=>exact fun i s y j x K=>k i s y (e.trans j) x K
  | bk=>exact fun i s y j x K=>k i s y (e.trans j) x K
  | ct=>exact fun i s y j x K=>k i s y (e.trans j) x K
  | rt d=>exact KC.after k e
 refine ⟨fun m v w=>∃ h l r,Ext Z Y.length H h l.length w/\Rp X.K h w l/\En X.K h l.length w v r/\l7 mt mb m r l=some (T,B,z),⟨n,Z,Y,ρ,.refl,R,EN,hm⟩,?_⟩
 rintro m σ1 H1 ⟨h,l,r,N,R2,E2,h2⟩
 cases m with
 | zero=>cases h2
 | succ m=>
  obtain ⟨⟨b,Q⟩,h3,h4⟩:=SF.mp h2
  refine ⟨h,r,l,b,Q,R2,E2,h3,fun i y j x=>?_⟩
  cases b with
  | false=>
   refine j7 ?_
   cases h4
   exact q N i σ1 y j x (E2.mono j)
  | true=>
   refine j8 ?_
   obtain ⟨⟨f4,G,A⟩,h5,U⟩:=SF.mp h4
   refine ⟨fun v w=>∃ g u p,Ext Z Y.length H g p.length w/\Rp X.K g w p/\En X.K g p.length w v u/\l7 mt mb m u p=some (T,B,z),
    fun v w ⟨g,u,p,a1,a2,a3,a4⟩=>⟨m,XA _,g,p,u,a1,a2,a3,a4⟩,i,r,Q,f4,G,A,x,E2.mono j,h5,?_⟩
   cases f4 with
   | nx=>exact fun g I H5 O M L=>⟨g,G,A,(N.trans j).trans O,M,L,U⟩
   | ct=>exact fun g I H5 O M L=>⟨g,G,A,(N.trans j).trans O,M,L,U⟩
   | bk=>
    cases U
    exact fun g I H5 O M L=>q (N.trans j) g I H5 O M L
   | rt d'=>
    cases U
    exact q (N.trans j))⟩
theorem L8:QS X (.Return none pos) (bB (mC .non)):=⟨iC GW (by
 rintro E r H ⟨h,q,p,l,i,g,R,j,d,k⟩
 cases d
 exact k h .non H .refl R .non)⟩
end
end L3
namespace L3
open PySem L2
section
variable {X:Cx}
end
end L3
namespace L3
open PySem L2
open PyProof.Rows (IntsAre)
open PySem.W (KasT kas_asc kas_desc kas_tail3 kas_descPart kas_count kas_place kas_bin kas_sort kas_rev kas_ask)
noncomputable def bU (lt:Nat->Nat->Bool)(n:Nat):List Nat:=(Tz n).mergeSort fun i j=>!(lt j i)
theorem L9 (lt:Nat->Nat->Bool){n:Nat}(_:0<n):(bU lt n).Perm (Tz n):=List.mergeSort_perm _ _
section
variable {X:Cx}{a4b:List (Addr×Vu)}{σ:St}{H:Hp}{s:SM}
end
theorem Ci {prog:Tj}{w:TH}{A:Tv}{s:SM}{Q:Bool->SM->Prop}:∀ {us vs:List SK}{ns b:List Int}(i:Nat),Wr us ns->Wr vs b->Q (HT.lexLt ns b) s->
  PySem.W.KatLex prog w A true (decide (us.length<vs.length)) Q (us.zip vs) i s
 | _,_,_,_,i,.nil,.nil,h=>by exact h
 | _,_,_,_,i,.nil,.cons c u hv,h=>by
  show Q (decide (0<_+1)) s
  rw [decide_eq_true (Y5 _)]
  exact h
 | _,_,_,_,i,.cons a t hu,.nil,h=>by
  show Q (decide (_+1<0)) s
  rw [decide_eq_false (WS _)]
  exact h
 | _,_,_,_,i,.cons (vs:=us) (ns:=ns) a t hu,.cons (vs:=vs) (ns:=b) c u hv,h=>by
  rw [HT.lexLt_cons] at h
  refine PySem.W.kat_cons (Z8 a t c u prog w _ _ ?_)
  by_cases e:a=c
  ·subst e
   rw [if_pos rfl] at h
   rw [beq_self_eq_true]
   refine PySem.W.kat_yes ?_
   have:=Ci (prog:=prog) (w:=w) (A:=A) (s:=s) (Q:=Q) (i+1) hu hv h
   have g:decide ((XR a t::us).length<(XR a u::vs).length)=decide (us.length<vs.length):=by simp
   rw [g]
   exact this
  ·rw [if_neg e] at h
   have d:(a == c)=false:=by simpa using e
   rw [d]
   refine PySem.W.kat_no ?_
   cases j:(true&&i == 0) with
   | true=>exact a3r h
   | false=>exact PySem.W.kat_one _ _ (ZF h)
noncomputable abbrev TupsV (K:SJ)(H:Hp):List V->List (List Int)->Prop:=V6 fun v t=>∃ a,v=V.ref a/\SqT K H a (t.map V.int)
theorem TupsV.get {K:SJ}{H:Hp}:∀ {vs:List V}{b:List (List Int)}{i:Nat},TupsV K H vs b->i<vs.length->∃ a,vs[i]? = some (V.ref a)/\SqT K H a ((b.getD i []).map V.int)
 | _,_,_,.nil,h=>by simp at h
 | _,_,0,.cons ⟨a,e,q⟩ _,_=>⟨a,by rw [e];rfl,q⟩
 | _,_,i+1,.cons _ t,h=>by
  obtain ⟨a,e,q⟩:=TupsV.get (i:=i) t (by simpa using h)
  exact ⟨a,by simpa using e,q⟩
section
open PyProof.Rows
variable {prog:Tj}{w:TH}{A:Tv}{E:SK->SM->Prop}{s:SM}
theorem wJ {c:Addr}{us:List SK}{z:Nat}{R:Fin->SM->Prop}(e:us.length<2)(g:s.heap.get? c=some (UH "list" us.toArray z)) (q:R (.done (.ret .none)) { s with heap:=Yx s.heap c us us.toArray }) :
  Tn (Tr prog w) A (Builtin.«list.sort» ⟨[.ref c],[]⟩) R E s:=by
 rw [a3j]
 have lt:c<s.heap.objs.size:=S6 g
 refine SG (listItems_at g rfl (SG (Za g rfl ?_)))
 obtain ⟨y,b⟩:∃ y,(s.heap.update c (UD fun _=>#[])).get? c=some (UH "list" #[] y):=⟨_,a3k g _⟩
 refine SG (Z7 b rfl (SG (a0o (SG (Yh (Uc ?_))))))
 have d:(((s.heap.update c (UD fun _=>#[])).push (UH "tuple" us.toArray 0)).push (UH "list" #[] 0)).get? c=some (UH "list" #[] y):=
  SR _ (SR _ b)
 show Tn (Tr prog w) A _ R E ⟨((s.heap.update c (UD fun _=>#[])).push (UH "tuple" us.toArray 0)).push (UH "list" #[] 0),s.gens,s.drawn,s.toks,s.os⟩
 dsimp only
 have few:us.toArray.size<2:=by simpa using e
 rw [if_pos few,if_pos few]
 refine SG (SU ?_)
 rw [StateT.run_pure]
 refine SG (SU ?_)
 dsimp only
 have a:a3L (fun x=>x.2) (a1Q (Tw general' (us.toArray.zip us.toArray) #[] 7 none))=us.toArray:=by
  show a3L (fun x=>x.2) (us.toArray.zip us.toArray)=us.toArray
  exact Array.ext (by simp) (fun i h j=>by simp)
 refine SG (Z7 d rfl (SG (Za d rfl ?_ (hsz2:=by rw [a,T3];omega))))
 rw [a]
 simp only [bne_self_eq_false,S9,if_false]
 exact SU q
end
theorem wK (lt:Nat->Nat->Bool):bU lt 1=[0]:=List.mergeSort_singleton ..
theorem r8 (lt:Nat->Nat->Bool):bU lt 0=[]:=List.mergeSort_nil
theorem dX (lt:Nat->Nat->Bool)(n:Nat):(bU lt n).Perm (Tz n):=by
 cases n with
 | zero=>rw [r8];exact .nil
 | succ n=>exact L9 lt (Y5 n)
theorem Ma {ns:List Int}{us:List SK}(h:Vals (ns.map V.int) us):Wr us ns:=uX h
end L3
namespace L3
open PySem L2 PySem.W PyProof.Rows
noncomputable def r9:Bool->Keyed->Array Keyed->Nat->Nat->Nat->StateT Vq a0L (Option Nat):=sortPriv% PySem.Builtin.gallop
section
variable {M:a1U}{A:Tv}{E:SK->SM->Prop}{σ:Type}
theorem jG {a:Type}{f:Nat->a->StateT σ a0L (ForInStep a)}{st:σ}{s:SM}{Q:a->σ->SM->Prop}(d:Nat->a->Prop)(j:a->Prop)(n:Nat)
  (step:∀ i x b,i<n->d i b->Xo M A E (f x b) (fun r g u=>g=st/\u=s/\match r with|.done c=>j c|.yield c=>d (i+1) c) st s)(fin:∀ b,d n b->j b)(k:∀ b,j b->Q b st s) :
  ∀ (l:List Nat)(i:Nat)(b:a),i+l.length=n->d i b->Xo M A E (forIn l b f) Q st s
 | [],i,b,h,hI=>kasC_nil (k b (fin b (by simp at h;subst h;exact hI)))
 | x::l,i,b,h,hI=>by
  rw [Ti] at h
  refine kasC_cons (T7 (step i x b (by omega) hI) (fun r u q=>?_) fun _ _ e=>e)
  obtain ⟨r,g⟩:=r
  obtain ⟨m,o,p⟩:=q
  dsimp only at m o
  subst m o
  cases r with
  | done c=>exact k c p
  | yield c=>exact jG d j n step fin k l (i+1) c (by omega) p
end
section
variable {prog:Tj}{w:TH}{A:Tv}{E:SK->SM->Prop}{κ:WZ}{st:Vq}{s:SM}
noncomputable def fA (prog:Tj)(w:TH)(A:Tv)(κ:WZ)(s:SM)(X:Keyed->Prop)(an:Keyed->Keyed->Bool):Prop:=
 ∀ (x y:Keyed)(C:Bool->SM->Prop),X x->X y->C (an x y) s->Tn (Tr prog w) A (a3S κ x.1 y.1) C (fun _ _=>False) s
theorem pM {X:Keyed->Prop}{an:Keyed->Keyed->Bool}(c:fA prog w A κ s X an)(d:kindOf st=κ){x y:Keyed}(e:X x)(g:X y){Q:Option Bool->Vq->SM->Prop}(q:Q (some (an x y)) st s):Xo (Tr prog w) A E (lt' x y) Q st s:=by
 rw [lt'_eq]
 refine S4 (Xn ?_)
 rw [d]
 exact S4 (Yq (a0I (T7 (c x y (fun b a=>b=an x y/\a=s) e g ⟨rfl,rfl⟩) (fun b a z=>by obtain ⟨rfl,rfl⟩:=z;exact Ta q) fun _ _ f=>f.elim)))
theorem Mb {x:Vq}{Q:PUnit->Vq->SM->Prop}(h:Q ⟨⟩ x s):Xo (Tr prog w) A E (set x:StateT Vq a0L PUnit) Q st s:=by
 unfold Xo;rw [StateT.run_set];exact SU h
theorem wL {a:Array Keyed}{i:Nat}{x:Keyed}{Q:Keyed->Vq->SM->Prop}(h:a[i]? = some x)(q:Q x st s):Xo (Tr prog w) A E (elem' a i) Q st s:=by
 rw [elem'_eq,h];exact Ta q
noncomputable def Cj:Array Keyed->Array Keyed->StateT Vq a0L (Array Keyed):=sortPriv% PySem.Builtin.mergeLo
noncomputable def Ck:Array Keyed->Array Keyed->StateT Vq a0L (Array Keyed):=sortPriv% PySem.Builtin.mergeHi
theorem Cm:∀ (l:List Keyed)(b:Array Keyed)(o k:Nat),o+k+l.length<=b.size->((l.zipIdx k).foldl (fun (a:Array Keyed)(x:Keyed×Nat)=>a.setIfInBounds (o+x.2) x.1) b).toList=b.toList.take (o+k)++l++b.toList.drop (o+k+l.length)
 | [],b,o,k,h=>by simp
 | x::l,b,o,k,h=>by
  rw [List.zipIdx_cons,a1V,Cm l _ o (k+1) (by rw [Z5];rw [Ti] at h;omega)]
  rw [Ti] at h
  have c:o+k<b.toList.length:=by simp;omega
  rw [ZM,Ti]
  dsimp only
  rw [show o+(k+1)=o+k+1 by omega,a1v,Uw c,a0O (SX _),List.drop_set_of_lt (by omega)]
  simp [show o+k+1+l.length=o+k+(l.length+1) by omega]
theorem Mc {X:Keyed->Prop}{an:Keyed->Keyed->Bool}(a:fA prog w A κ s X an)(d:a3t st=κ){i j:Nat}{x y:Keyed}(b:(a1Q st)[i]? = some x)(c:(a1Q st)[j]? = some y)(e:X x)(g:X y){Q:Option Bool->Vq->SM->Prop}(q:Q (some (an x y)) st s):Xo (Tr prog w) A E (ltAt' i j) Q st s:=by
 rw [ltAt'_eq]
 refine S4 (Xn ?_)
 refine S4 (wL b (S4 (wL c (pM a d e g q))))
end
section
variable {prog:Tj}{w:TH}{A:Tv}{E:SK->SM->Prop}{s:SM}
theorem Md (us:List SK):(us.toArray.zip us.toArray).toList=us.map fun u=>(u,u):=by
 simp only [Array.toList_zip]
 induction us with
 | nil=>rfl
 | cons u us a=>simpa using a
structure Near (us:List SK)(n K:Nat)(an:SK->SK->Bool):Prop where
 len:us.length=n+1
 le:K<=n
 asc:∀ (i:Nat)(x z:SK),i+1<n->us[i+1]? = some x->us[i]? = some z->an x z=false
 ris:∀ x z,us[0]? = some x->us[n - 1]? = some z->an x z=true
 at_:∀ (i:Nat)(x z:SK),i<n->us[i]? = some x->us[n]? = some z->an z x=decide (K<=i)
noncomputable def Co (prog:Tj)(w:TH)(A:Tv)(us:List SK)(an:SK->SK->Bool)(s:SM):Prop:=
 Tn (Tr prog w) A (keyKind' us.toArray) (fun b a=>a=s/\∀ (x y:SK)(C:Bool->SM->Prop),x∈us->y∈us->C (an x y) s->Tn (Tr prog w) A (a3S b x y) C (fun _ _=>False) s) (fun _ _=>False) s
end
section
variable {X:Cx}{a4b:List (Addr×Vu)}{σ:L2.St}{H:Hp}{s:SM}
theorem Cp (I:L2.Inv X a4b σ H s){a:Addr}{t t':List Int}(h:SqT X.K H a (t.map V.int))(h':SqT X.K H a (t'.map V.int)):t=t':=
 (List.map_inj_right fun x y h=>by cases h;rfl).mp (I.tuple_inj h h')
open Classical in
noncomputable def tv (K:SJ)(H:Hp):SK->List Int
 | .ref a=>if h:∃ t:List Int,SqT K H a (t.map V.int) then h.choose else []
 | _=>[]
theorem Me {ws:List V}{b:List SK}{e:List (List Int)}(d:Vals ws b)(m:TupsV X.K H ws e){i:Nat}{u:SK}(h:b[i]? = some u):∃ a,u=.ref a/\SqT X.K H a ((e.getD i []).map V.int):=by
 have l:i<ws.length:=by
  rw [d.length]
  exact (SN.mp h).1
 obtain ⟨a,g,n⟩:=m.get l
 obtain ⟨v,c,j⟩:=d.get g
 rw [h] at c
 cases c
 cases j
 exact ⟨a,rfl,n⟩
end
end L3
namespace L3
open PySem PySem.Spec
namespace Tb
section
variable {prog:Tj}{w:TH}{A:Tv}{E:SK->SM->Prop}{s:SM}
noncomputable abbrev IsT (prog:Tj)(w:TH)(h:Uj)(k:List Int)(b:Addr):Prop:=IsTupleKey (V1 prog w) h k b
end
section
variable {prog:Tj}{w:TH}{A:Tv}{R:a1o->SM->Prop}{I:Addr}{fp wr:List Addr}{G:Array a1Y->Array a1Y->Prop}{n:Nat}{P:Nat->SK->Prop}{St:Nat->SM->Prop}
end
section
variable {prog:Tj}{w:TH}{A:Tv}{E:SK->SM->Prop}{s:SM}
noncomputable abbrev d9 (a:Bool):Vu:={ cls:=.type "set",dict:=none,data:=.set #[] 0 (.fresh 0 0 a) }
end
end Tb
end L3
namespace L3
open PySem L2
open PyProof.Rows (IntsAre)
noncomputable def wM:List D->Option (List (List Int))
 | []=>some []
 | x::r=>(dC x).bind fun k=>(wM r).map (k::·)
theorem Cq:∀ {ds:List D}{k:List Int},wF ds=some k->ds=k.map D.int
 | [],k,h=>by cases h;rfl
 | d::ds,k,h=>by
  cases d with
  | int i=>
   obtain ⟨c,a,b⟩:=SS.mp h
   subst b
   rw [Cq a];rfl
  | _=>cases h
theorem Cr {x:D}{k:List Int}(h:dC x=some k):x=.tup (k.map D.int):=by
 cases x with
 | tup ds=>rw [Cq h]
 | _=>cases h
theorem Ct:∀ {xs:List D}{ks:List (List Int)},wM xs=some ks->xs=ks.map fun k=>D.tup (k.map D.int)
 | [],ks,h=>by cases h;rfl
 | x::xs,ks,h=>by
  obtain ⟨k,a,h⟩:=SF.mp h
  obtain ⟨d,b,c⟩:=SS.mp h
  subst c
  rw [Cr a,Ct b];rfl
noncomputable def wN (b:Hm):D->Option (List D)
 | .rol xs=>some xs
 | .loc a=>match b[a]? with
  | some (.lst xs)=>some xs
  | _=>none
 | _=>none
section
variable {K:SJ}{π:Nat->Addr}{n:Nat}{H:Hp}{μ:Hm}
theorem Mf {v:V}{x:D}{xs:List D}(R:Rp K π H μ)(h:IsD K π μ.length H v x)(e:wN μ x=some xs):∃ p vs,v=.ref p/\SqL K H p vs/\IsDs K π μ.length H vs xs:=by
 cases h with
 | rol q t=>cases e;exact ⟨_,_,rfl,q.sq,t⟩
 | @loc a g=>
  simp only [wN] at e
  split at e
  ·rename_i i d
   cases e
   obtain ⟨vs,b,c⟩:=R.lst a xs d
   exact ⟨_,vs,rfl,.of b,c⟩
  ·cases e
 | _=>cases e
theorem ints_of':∀ {vs:List V}{k:List Int},IsDs K π n H vs (k.map D.int)->vs=k.map V.int
 | _,[],h=>by cases h;rfl
 | _,i::k,h=>by
  cases h with
  | cons h t=>cases h;rw [ints_of' t];rfl
theorem sA:∀ (k:List Int),IsDs K π n H (k.map V.int) (k.map D.int)
 | []=>.nil
 | i::k=>.cons (.int i) (sA k)
end
theorem Cu {X:Cx}:∀ {k:List Int}{xs:List SK},Vals (k.map V.int) xs->ItemsAre (V1 X.prog X.w) k xs
 | [],_,h=>by cases h;exact .nil
 | i::k,_,h=>by
  cases h with
  | cons h t=>
   obtain ⟨a,rfl⟩:=h
   exact .cons (intKind_is _ _ _ _) (Cu t)
section
variable {X:Cx}{a4b:List (Addr×Vu)}{σ:St}{H:Hp}{s:SM}
theorem kM (I:Inv X a4b σ H s){b:Addr}{k:List Int}(h:SqT X.K H b (k.map V.int)):Tb.IsT X.prog X.w s.heap k b:=by
 obtain ⟨i,g,⟨a,e,c,n,d⟩,_⟩:=I.tuple h
 exact ⟨a,i.toArray,n,e,c,d,by simpa using Cu g⟩
theorem call_lenT:CallR X (.builtin "len") (fun xs H Q=>∃ a L,xs=[V.ref a]/\H a=some (rC a L)/\Q (.int L.length) H):=by
 intro a4b s σ H xs A Q I r h
 obtain ⟨a,L,rfl,e,q⟩:=h
 obtain ⟨u,rfl,y⟩:=fU r
 cases y
 obtain ⟨⟨o,p,x,d,z,t,R,c,hd,g,ok,v,n,l,i,w,j⟩,_,_⟩:=I.hok a _ e
 have b:d.size=L.length:=by
  have:=v.length_eq
  simpa using this
 have m:t.mask<=511:=by rcases l with h|h|h|h<;>omega
 refine call_len_set p c hd (Tb.fits_of ok g) (by rw [b];omega) ?_
 rw [b]
 exact ⟨.int L.length,H,I.tok _,⟨_,rfl⟩,q⟩
end
end L3
namespace L3
open PySem L2
noncomputable def nR (ks:List (List Int)):Nat->Nat->Bool:=fun i j=>HT.lexLt (ks.getD i []) (ks.getD j [])
theorem Cv {K:SJ}{π:Nat->Addr}{n:Nat}{H:Hp}:∀ {vs:List V}{ks:List (List Int)},IsDs K π n H vs (ks.map fun k=>D.tup (k.map D.int))->TupsV K H vs ks
 | _,[],h=>by cases h;exact .nil
 | _,k::ks,h=>by
  cases h with
  | cons h t=>
   cases h with
   | @tup p vs ds a hd=>
    have:=ints_of' hd
    subst this
    exact .cons ⟨p,rfl,a⟩ (Cv t)
theorem Cw {K:SJ}{π:Nat->Addr}{n:Nat}{H:Hp}:∀ {vs:List V}{xs:List D}(i:Nat),IsDs K π n H vs xs->IsD K π n H (vs.getD i .non) (xs.getD i .non)
 | _,_,i,.nil=>by simp;exact .non
 | _,_,0,.cons h _=>h
 | _,_,i+1,.cons _ t=>by simpa using Cw i t
theorem Cy {K:SJ}{π:Nat->Addr}{n:Nat}{H:Hp}{vs:List V}{xs:List D}(h:IsDs K π n H vs xs):∀ (l:List Nat),IsDs K π n H (l.map fun i=>vs.getD i .non) (l.map fun i=>xs.getD i .non)
 | []=>.nil
 | i::l=>.cons (Cw i h) (Cy h l)
end L3
namespace L3
open PySem L2 PySem.W PyProof.Rows
section
variable {prog:Tj}{w:TH}{A:Tv}{E:SK->SM->Prop}{κ:WZ}{st:Vq}{s:SM}
theorem Mg {i j:Nat}{Q:Unit->Vq->SM->Prop}(q:Q () (setArr st (a3R (a1Q st) i j ((j - i) / 2))) s):Xo (Tr prog w) A E (reverseSlice' i j) Q st s:=by
 rw [reverseSlice'_eq];exact V0 q
end
end L3
namespace L3
open PySem L2 PySem.W PyProof.Rows
section
variable {M:a1U}{A:Tv}{E:SK->SM->Prop}{σ:Type}
theorem gT {g:Type}{f:Nat->g->StateT σ a0L (ForInStep g)}{s:SM}{Q:g->σ->SM->Prop}(j:Nat->g->σ->Prop)(l:g->σ->Prop)(a n:Nat)
  (step:∀ i b st,i<n->j i b st->Xo M A E (f (a+i) b) (fun r d p=>p=s/\match r with|.done c=>l c d|.yield c=>j (i+1) c d) st s)(fin:∀ b st,j n b st->l b st)(k:∀ b st,l b st->Q b st s) :
  ∀ (m i:Nat)(b:g)(st:σ),i+m=n->j i b st->Xo M A E (forIn (XD (a+i) m) b f) Q st s
 | 0,i,b,st,h,hI=>kasC_nil (k b st (fin b st (by simp at h;subst h;exact hI)))
 | m+1,i,b,st,h,hI=>by
  rw [Xj]
  refine kasC_cons (T7 (step i b st (by omega) hI) (fun r p q=>?_) fun _ _ e=>e)
  obtain ⟨r,d⟩:=r
  obtain ⟨u,o⟩:=q
  subst u
  cases r with
  | done c=>exact k c _ o
  | yield c=>exact gT j l a n step fin k m (i+1) c d (by omega) o
end
section
variable {prog:Tj}{w:TH}{A:Tv}{E:SK->SM->Prop}{κ:WZ}{st:Vq}{s:SM}
theorem Cz {X:Keyed->Prop}{an:Keyed->Keyed->Bool}(Y:fA prog w A κ s X an)(hk:kindOf st=κ){N:Bool}{G:Keyed}{O:Array Keyed}{b n h:Nat}(hn:h<n)(y:Nat->Keyed)(ha:∀ i,i<n->O[b+i]? = some (y i))(Z:∀ i,i<n->X (y i))(hy:X G)(K:Nat)(hK:K<=n)
  (hB:∀ i,i<n->(if N then an (y i) G else !(an G (y i)))=decide (i<K)){Q:Option Nat->Vq->SM->Prop}(q:Q (some K) st s):Xo (Tr prog w) A E (r9 N G O b n h) Q st s:=by
 have I:∀ {i:Nat}{R:Option Bool->Vq->SM->Prop},i<n->R (some (decide (i<K))) st s->Xo (Tr prog w) A E (do let x <- elem' O (b+i);if N then lt' x G else return (<- lt' G x).map (!·)) R st s:=by
  intro i R v r
  rw [elem'_eq,ha i v]
  refine S4 (Ta ?_)
  have:=hB i v
  cases N with
  | true=>
   simp only [if_true] at this ⊢
   exact pM Y hk (Z i v) hy (by rw [this];exact r)
  | false=>
   simp only [S9,if_false] at this ⊢
   refine S4 (pM Y hk hy (Z i v) (Ta ?_))
   show R (some (!(an G (y i)))) st s
   rw [this]
   exact r
 unfold r9
 refine S4 (I hn ?_)
 by_cases d:h<K
 ·simp only [d,decide_true,if_true]
  refine S4 (U7 (jG (fun i c=>c.1=none/\h+c.2.1<K/\c.2.1<c.2.2/\i+1<=c.2.2) (fun c=>c.1=none/\h+c.2.1<K/\c.2.1<c.2.2/\K<=h+min c.2.2 (n - h)) n (fun i x c v a=>?_) (fun c a=>⟨a.1,a.2.1,a.2.2.1,by omega⟩) (fun c B=>?_) _ 0 _ (by simp) ⟨rfl,d,by decide,SX _⟩))
  ·obtain ⟨z,U,of⟩:=c
   obtain ⟨u,m,o,H⟩:=a
   dsimp only at u m o H ⊢
   by_cases j:of >= n - h
   ·rw [if_pos j]
    exact Ta ⟨rfl,rfl,rfl,m,o,by dsimp only;omega⟩
   ·rw [if_neg j]
    refine S4 (I (i:=h+of) (by omega) ?_)
    by_cases l:h+of<K
    ·simp only [l,decide_true,US,S9,if_false]
     exact Ta ⟨rfl,rfl,rfl,by dsimp only;omega,by dsimp only;omega,by dsimp only;omega⟩
    ·simp only [l,decide_false,U6,if_true]
     exact Ta ⟨rfl,rfl,rfl,m,o,by dsimp only;omega⟩
  ·obtain ⟨z,U,of⟩:=c
   obtain ⟨u,m,o,H⟩:=B
   dsimp only at u m o H ⊢
   subst u
   dsimp only
   refine S4 (U7 (jG (fun i c=>c.1=none/\c.2.1<=K/\K<=c.2.2/\c.2.2<=n/\c.2.2 - c.2.1<=n - i) (fun c=>c.1=none/\c.2.2=K) n (fun i x c v a=>?_) (fun c a=>⟨a.1,by omega⟩) (fun c B=>?_) _ 0 _ (by simp) ⟨rfl,by dsimp only;omega,by dsimp only;omega,by dsimp only;omega,by dsimp only;omega⟩))
   ·obtain ⟨z,e,p⟩:=c
    obtain ⟨d,g,L,M,T⟩:=a
    dsimp only at d g L M T ⊢
    by_cases j:e >= p
    ·rw [if_pos j]
     exact Ta ⟨rfl,rfl,rfl,by dsimp only;omega⟩
    ·rw [if_neg j]
     refine S4 (I (i:=e+(p - e) / 2) (by omega) ?_)
     by_cases l:e+(p - e) / 2<K
     ·simp only [l,decide_true,if_true]
      exact Ta ⟨rfl,rfl,rfl,by dsimp only;omega,L,M,by dsimp only;omega⟩
     ·simp only [l,decide_false,S9,if_false]
      exact Ta ⟨rfl,rfl,rfl,g,by dsimp only;omega,by dsimp only;omega,by dsimp only;omega⟩
   ·obtain ⟨z,e,p⟩:=c
    obtain ⟨d,g⟩:=B
    dsimp only at d g ⊢
    subst d g
    exact Ta q
 ·simp only [d,decide_false,S9,if_false]
  refine S4 (U7 (jG (fun i c=>c.1=none/\K+c.2.1<=h/\c.2.1<c.2.2/\i+1<=c.2.2) (fun c=>c.1=none/\K+c.2.1<=h/\c.2.1<c.2.2/\h+1<=K+min c.2.2 (h+1)) n (fun i x c v a=>?_) (fun c a=>⟨a.1,a.2.1,a.2.2.1,by omega⟩) (fun c B=>?_) _ 0 _ (by simp) ⟨rfl,by dsimp only;omega,by decide,SX _⟩))
  ·obtain ⟨z,U,of⟩:=c
   obtain ⟨u,m,o,H⟩:=a
   dsimp only at u m o H ⊢
   by_cases j:of >= h+1
   ·rw [if_pos j]
    exact Ta ⟨rfl,rfl,rfl,m,o,by dsimp only;omega⟩
   ·rw [if_neg j]
    refine S4 (I (i:=h - of) (by omega) ?_)
    by_cases l:h - of<K
    ·simp only [l,decide_true,if_true]
     exact Ta ⟨rfl,rfl,rfl,m,o,by dsimp only;omega⟩
    ·simp only [l,decide_false,S9,if_false]
     exact Ta ⟨rfl,rfl,rfl,by dsimp only;omega,by dsimp only;omega,by dsimp only;omega⟩
  ·obtain ⟨z,U,of⟩:=c
   obtain ⟨u,m,o,H⟩:=B
   dsimp only at u m o H ⊢
   subst u
   dsimp only
   refine S4 (U7 (jG (fun i c=>c.1=none/\c.2.1<=K/\K<=c.2.2/\c.2.2<=n/\c.2.2 - c.2.1<=n - i) (fun c=>c.1=none/\c.2.2=K) n (fun i x c v a=>?_) (fun c a=>⟨a.1,by omega⟩) (fun c B=>?_) _ 0 _ (by simp) ⟨rfl,by dsimp only;omega,by dsimp only;omega,by dsimp only;omega,by dsimp only;omega⟩))
   ·obtain ⟨z,e,p⟩:=c
    obtain ⟨d,g,L,M,T⟩:=a
    dsimp only at d g L M T ⊢
    by_cases j:e >= p
    ·rw [if_pos j]
     exact Ta ⟨rfl,rfl,rfl,by dsimp only;omega⟩
    ·rw [if_neg j]
     refine S4 (I (i:=e+(p - e) / 2) (by omega) ?_)
     by_cases l:e+(p - e) / 2<K
     ·simp only [l,decide_true,if_true]
      exact Ta ⟨rfl,rfl,rfl,by dsimp only;omega,L,M,by dsimp only;omega⟩
     ·simp only [l,decide_false,S9,if_false]
      exact Ta ⟨rfl,rfl,rfl,g,by dsimp only;omega,by dsimp only;omega,by dsimp only;omega⟩
   ·obtain ⟨z,e,p⟩:=c
    obtain ⟨d,g⟩:=B
    dsimp only at d g ⊢
    subst d g
    exact Ta q
end
section
variable {α:Type}{r:α->Int}{A B O:List α}{ia ib:Nat}
noncomputable def Sr (r:α->Int)(l:List α):Prop:=l.Pairwise fun x y=>r x<=r y
structure J (r:α->Int)(A B O:List α)(ia ib:Nat):Prop where
 sa:Sr r (O++A.drop ia)
 sb:Sr r (O++B.drop ib)
 pm:O.Perm (A.take ia++B.take ib)
theorem J.swap (h:J r A B O ia ib):J r B A O ib ia:=⟨h.sb,h.sa,h.pm.trans VI⟩
theorem J.blockB (h:J r A B O ia ib){k:Nat}(i:∀ x∈(B.drop ib).take k,∀ y∈A.drop ia,r x<=r y):J r A B (O++(B.drop ib).take k) ia (ib+k):=by
 obtain ⟨a,b,g⟩:=h
 have e:O++(B.drop ib).take k++B.drop (ib+k)=O++B.drop ib:=by rw [Tc,<- ZT,TK]
 refine ⟨?_,by rw [e];exact b,?_⟩
 ·unfold Sr at a b ⊢
  rw [Tc,UI]
  rw [UI] at a b
  refine ⟨a.1,?_,fun x d y c=>?_⟩
  ·rw [UI]
   exact ⟨b.2.1.sublist (VS _ _),a.2.1,i⟩
  ·rcases Tf.mp c with c|c
   ·exact b.2.2 x d y (VU c)
   ·exact a.2.2 x d y c
 ·rw [List.take_add]
  exact ((g.append_right _).trans (by rw [Tc]))
theorem J.blockA (h:J r A B O ia ib){k:Nat}(a:∀ x∈(A.drop ia).take k,∀ y∈B.drop ib,r x<=r y):J r A B (O++(A.drop ia).take k) (ia+k) ib:=(h.swap.blockB a).swap
theorem pN {l:List α}{i:Nat}{x:α}(h:l[i]? = some x):l.drop i=x::l.drop (i+1):=by
 obtain ⟨a,rfl⟩:=SN.mp h
 exact UZ a
theorem Sr.head {l:List α}{x:α}(h:Sr r (x::l)):∀ y∈x::l,r x<=r y:=fun y a=>by
 rcases To.mp a with rfl|a
 ·exact Zr _
 ·exact List.rel_of_pairwise_cons h a
theorem J.lowA (h:J r A B O ia ib){x:α}(a:A[ia]? = some x):∀ y∈A.drop ia,r x<=r y:=by
 have:=(UI.mp h.sa).2.1
 rw [pN a] at this ⊢
 exact Sr.head this
theorem J.lowB (h:J r A B O ia ib){x:α}(a:B[ib]? = some x):∀ y∈B.drop ib,r x<=r y:=h.swap.lowA a
theorem J.pushB (h:J r A B O ia ib){x y:α}(d:A[ia]? = some x)(a:B[ib]? = some y)(e:r y<=r x):J r A B (O++[y]) ia (ib+1):=by
 have:=h.blockB (k:=1) (by
  rw [pN a]
  intro z b u c
  rw [YE,Yt,Tq] at b
  subst b
  have:=h.lowA d u c
  omega)
 rwa [pN a,YE,Yt] at this
theorem J.pushA (h:J r A B O ia ib){x y:α}(b:A[ia]? = some x)(c:B[ib]? = some y)(a:r x<=r y):J r A B (O++[x]) (ia+1) ib:=(h.swap.pushB c b a).swap
theorem CA {l:List α}{i k:Nat}{x:α}(h:x∈(l.drop i).take k):∃ j,j<k/\l[i+j]? = some x:=by
 obtain ⟨j,a,e⟩:=U0 h
 rw [Tu] at a
 refine ⟨j,by omega,?_⟩
 rw [<- e,X7,YX,SO]
theorem J.gallA (h:J r A B O ia ib){k:Nat}{y:α}(d:B[ib]? = some y)(b:∀ j x,j<k->A[ia+j]? = some x->r x<=r y):J r A B (O++(A.drop ia).take k) (ia+k) ib:=h.blockA fun x c z hz=>by
 obtain ⟨j,a,e⟩:=CA c
 have g:=b j x a e
 have i:=h.lowB d z hz
 omega
theorem J.gallB (h:J r A B O ia ib){k:Nat}{x:α}(b:A[ia]? = some x)(a:∀ j y,j<k->B[ib+j]? = some y->r y<=r x):J r A B (O++(B.drop ib).take k) ia (ib+k):=(h.swap.gallA b a).swap
noncomputable def Fi (r:α->Int)(A B R:List α):Prop:=R.Perm (A++B)/\Sr r R
theorem J.endB (h:J r A B O ia ib)(a:B.length<=ib):Fi r A B (O++A.drop ia++B.drop ib):=by
 rw [Vl a,Uh]
 refine ⟨?_,h.sa⟩
 have:=h.pm.append_right (A.drop ia)
 refine this.trans ?_
 rw [VE a]
 refine VI.trans ?_
 rw [<- Tc]
 refine (List.Perm.append_right B (VI)).trans ?_
 rw [TK]
theorem J.endA (h:J r A B O ia ib)(a:A.length<=ia):Fi r A B (O++A.drop ia++B.drop ib):=by
 have:=h.swap.endB a
 rw [Vl a,Uh] at this ⊢
 exact ⟨this.1.trans VI,this.2⟩
theorem J.last (h:J r A B O ia ib)(d:A.length=ia+1)(b:∀ x,A[ia]? = some x->∀ y∈B,r y<=r x):Fi r A B (O++B.drop ib++A.drop ia):=by
 have a:A[ia]? = some A[ia]:=SO (by omega)
 have g:=h.gallB (k:=B.length - ib) a fun j y _ c=>b _ a y (Th c)
 have e:(B.drop ib).take (B.length - ib)=B.drop ib:=VE (by rw [T8];exact SX _)
 rw [e] at g
 have:=g.endB (by omega)
 rwa [Vl (l:=B) (i:=ib+(B.length - ib)) (by omega),Uh] at this
end
end L3
namespace L3
open PySem L2 PySem.W PyProof.Rows
section
variable {prog:Tj}{w:TH}{A₀:Tv}{E:SK->SM->Prop}{κ:WZ}{st:Vq}{s:SM}{A B:List Keyed}
theorem CB (A:List Keyed)(i:Nat):(A.toArray.extract i A.toArray.size).toList=A.drop i:=by
 rw [a0C,Z3,UB,SW,VE (by rw [T8];exact SX _)]
theorem pO (A:List Keyed)(i j:Nat):(A.toArray.extract i j).toList=(A.drop i).take (j - i):=by
 rw [a0C,Z3,UB]
theorem wO (A:List Keyed)(i k:Nat):(A.toArray.extract i (i+k)).toList=(A.drop i).take k:=by
 rw [pO,Vy]
theorem c5 {i:Nat}{x:Keyed}{Q:Keyed->Vq->SM->Prop}(h:A[i]? = some x)(q:Q x st s):Xo (Tr prog w) A₀ E (elem' A.toArray i) Q st s:=wL (by rw [Ub];exact h) q
noncomputable def l8 (p:Keyed->Bool)(l:List Keyed):Nat:=(l.takeWhile p).length
theorem CC (p:Keyed->Bool)(l:List Keyed):l8 p l<=l.length:=a3B (List.takeWhile_sublist _)
theorem wQ {p:Keyed->Bool}:∀ {l:List Keyed},l.Pairwise (fun x y=>p y=true->p x=true)->∀ (i:Nat)(x:Keyed),l[i]? = some x->p x=decide (i<l8 p l)
 | [],_,i,x,h=>by cases h
 | a::l,hp,i,x,h=>by
  unfold l8
  rw [Wa] at hp
  cases b:p a with
  | true=>
   rw [a0P,b,if_pos rfl,Ti]
   cases i with
   | zero=>cases h;rw [b];simp
   | succ i=>
    have:=wQ hp.2 i x h
    unfold l8 at this
    rw [this]
    simp
  | false=>
   rw [a0P,b,if_neg TC,UO]
   cases i with
   | zero=>cases h;rw [b];simp
   | succ i=>
    cases c:p x with
    | false=>simp
    | true=>
     have:=hp.1 x (Th h) c
     rw [b] at this
     cases this
variable {X:Keyed->Prop}{r:Keyed->Int}
noncomputable abbrev lr (r:Keyed->Int)(x y:Keyed):Bool:=decide (r x<r y)
theorem Sr.le {l:List Keyed}(h:Sr r l)(b:Int):l.Pairwise (fun x y=>decide (r y<=b)=true->decide (r x<=b)=true):=h.imp fun {x y} h1 a=>by
 rw [decide_eq_true_eq] at a ⊢;omega
theorem Sr.lt {l:List Keyed}(h:Sr r l)(b:Int):l.Pairwise (fun x y=>decide (r y<b)=true->decide (r x<b)=true):=h.imp fun {x y} h1 a=>by
 rw [decide_eq_true_eq] at a ⊢;omega
theorem Sr.part {l:List Keyed}(h:Sr r l)(i k:Nat):Sr r ((l.drop i).take k):=(UU (VS _ _) (UU (W8 _ _) h))
theorem wR (m:fA prog w A₀ κ s X (lr r))(u:kindOf st=κ){a:Keyed}{b n h:Nat}(v:h<n)(z:b+n<=A.length)(p:∀ x∈A,X x)(y:X a)(o:Sr r ((A.drop b).take n))
  {Q:Option Nat->Vq->SM->Prop}(q:∀ K,K<=n->(∀ j x,j<n->A[b+j]? = some x->(r x<=r a↔j<K))->Q (some K) st s):Xo (Tr prog w) A₀ E (r9 false a A.toArray b n h) Q st s:=by
 have e:∀ i,i<n->A[b+i]? = some (A.getD (b+i) (.none,.none)):=fun i c=>by
  rw [Tt,SO (by omega)];rfl
 have hc:=wQ (o.le (r a))
 have l:=CC (fun x=>decide (r x<=r a)) ((A.drop b).take n)
 rw [Tu,T8] at l
 have d:∀ j x,j<n->A[b+j]? = some x->((A.drop b).take n)[j]? = some x:=fun j x g h=>by
  rw [Ux g,Wc];exact h
 refine Cz m u v (fun i=>A.getD (b+i) (.none,.none)) (fun i c=>by rw [Ub];exact e i c) (fun i c=>p _ (Th (e i c))) y _ (by omega) (fun i c=>?_) (q (l8 (fun x=>decide (r x<=r a)) ((A.drop b).take n)) (by omega) fun j x g h=>?_)
 ·have:=hc i _ (d i _ c (e i c))
  rw [if_neg TC,<- this]
  unfold lr
  by_cases h:r a<r (A.getD (b+i) (.none,.none))
  ·rw [decide_eq_true h,decide_eq_false (by omega)];rfl
  ·rw [decide_eq_false h,decide_eq_true (by omega)];rfl
 ·have:=hc j x (d j x g h)
  rw [<- decide_eq_true_eq (p:=r x<=r a),this,decide_eq_true_eq]
theorem wU (m:fA prog w A₀ κ s X (lr r))(u:kindOf st=κ){c:Keyed}{b n h:Nat}(v:h<n)(z:b+n<=A.length)(p:∀ x∈A,X x)(y:X c)(o:Sr r ((A.drop b).take n))
  {Q:Option Nat->Vq->SM->Prop}(q:∀ K,K<=n->(∀ j x,j<n->A[b+j]? = some x->(r x<r c↔j<K))->Q (some K) st s):Xo (Tr prog w) A₀ E (r9 true c A.toArray b n h) Q st s:=by
 have e:∀ i,i<n->A[b+i]? = some (A.getD (b+i) (.none,.none)):=fun i a=>by
  rw [Tt,SO (by omega)];rfl
 have hc:=wQ (o.lt (r c))
 have l:=CC (fun x=>decide (r x<r c)) ((A.drop b).take n)
 rw [Tu,T8] at l
 have d:∀ j x,j<n->A[b+j]? = some x->((A.drop b).take n)[j]? = some x:=fun j x g h=>by
  rw [Ux g,Wc];exact h
 refine Cz m u v (fun i=>A.getD (b+i) (.none,.none)) (fun i a=>by rw [Ub];exact e i a) (fun i a=>p _ (Th (e i a))) y _ (by omega) (fun i a=>?_) (q (l8 (fun x=>decide (r x<r c)) ((A.drop b).take n)) (by omega) fun j x g h=>?_)
 ·have:=hc i _ (d i _ a (e i a))
  rw [if_pos rfl,<- this]
 ·have:=hc j x (d j x g h)
  rw [<- decide_eq_true_eq (p:=r x<r c),this,decide_eq_true_eq]
end
end L3
namespace L3
open PySem L2 PySem.W PyProof.Rows
section
variable {prog:Tj}{w:TH}{A₀:Tv}{E:SK->SM->Prop}{κ:WZ}{s:SM}{A B:List Keyed}{X:Keyed->Prop}{r:Keyed->Int}
theorem bR {σ i:Type}{M:a1U}{d:Tv}{e:SK->SM->Prop}{g:SM}{Q:i->σ->SM->Prop}{st:σ}{c:Prop} [Decidable c] {a b:StateT σ a0L i}(j:¬ c->Xo M d e b Q st g)(h1:c->Xo M d e a Q st g):Xo M d e (if c then a else b) Q st g:=by
 by_cases h:c
 ·rw [if_pos h];exact h1 h
 ·rw [if_neg h];exact j h
theorem jH (out:Array Keyed)(i j:Nat):(out++A.toArray.extract i A.toArray.size++B.toArray.extract j B.toArray.size).toList=out.toList++A.drop i++B.drop j:=by
 rw [VB,VB,CB,CB]
noncomputable def Go (r:Keyed->Int)(A B:List Keyed)(n:Nat)(out:Array Keyed)(ia ib:Nat):Prop:=J r A B out.toList ia ib/\ia+1<A.length/\ib<B.length/\n<=ia+ib
theorem Mh (hC:fA prog w A₀ κ s X (lr r))(hXA:∀ x∈A,X x)(hXB:∀ x∈B,X x)(hA:Sr r A)(hB:Sr r B)(hA0:0<A.length)(hB0:0<B.length)(hf:∀ y,B[0]? = some y->∀ x∈A,r y<=r x)(hl:∀ x,A[A.length - 1]? = some x->∀ y∈B,r y<=r x)
  {T:Array Keyed}{pd:Array (Nat×Nat×Nat)}{mg:Nat}{Q:Array Keyed->Vq->SM->Prop}(q:∀ R l,Fi r A B R.toList->Q R (Tw κ T pd l none) s) :
  Xo (Tr prog w) A₀ E (Cj A.toArray B.toArray) Q (Tw κ T pd mg none) s:=by
 have Y:∀ i,i<A.length->∃ x,A[i]? = some x/\X x:=fun i hi=>⟨A[i],SO hi,hXA _ (Vo hi)⟩
 have p:∀ i,i<B.length->∃ x,B[i]? = some x/\X x:=fun i hi=>⟨B[i],SO hi,hXB _ (Vo hi)⟩
 have last:∀ {O:List Keyed}{ia ib:Nat},J r A B O ia ib->ia+1=A.length->Fi r A B (O++B.drop ib++A.drop ia):=fun {O ia ib} h e=>h.last e.symm fun x g=>hl x (by rw [show A.length - 1=ia by omega];exact g)
 unfold Cj
 refine S4 (Yq (WI ?_))
 obtain ⟨y0,H,_⟩:=p 0 hB0
 refine S4 (c5 H ?_)
 have j0:J r A B [y0] 0 1:=by
  refine ⟨?_,?_,?_⟩
  ·show Sr r (y0::A.drop 0)
   unfold Sr
   rw [V5,Wa]
   exact ⟨fun x g=>hf y0 H x g,hA⟩
  ·show Sr r (y0::B.drop 1)
   rw [<- pN H,V5]
   exact hB
  ·rw [Yt,Ug]
   cases B with
   | nil=>cases H
   | cons b B=>cases H;exact XG _
 dsimp only
 by_cases h1:B.length=1
 ·rw [if_pos (by rw [SW,h1];rfl)]
  refine Ta (q _ _ ?_)
  rw [jH]
  exact j0.endB (by omega)
 rw [if_neg (by rw [SW,beq_iff_eq];omega)]
 by_cases h2:A.length=1
 ·rw [if_pos (by rw [SW,h2];rfl)]
  refine Ta (q _ _ ?_)
  rw [jH]
  exact last j0 (by omega)
 rw [if_neg (by rw [SW,beq_iff_eq];omega)]
 refine S4 (Xn ?_)
 have G:A.toArray.size+B.toArray.size=A.length+B.length:=by rw [SW,SW]
 refine S4 (U7 (gT (fun i c st=>(∃ l,st=Tw κ T pd l none)/\∃ a ia ib m,c=(none,a,ia,ib,m)/\Go r A B (i+1) a ia ib) (fun c st=>(∃ l,st=Tw κ T pd l none)/\∃ R:Array Keyed,c.1=some R/\Fi r A B R.toList) 0 (A.length+B.length) (fun i c st hi hI=>?_) (fun c st hI=>?_) (fun c st L=>?_) (A.toArray.size+B.toArray.size - 0) 0 _ _ (by rw [G];omega) ⟨⟨_,rfl⟩,_,_,_,_,rfl,j0,by omega,by omega,by omega⟩))
 ·obtain ⟨⟨mg1,rfl⟩,a,ia,ib,m,rfl,hG⟩:=hI
  dsimp only
    -- one by one
  refine S4 (U7 (gT (fun j c st=>st=Tw κ T pd mg1 none/\∃ a ia ib u v,c=(none,a,ia,ib,u,v)/\Go r A B (i+1+j) a ia ib) (fun c st=>st=Tw κ T pd mg1 none/\((∃ R:Array Keyed,c.1=some R/\Fi r A B R.toList)\/∃ a ia ib u v,c=(none,a,ia,ib,u,v)/\Go r A B (i+2) a ia ib)) 0 (A.length+B.length) (fun j c st hj hJ=>?_) (fun c st hJ=>?_) (fun c st L=>?_) (A.toArray.size+B.toArray.size - 0) 0 _ _ (by rw [G];omega) ⟨rfl,_,_,_,_,_,rfl,hG⟩))
  ·obtain ⟨rfl,a,ia,ib,u,v,rfl,K,Z,U,g4⟩:=hJ
   dsimp only
   obtain ⟨x,g,Xx⟩:=Y ia (by omega)
   obtain ⟨y,M,Xy⟩:=p ib U
   refine S4 (c5 M (S4 (c5 g (S4 (pM hC rfl Xy Xx ?_)))))
   dsimp only
   by_cases hc:r y<r x
   ·rw [if_pos (by unfold lr;exact decide_eq_true hc)]
    refine S4 (c5 M ?_)
    have o:=K.pushB g M (Xd hc)
    rw [<- U1] at o
    by_cases n:ib+1=B.length
    ·rw [if_pos (by rw [SW,beq_iff_eq];exact n)]
     refine Ta ⟨rfl,rfl,.inl ⟨_,rfl,?_⟩⟩
     rw [jH]
     exact o.endB (by omega)
    ·rw [if_neg (by rw [SW,beq_iff_eq];exact n)]
     split
     ·exact Ta ⟨rfl,rfl,.inr ⟨_,_,_,_,_,rfl,o,Z,by omega,by omega⟩⟩
     ·exact Ta ⟨rfl,rfl,_,_,_,_,_,rfl,o,Z,by omega,by omega⟩
   ·rw [if_neg (by unfold lr;rw [decide_eq_true_eq];exact hc)]
    refine S4 (c5 g ?_)
    have o:=K.pushA g M (by omega)
    rw [<- U1] at o
    by_cases n:ia+1+1=A.length
    ·rw [if_pos (by rw [SW,beq_iff_eq];exact n)]
     refine Ta ⟨rfl,rfl,.inl ⟨_,rfl,?_⟩⟩
     rw [jH]
     exact last o n
    ·rw [if_neg (by rw [SW,beq_iff_eq];exact n)]
     split
     ·exact Ta ⟨rfl,rfl,.inr ⟨_,_,_,_,_,rfl,o,by omega,U,by omega⟩⟩
     ·exact Ta ⟨rfl,rfl,_,_,_,_,_,rfl,o,by omega,U,by omega⟩
  ·obtain ⟨rfl,a,ia,ib,u,v,rfl,K,Z,U,g4⟩:=hJ
   exact ⟨rfl,.inr ⟨_,_,_,_,_,rfl,K,Z,U,by omega⟩⟩
  ·obtain ⟨rfl,L⟩:=L
   obtain ⟨c0,a,ia,ib,u,v⟩:=c
   dsimp only
   rcases L with ⟨R,e,hR⟩|⟨d,N,ib',ac',bc',e,hG⟩
   ·dsimp only at e
    subst e
    exact Ta ⟨rfl,⟨_,rfl⟩,R,rfl,hR⟩
   cases e
   dsimp only
   refine S4 (Yq (WI ?_))
      -- by leaps
   refine S4 (U7 (gT (fun j c st=>(∃ l,st=Tw κ T pd l none)/\∃ a ia ib m u v,c=(none,a,ia,ib,m,u,v)/\Go r A B (i+2) a ia ib) (fun c st=>(∃ l,st=Tw κ T pd l none)/\((∃ R:Array Keyed,c.1=some R/\Fi r A B R.toList)\/∃ a ia ib m u v,c=(none,a,ia,ib,m,u,v)/\Go r A B (i+2) a ia ib)) 0 (A.length+B.length) (fun j c st hj hJ=>?_) (fun c st hJ=>?_) (fun c st L=>?_) (A.toArray.size+B.toArray.size - 0) 0 _ _ (by rw [G];omega) ⟨⟨_,rfl⟩,_,_,_,_,_,_,rfl,hG⟩))
   ·obtain ⟨⟨mg2,rfl⟩,a,ia,ib,m,u,v,rfl,K,Z,U,g4⟩:=hJ
    dsimp only
    obtain ⟨y,M,Xy⟩:=p ib U
    refine bR (fun hm=>?_) fun hm=>?_
    all_goals
     refine S4 (V0 ?_)
     refine S4 (c5 M ?_)
     refine S4 (wR hC rfl (b:=ia) (n:=A.toArray.size - ia) (h:=0) (by rw [SW];omega) (by rw [SW];omega) hXA Xy (hA.part _ _) fun k hk1 hk2=>?_)
     rw [SW] at hk1
     dsimp only
     have o:=K.gallA (k:=k) M fun j x hj g=>(hk2 j x (by rw [SW];omega) g).mpr hj
     have nx:∀ x,A[ia+k]? = some x->r y<r x:=fun x g=>by
      have h1:=(SN.mp g).1
      have:=hk2 k x (by rw [SW];omega) g
      omega
     have g6:k=0->J r A B a.toList (ia+k) ib:=fun e=>by rw [e];exact K
     have e1:(a++A.toArray.extract ia (ia+k)).toList=a.toList++(A.drop ia).take k:=by rw [VB,wO]
     rw [<- e1] at o
     refine bR (fun hk0=>?_) fun hk0=>bR (fun n=>bR (fun he2=>?_) fun he2=>?_) fun n=>?_
     rotate_left 2
     ·rw [SW,beq_iff_eq] at he2
      refine Ta ⟨rfl,⟨_,rfl⟩,.inl ⟨_,rfl,?_⟩⟩
      rw [jH]
      exact o.endA (by omega)
     ·rw [SW,beq_iff_eq] at n
      refine Ta ⟨rfl,⟨_,rfl⟩,.inl ⟨_,rfl,?_⟩⟩
      rw [jH]
      exact last o n
     have t0:ia<=ia:=SX _
     have t1:=K
     have t2:=Z
     have t3:∀ x,A[ia]? = some x->r y<r x:=by rw [show k=0 by omega] at nx;exact nx
     generalize hout:a=d at t1 ⊢
     generalize hia:(ia:Nat)=N at t0 t1 t2 t3 ⊢
     rw [<- hia] at t0
     rotate_left
     rw [SW,beq_iff_eq] at n he2
     have t0:ia<=ia+k:=by omega
     have t1:=o
     have t2:ia+k+1<A.length:=by omega
     have t3:=nx
     generalize a++A.toArray.extract ia (ia+k)=d at t1 ⊢
     generalize ia+k=N at t0 t1 t2 t3 ⊢
     all_goals
      obtain ⟨x,g,Xx⟩:=Y N (by omega)
      have t5:=t1.pushB g M (Xd (t3 x g))
      rw [<- U1] at t5
      refine S4 (c5 M ?_)
      refine bR (fun n=>?_) fun n=>?_
      rotate_left
      ·rw [SW,beq_iff_eq] at n
       refine Ta ⟨rfl,⟨_,rfl⟩,.inl ⟨_,rfl,?_⟩⟩
       rw [jH]
       exact t5.endB (by omega)
      rw [SW,beq_iff_eq] at n
      refine S4 (c5 g ?_)
      refine S4 (wU hC rfl (b:=ib+1) (n:=B.toArray.size - (ib+1)) (h:=0) (by rw [SW];omega) (by rw [SW];omega) hXB Xx (hB.part _ _) fun I hm1 hm2=>?_)
      rw [SW] at hm1
      dsimp only
      have u5:=t5.gallB (k:=I) g fun j z hj hz=>Xd ((hm2 j z (by rw [SW];omega) hz).mpr hj)
      have nz:∀ z,B[ib+1+I]? = some z->r x<=r z:=fun z hz=>by
       have h1:=(SN.mp hz).1
       have:=hm2 I z (by rw [SW];omega) hz
       omega
      have e2:(d.push y++B.toArray.extract (ib+1) (ib+1+I)).toList=(d.push y).toList++(B.drop (ib+1)).take I:=by rw [VB,wO]
      rw [<- e2] at u5
      refine bR (fun hk1'=>?_) fun hk1'=>bR (fun hb=>?_) fun hb=>?_
      rotate_left 2
      ·rw [SW,beq_iff_eq] at hb
       refine Ta ⟨rfl,⟨_,rfl⟩,.inl ⟨_,rfl,?_⟩⟩
       rw [jH]
       exact u5.endB (by omega)
      have v1:=t5
      have v2:ib+1<B.length:=by omega
      have v3:∀ z,B[ib+1]? = some z->r x<=r z:=by rw [show I=0 by omega] at nz;exact nz
      have v4:ib<ib+1:=by omega
      generalize d.push y=ou at v1 ⊢
      generalize ib+1=jb at v1 v2 v3 v4 ⊢
      rotate_left
      rw [SW,beq_iff_eq] at hb
      have v1:=u5
      have v2:ib+1+I<B.length:=by omega
      have v3:=nz
      have v4:ib<ib+1+I:=by omega
      generalize d.push y++B.toArray.extract (ib+1) (ib+1+I)=ou at v1 ⊢
      generalize ib+1+I=jb at v1 v2 v3 v4 ⊢
      all_goals
       obtain ⟨z,hz,Xz⟩:=p jb v2
       have v5:=v1.pushA g hz (v3 z hz)
       rw [<- U1] at v5
       refine S4 (c5 g ?_)
       refine bR (fun hf=>?_) fun hf=>?_
       ·rw [SW,beq_iff_eq] at hf
        exact bR (fun _=>Ta ⟨rfl,⟨_,rfl⟩,_,_,_,_,_,_,rfl,v5,by omega,v2,by omega⟩) fun _=>Ta ⟨rfl,⟨_,rfl⟩,.inr ⟨_,_,_,_,_,_,rfl,v5,by omega,v2,by omega⟩⟩
       ·rw [SW,beq_iff_eq] at hf
        refine Ta ⟨rfl,⟨_,rfl⟩,.inl ⟨_,rfl,?_⟩⟩
        rw [jH]
        exact last v5 hf
   ·obtain ⟨h1,h2⟩:=hJ
    exact ⟨h1,.inr h2⟩
   ·obtain ⟨⟨mg2,rfl⟩,L⟩:=L
    obtain ⟨c0,a,ia,ib,m,u,v⟩:=c
    dsimp only
    rcases L with ⟨R,e,hR⟩|⟨d,N,ib',m',ac',bc',e,hG⟩
    ·dsimp only at e
     subst e
     exact Ta ⟨rfl,⟨_,rfl⟩,R,rfl,hR⟩
    cases e
    dsimp only
    exact S4 (V0 (Ta ⟨rfl,⟨_,rfl⟩,_,_,_,_,rfl,hG⟩))
 ·obtain ⟨_,a,ia,ib,m,rfl,K,Z,U,g4⟩:=hI
  omega
 ·obtain ⟨⟨mg1,rfl⟩,R,e,hR⟩:=L
  obtain ⟨c0,c1⟩:=c
  dsimp only at e ⊢
  subst e
  exact Ta (q R _ hR)
end
end L3
namespace L3
open PySem L2 PySem.W PyProof.Rows
section
variable {r:Keyed->Int}{A B O:List Keyed}{na nb:Nat}
noncomputable def JH (r:Keyed->Int)(A B O:List Keyed)(na nb:Nat):Prop:=na<=A.length/\nb<=B.length/\J (fun x=>-r x) B.reverse A.reverse O (B.length - nb) (A.length - na)
theorem nS {l:List Keyed}{n:Nat}{x:Keyed}(h:l[n - 1]? = some x)(h1:1<=n)(a:n<=l.length):l.reverse[l.length - n]? = some x:=by
 rw [UQ (by omega),<- h]
 congr 1
 omega
theorem JH.pushA (h:JH r A B O na nb){x y:Keyed}(e:A[na - 1]? = some x)(g:B[nb - 1]? = some y)(h1:1<=na)(d:1<=nb)(i:r y<=r x):JH r A B (O++[x]) (na - 1) nb:=by
 obtain ⟨b,a,c⟩:=h
 refine ⟨by omega,a,?_⟩
 have:=c.pushB (nS g d a) (nS e h1 b) (by omega)
 rw [show A.length - (na - 1)=A.length - na+1 by omega]
 exact this
theorem JH.pushB (h:JH r A B O na nb){x y:Keyed}(e:A[na - 1]? = some x)(g:B[nb - 1]? = some y)(h1:1<=na)(d:1<=nb)(i:r x<=r y):JH r A B (O++[y]) na (nb - 1):=by
 obtain ⟨a,b,c⟩:=h
 refine ⟨a,by omega,?_⟩
 have:=c.pushA (nS g d b) (nS e h1 a) (by omega)
 rw [show B.length - (nb - 1)=B.length - nb+1 by omega]
 exact this
theorem CD {l:List Keyed}{n t:Nat}(h1:t<=n)(b:n<=l.length):(l.reverse.drop (l.length - n)).take (n - t)=((l.drop t).take (n - t)).reverse:=by
 apply Vk
 intro i
 have a:((l.drop t).take (n - t)).length=n - t:=by rw [Tu,T8];omega
 by_cases h:i<n - t
 ·rw [Ux h,Wc,UQ (by omega),UQ (by omega),a,Ux (by omega),Wc]
  congr 1
  omega
 ·rw [Ue (by rw [Tu,T8,Uo];omega),Ue (by rw [Uo,a];omega)]
theorem JH.gallA (h:JH r A B O na nb){t:Nat}{y:Keyed}(l:B[nb - 1]? = some y)(e:1<=nb)(i:t<=na)(g:∀ j x,t<=j->j<na->A[j]? = some x->r y<=r x):JH r A B (O++((A.drop t).take (na - t)).reverse) t nb:=by
 obtain ⟨c,b,d⟩:=h
 refine ⟨by omega,b,?_⟩
 have:=d.gallB (k:=na - t) (nS l e b) fun j z n m=>by
  have a:A[A.length - 1 - (A.length - na+j)]? = some z:=by rw [<- m,UQ (by omega)]
  have:=g _ z (by omega) (by omega) a
  omega
 rw [CD i c] at this
 rw [show A.length - t=A.length - na+(na - t) by omega]
 exact this
theorem JH.gallB (h:JH r A B O na nb){t:Nat}{x:Keyed}(i:A[na - 1]? = some x)(h1:1<=na)(g:t<=nb)(e:∀ j y,t<=j->j<nb->B[j]? = some y->r x<=r y):JH r A B (O++((B.drop t).take (nb - t)).reverse) na t:=by
 obtain ⟨b,c,d⟩:=h
 refine ⟨b,by omega,?_⟩
 have:=d.gallA (k:=nb - t) (nS i h1 b) fun j z m l=>by
  have a:B[B.length - 1 - (B.length - nb+j)]? = some z:=by rw [<- l,UQ (by omega)]
  have:=e _ z (by omega) (by omega) a
  omega
 rw [CD g c] at this
 rw [show B.length - t=B.length - nb+(nb - t) by omega]
 exact this
theorem nT {l:List Keyed}{n:Nat}:l.reverse.drop (l.length - n)=(l.take n).reverse:=by
 rw [List.reverse_take]
theorem Fi.rev {R:List Keyed}(h:Fi (fun x=>-r x) B.reverse A.reverse R):Fi r A B R.reverse:=by
 refine ⟨(X6 R).trans (h.1.trans ((List.Perm.append (X6 B) (X6 A)).trans VI)),?_⟩
 unfold Sr
 rw [Xg]
 exact h.2.imp fun {x y} h=>by dsimp only at h;omega
theorem JH.endA (h:JH r A B O na nb)(d:na=0):Fi r A B (A.take na++B.take nb++O.reverse):=by
 obtain ⟨b,c,a⟩:=h
 have:=(a.endB (by rw [Uo];omega)).rev
 rw [nT,nT] at this
 simpa using this
theorem JH.endB (h:JH r A B O na nb)(d:nb=0):Fi r A B (A.take na++B.take nb++O.reverse):=by
 obtain ⟨b,c,a⟩:=h
 have:=(a.endA (by rw [Uo];omega)).rev
 rw [nT,nT] at this
 simpa using this
theorem JH.last (h:JH r A B O na nb)(j:nb=1)(c:∀ y,B[0]? = some y->∀ x∈A,r y<=r x):Fi r A B (B.take nb++A.take na++O.reverse):=by
 obtain ⟨g,i,b⟩:=h
 have:=(b.last (by rw [Uo];omega) fun y e x d=>by
  have a:B[0]? = some y:=by rw [<- e,UQ (by omega)];congr 1;omega
  have:=c y a x (UC.mp d)
  omega).rev
 rw [nT,nT] at this
 simpa using this
variable {prog:Tj}{w:TH}{A₀:Tv}{E:SK->SM->Prop}{κ:WZ}{s:SM}{X:Keyed->Prop}
theorem jI (out:Array Keyed)(i j:Nat):(A.toArray.extract 0 i++B.toArray.extract 0 j++out.reverse).toList=A.take i++B.take j++out.toList.reverse:=by
 rw [VB,VB,pO,pO,a0B,V5,V5,Y6,Y6]
theorem CF (out:Array Keyed)(A:List Keyed)(t n:Nat):(out++(A.toArray.extract t n).reverse).toList=out.toList++((A.drop t).take (n - t)).reverse:=by
 rw [VB,a0B,pO]
noncomputable def pP (r:Keyed->Int)(A B:List Keyed)(n:Nat)(out:Array Keyed)(na nb:Nat):Prop:=JH r A B out.toList na nb/\1<=na/\2<=nb/\n+na+nb<=A.length+B.length
theorem Mi (hC:fA prog w A₀ κ s X (lr r))(hXA:∀ x∈A,X x)(hXB:∀ x∈B,X x)(hA:Sr r A)(hB:Sr r B)(hA0:0<A.length)(hB0:0<B.length)(hf:∀ y,B[0]? = some y->∀ x∈A,r y<=r x)(hl:∀ x,A[A.length - 1]? = some x->∀ y∈B,r y<=r x)
  {U:Array Keyed}{pd:Array (Nat×Nat×Nat)}{mg:Nat}{Q:Array Keyed->Vq->SM->Prop}(q:∀ R d,Fi r A B R.toList->Q R (Tw κ U pd d none) s) :
  Xo (Tr prog w) A₀ E (Ck A.toArray B.toArray) Q (Tw κ U pd mg none) s:=by
 have v:∀ i,i<A.length->∃ x,A[i]? = some x/\X x:=fun i hi=>⟨A[i],SO hi,hXA _ (Vo hi)⟩
 have G:∀ i,i<B.length->∃ x,B[i]? = some x/\X x:=fun i hi=>⟨B[i],SO hi,hXB _ (Vo hi)⟩
 unfold Ck
 refine S4 (Yq (WI ?_))
 obtain ⟨x0,Z,_⟩:=v (A.length - 1) (by omega)
 refine S4 (c5 (by rw [SW];exact Z) ?_)
 have j0:JH r A B [x0] (A.length - 1) B.length:=by
  refine ⟨by omega,SX _,?_⟩
  have e:A.reverse=x0::A.reverse.drop 1:=by
   have:=pN (l:=A.reverse) (i:=0) (x:=x0) (by rw [UQ (by omega)];exact Z)
   rwa [V5] at this
  rw [Xa,show A.length - (A.length - 1)=1 by omega]
  refine ⟨?_,?_,?_⟩
  ·unfold Sr
   rw [V5]
   show (x0::B.reverse).Pairwise _
   rw [Wa]
   refine ⟨fun y H=>?_,?_⟩
   ·have:=hl x0 Z y (UC.mp H)
    dsimp only
    omega
   ·rw [Xg]
    exact hB.imp fun {x y} h=>by dsimp only;omega
  ·show Sr _ (x0::A.reverse.drop 1)
   rw [<- e]
   unfold Sr
   rw [Xg]
   exact hA.imp fun {x y} h=>by dsimp only;omega
  ·rw [Yt,Ug,e]
   exact XG _
 dsimp only
 rw [SW,SW]
 refine bR (fun I=>bR (fun K=>?_) fun K=>?_) fun I=>?_
 rotate_left
 ·rw [beq_iff_eq] at K
  refine Ta (q _ _ ?_)
  rw [jI]
  exact j0.last K hf
 ·rw [beq_iff_eq] at I
  refine Ta (q _ _ ?_)
  rw [jI]
  exact j0.endA I
 rw [beq_iff_eq] at I K
 refine S4 (Xn ?_)
 refine S4 (U7 (gT (fun i c st=>(∃ d,st=Tw κ U pd d none)/\∃ na nb a m,c=(none,na,nb,a,m)/\pP r A B (i+1) a na nb) (fun c st=>(∃ d,st=Tw κ U pd d none)/\∃ R:Array Keyed,c.1=some R/\Fi r A B R.toList) 0 (A.length+B.length) (fun i c st hi hI=>?_) (fun c st hI=>?_) (fun c st M=>?_) (A.length+B.length - 0) 0 _ _ (by omega) ⟨⟨_,rfl⟩,_,_,_,_,rfl,j0,by omega,by omega,by omega⟩))
 ·obtain ⟨⟨mg1,rfl⟩,na,nb,a,m,rfl,hG⟩:=hI
  dsimp only
  refine S4 (U7 (gT (fun j c st=>st=Tw κ U pd mg1 none/\∃ na nb a n o,c=(none,na,nb,a,n,o)/\pP r A B (i+1+j) a na nb) (fun c st=>st=Tw κ U pd mg1 none/\((∃ R:Array Keyed,c.1=some R/\Fi r A B R.toList)\/∃ na nb a n o,c=(none,na,nb,a,n,o)/\pP r A B (i+2) a na nb)) 0 (A.length+B.length) (fun j c st hj Y=>?_) (fun c st Y=>?_) (fun c st M=>?_) (A.length+B.length - 0) 0 _ _ (by omega) ⟨rfl,_,_,_,_,_,rfl,hG⟩))
  ·obtain ⟨rfl,na,nb,a,n,o,rfl,p,g2,g3,g4⟩:=Y
   dsimp only
   have l1:=p.1
   have l2:=p.2.1
   obtain ⟨x,b,Xx⟩:=v (na - 1) (by omega)
   obtain ⟨y,H,Xy⟩:=G (nb - 1) (by omega)
   refine S4 (c5 H (S4 (c5 b (S4 (pM hC rfl Xy Xx ?_)))))
   dsimp only
   refine bR (fun hc=>?_) fun hc=>?_
   ·unfold lr at hc
    rw [decide_eq_true_eq] at hc
    have l:=p.pushB b H (by omega) (by omega) (by omega)
    rw [<- U1] at l
    refine S4 (c5 H ?_)
    refine bR (fun g=>?_) fun g=>?_
    ·rw [beq_iff_eq] at g
     exact bR (fun _=>Ta ⟨rfl,rfl,_,_,_,_,_,rfl,l,by omega,by omega,by omega⟩) fun _=>Ta ⟨rfl,rfl,.inr ⟨_,_,_,_,_,rfl,l,by omega,by omega,by omega⟩⟩
    ·rw [beq_iff_eq] at g
     refine Ta ⟨rfl,rfl,.inl ⟨_,rfl,?_⟩⟩
     rw [jI]
     exact l.last g hf
   ·unfold lr at hc
    rw [decide_eq_true_eq] at hc
    have l:=p.pushA b H (by omega) (by omega) (by omega)
    rw [<- U1] at l
    refine S4 (c5 b ?_)
    refine bR (fun g=>?_) fun g=>?_
    ·rw [beq_iff_eq] at g
     exact bR (fun _=>Ta ⟨rfl,rfl,_,_,_,_,_,rfl,l,by omega,by omega,by omega⟩) fun _=>Ta ⟨rfl,rfl,.inr ⟨_,_,_,_,_,rfl,l,by omega,by omega,by omega⟩⟩
    ·rw [beq_iff_eq] at g
     refine Ta ⟨rfl,rfl,.inl ⟨_,rfl,?_⟩⟩
     rw [jI]
     exact l.endA g
  ·obtain ⟨rfl,na,nb,a,n,o,rfl,p,g2,g3,g4⟩:=Y
   exact ⟨rfl,.inr ⟨_,_,_,_,_,rfl,p,g2,g3,by omega⟩⟩
  ·obtain ⟨rfl,M⟩:=M
   obtain ⟨c0,na,nb,a,n,o⟩:=c
   dsimp only
   rcases M with ⟨R,e,hR⟩|⟨na',nb',out',ac',bc',e,hG⟩
   ·dsimp only at e
    subst e
    exact Ta ⟨rfl,⟨_,rfl⟩,R,rfl,hR⟩
   cases e
   dsimp only
   refine S4 (Yq (WI ?_))
   refine S4 (U7 (gT (fun j c st=>(∃ d,st=Tw κ U pd d none)/\∃ na nb a m n o,c=(none,na,nb,a,m,n,o)/\pP r A B (i+2) a na nb) (fun c st=>(∃ d,st=Tw κ U pd d none)/\((∃ R:Array Keyed,c.1=some R/\Fi r A B R.toList)\/∃ na nb a m n o,c=(none,na,nb,a,m,n,o)/\pP r A B (i+2) a na nb)) 0 (A.length+B.length) (fun j c st hj Y=>?_) (fun c st Y=>?_) (fun c st M=>?_) (A.length+B.length - 0) 0 _ _ (by omega) ⟨⟨_,rfl⟩,_,_,_,_,_,_,rfl,hG⟩))
   ·obtain ⟨⟨mg2,rfl⟩,na,nb,a,m,n,o,rfl,p,g2,g3,g4⟩:=Y
    dsimp only
    have l1:=p.1
    have l2:=p.2.1
    obtain ⟨y,H,Xy⟩:=G (nb - 1) (by omega)
    refine bR (fun hm=>?_) fun hm=>?_
    all_goals
     refine S4 (V0 ?_)
     refine S4 (c5 H ?_)
     refine S4 (wR hC rfl (b:=0) (n:=na) (h:=na - 1) (by omega) (by omega) hXA Xy (hA.part _ _) fun t ht1 ht2=>?_)
     dsimp only
     have l:=p.gallA (t:=t) H (by omega) ht1 fun j x I K b=>by
      have:=ht2 j x K (by rw [VG];exact b)
      omega
     have nx:∀ x,1<=t->A[t - 1]? = some x->r x<=r y:=fun x I b=>(ht2 (t - 1) x (by omega) (by rw [VG];exact b)).mpr (by omega)
     rw [<- CF] at l
     refine bR (fun hk0=>?_) fun hk0=>bR (fun g=>?_) fun g=>?_
     rotate_left 2
     ·rw [beq_iff_eq] at g
      refine Ta ⟨rfl,⟨_,rfl⟩,.inl ⟨_,rfl,?_⟩⟩
      rw [jI]
      exact l.endA g
     have t0:na<=na:=SX _
     have t1:=p
     have t2:=g2
     have t3:∀ x,A[na - 1]? = some x->r x<=r y:=fun x b=>by
      have e:t=na:=by omega
      rw [e] at nx
      exact nx x g2 b
     generalize hout:a=ou at t1 ⊢
     generalize hna:(na:Nat)=n1 at t0 t1 t2 t3 ⊢
     rw [<- hna] at t0
     rotate_left
     rw [beq_iff_eq] at g
     have t0:t<=na:=ht1
     have t1:=l
     have t2:1<=t:=by omega
     have t3:∀ x,A[t - 1]? = some x->r x<=r y:=fun x b=>nx x t2 b
     generalize a++(A.toArray.extract t na).reverse=ou at t1 ⊢
     generalize ht':(t:Nat)=n1 at t0 t1 t2 t3 ⊢
     all_goals
      obtain ⟨x,b,Xx⟩:=v (n1 - 1) (by omega)
      have t5:=t1.pushB b H t2 (by omega) (t3 x b)
      rw [<- U1] at t5
      refine S4 (c5 H ?_)
      refine bR (fun hq=>?_) fun hq=>?_
      rotate_left
      ·rw [beq_iff_eq] at hq
       refine Ta ⟨rfl,⟨_,rfl⟩,.inl ⟨_,rfl,?_⟩⟩
       rw [jI]
       exact t5.last hq hf
      rw [beq_iff_eq] at hq
      refine S4 (c5 b ?_)
      refine S4 (wU hC rfl (b:=0) (n:=nb - 1) (h:=nb - 1 - 1) (by omega) (by omega) hXB Xx (hB.part _ _) fun u eY hu2=>?_)
      dsimp only
      have u5:=t5.gallB (t:=u) b t2 eY fun j z I K L=>by
       have:=hu2 j z K (by rw [VG];exact L)
       omega
      have nz:∀ z,1<=u->B[u - 1]? = some z->r z<=r x:=fun z I L=>Xd ((hu2 (u - 1) z (by omega) (by rw [VG];exact L)).mpr (by omega))
      rw [<- CF] at u5
      refine bR (fun hk1=>?_) fun hk1=>bR (fun N=>bR (fun T=>?_) fun T=>?_) fun N=>?_
      rotate_left 2
      ·rw [beq_iff_eq] at T
       refine Ta ⟨rfl,⟨_,rfl⟩,.inl ⟨_,rfl,?_⟩⟩
       rw [jI]
       exact u5.endB T
      ·rw [beq_iff_eq] at N
       refine Ta ⟨rfl,⟨_,rfl⟩,.inl ⟨_,rfl,?_⟩⟩
       rw [jI]
       exact u5.last N hf
      have v0:nb - 1<nb:=by omega
      have v1:=t5
      have v2:2<=nb - 1:=by omega
      have v3:∀ z,B[nb - 1 - 1]? = some z->r z<=r x:=fun z L=>by
       have e:u=nb - 1:=by omega
       rw [e] at nz
       exact nz z (by omega) L
      generalize ou.push y=oz at v1 ⊢
      generalize nb - 1=n2 at v0 v1 v2 v3 ⊢
      rotate_left
      rw [beq_iff_eq] at N T
      have v0:u<nb:=by omega
      have v1:=u5
      have v2:2<=u:=by omega
      have v3:∀ z,B[u - 1]? = some z->r z<=r x:=fun z L=>nz z (by omega) L
      generalize ou.push y++(B.toArray.extract u (nb - 1)).reverse=oz at v1 ⊢
      generalize hu':(u:Nat)=n2 at v0 v1 v2 v3 ⊢
      all_goals
       have l3:=v1.2.1
       obtain ⟨z,L,Xz⟩:=G (n2 - 1) (by omega)
       have v5:=v1.pushA b L t2 (by omega) (v3 z L)
       rw [<- U1] at v5
       refine S4 (c5 b ?_)
       refine bR (fun hw=>?_) fun hw=>?_
       ·rw [beq_iff_eq] at hw
        exact bR (fun _=>Ta ⟨rfl,⟨_,rfl⟩,_,_,_,_,_,_,rfl,v5,by omega,v2,by omega⟩) fun _=>Ta ⟨rfl,⟨_,rfl⟩,.inr ⟨_,_,_,_,_,_,rfl,v5,by omega,v2,by omega⟩⟩
       ·rw [beq_iff_eq] at hw
        refine Ta ⟨rfl,⟨_,rfl⟩,.inl ⟨_,rfl,?_⟩⟩
        rw [jI]
        exact v5.endA hw
   ·obtain ⟨I,K⟩:=Y
    exact ⟨I,.inr K⟩
   ·obtain ⟨⟨mg2,rfl⟩,M⟩:=M
    obtain ⟨c0,na,nb,a,m,n,o⟩:=c
    dsimp only
    rcases M with ⟨R,e,hR⟩|⟨na',nb',out',m',ac',bc',e,hG⟩
    ·dsimp only at e
     subst e
     exact Ta ⟨rfl,⟨_,rfl⟩,R,rfl,hR⟩
    cases e
    dsimp only
    exact S4 (V0 (Ta ⟨rfl,⟨_,rfl⟩,_,_,_,_,rfl,hG⟩))
 ·obtain ⟨_,na,nb,a,m,rfl,p,g2,g3,g4⟩:=hI
  omega
 ·obtain ⟨⟨mg1,rfl⟩,R,e,hR⟩:=M
  obtain ⟨c0,c1⟩:=c
  dsimp only at e ⊢
  subst e
  exact Ta (q R _ hR)
end
end L3
namespace L3
open PySem L2 PySem.W PyProof.Rows
section
variable {prog:Tj}{w:TH}{A₀:Tv}{E:SK->SM->Prop}{κ:WZ}{s:SM}{X:Keyed->Prop}{r:Keyed->Int}{P S c1 c2:List Keyed}
theorem CG {i:Nat}(h:i<c1.length):(P++c1++c2++S)[P.length+i]? = c1[i]?:=by
 rw [Tc,Tc,Tg (by omega),S7 (by omega)]
 congr 1;omega
theorem CH {i:Nat}(h:i<c2.length):(P++c1++c2++S)[P.length+c1.length+i]? = c2[i]?:=by
 rw [Tc,Tg (by rw [SV];omega),S7 (by rw [SV];omega)]
 congr 1;rw [SV];omega
theorem Mj:((P++c1++c2++S).drop P.length).take c1.length=c1:=by
 rw [Tc,Tc,ZS,ZR]
theorem Ml:((P++c1++c2++S).drop (P.length+c1.length)).take c2.length=c2:=by
 rw [Tc,a1W (by rw [SV]),ZR]
theorem Mm {k:Nat}(a:k<=c1.length):(P++c1++c2++S).toArray.extract (P.length+k) (P.length+c1.length)=(c1.drop k).toArray:=by
 apply Vn.mp
 rw [pO,<- ZT,Tc,Tc,ZS,Zj a,UB,List.take_left' (by rw [T8];omega)]
theorem Mn {k:Nat}(a:k<=c2.length):(P++c1++c2++S).toArray.extract (P.length+c1.length) (P.length+c1.length+k)=(c2.take k).toArray:=by
 apply Vn.mp
 rw [wO,Tc,a1W (by rw [SV]),UB,Zi a]
theorem Mo {k l:Nat}{R:List Keyed}(e:k<=c1.length)(g:l<=c2.length)(d:R.length=c1.length - k+l):(R.zipIdx.foldl (fun (a:Array Keyed)(x:Keyed×Nat)=>a.setIfInBounds (P.length+k+x.2) x.1) (P++c1++c2++S).toArray)=(P++(c1.take k++R++c2.drop l)++S).toArray:=by
 apply Vn.mp
 have:=Cm R (P++c1++c2++S).toArray (P.length+k) 0 (by simp;omega)
 rw [this,UB,UB,Y9,d]
 have b:(P++c1++c2++S).take (P.length+k)=P++c1.take k:=by
  rw [Tc,Tc,List.take_append,VE (by omega),Vy,Zi e]
 have c:(P++c1++c2++S).drop (P.length+k+(c1.length - k+l))=c2.drop l++S:=by
  rw [show P.length+k+(c1.length - k+l)=(P++c1).length+l by rw [SV];omega,Tc,<- ZT,ZS,Zj g]
 rw [b,c]
 simp
theorem Sr.both {U R V:List Keyed}(e:Sr r R)(g:Sr r U)(h:Sr r V)(h1:∀ x∈U,∀ y∈R,r x<=r y)(c:∀ x∈R,∀ y∈V,r x<=r y)(d:∀ x∈U,∀ y∈V,r x<=r y):Sr r (U++R++V):=by
 unfold Sr at *
 rw [Tc,UI]
 refine ⟨g,?_,fun x b y a=>?_⟩
 ·rw [UI]
  exact ⟨e,h,c⟩
 ·rcases Tf.mp a with a|a
  ·exact h1 x b y a
  ·exact d x b y a
theorem Sr.at {l:List Keyed}(h:Sr r l){i j:Nat}{x y:Keyed}(c:i<=j)(d:l[i]? = some x)(g:l[j]? = some y):r x<=r y:=by
 obtain ⟨a,rfl⟩:=SN.mp d
 obtain ⟨b,rfl⟩:=SN.mp g
 by_cases e:i=j
 ·subst e;exact Zr _
 ·exact TN.mp h i j a b (by omega)
theorem nU {l:List Keyed}{k:Nat}{x:Keyed}(h:x∈l.take k):∃ j,j<k/\l[j]? = some x:=by
 have:=CA (l:=l) (i:=0) (k:=k) (x:=x) (by rw [V5];exact h)
 obtain ⟨j,b,a⟩:=this
 exact ⟨j,b,by rw [VG] at a;exact a⟩
theorem nW {l:List Keyed}{k:Nat}{x:Keyed}(h:x∈l.drop k):∃ j,k<=j/\l[j]? = some x:=by
 obtain ⟨j,a,e⟩:=U0 h
 exact ⟨k+j,by omega,by rw [<- e,YX,SO]⟩
theorem Mp (Z:fA prog w A₀ κ s X (lr r))(hX:∀ x∈P++c1++c2++S,X x)(h1:Sr r c1)(v:Sr r c2)(l1:0<c1.length)(l2:0<c2.length){pd:Array (Nat×Nat×Nat)}{mg i w1 w2:Nat}(p1:pd[i]? = some (P.length,c1.length,w1))(p2:pd[i+1]? = some (P.length+c1.length,c2.length,w2))
  {Q:Bool->Vq->SM->Prop}(q:∀ c m,Sr r c->c.Perm (c1++c2)->Q true (Tw κ (P++c++S).toArray ((pd.setIfInBounds i (P.length,c1.length+c2.length,w1)).eraseIdxIfInBounds (i+1)) m none) s) :
  Xo (Tr prog w) A₀ E (a1O i) Q (Tw κ (P++c1++c2++S).toArray pd mg none) s:=by
 unfold a1O
 refine S4 (Xn ?_)
 dsimp only
 simp only [p1,p2]
 refine S4 (Mb ?_)
 have gA:∀ j,j<c1.length->c1[j]? = some (c1.getD j (.none,.none)):=fun j d=>by
  rw [Tt,SO d];rfl
 have gB:∀ j,j<c2.length->c2[j]? = some (c2.getD j (.none,.none)):=fun j d=>by
  rw [Tt,SO d];rfl
 have A:∀ x∈c1,X x:=fun x b=>hX x (by simp [b])
 have B:∀ x∈c2,X x:=fun x b=>hX x (by simp [b])
 have hlen:(P++c1++c2++S).length=P.length+c1.length+c2.length+S.length:=by simp;omega
 have H:=gB 0 l2
 refine S4 (c5 (x:=c2.getD 0 (.none,.none)) (by rw [<- H];exact CH l2) ?_)
 refine S4 (wR Z rfl (b:=P.length) (n:=c1.length) (h:=0) l1 (by omega) hX (B _ (Th H)) (by rw [Mj];exact h1) fun k L hk2=>?_)
 have p:∀ j x,c1[j]? = some x->(r x<=r (c2.getD 0 (.none,.none))↔j<k):=fun j x b=>by
  have d:=(SN.mp b).1
  exact hk2 j x d (by rw [CG d];exact b)
 generalize c2.getD 0 (.none,.none)=y0 at *
 dsimp only
 have e0:(P++c1++c2++S)=P++(c1++c2)++S:=by simp
  -- all as it is
 have same:(∀ x∈c1,∀ y∈c2,r x<=r y)->Q true (Tw κ (P++c1++c2++S).toArray ((pd.setIfInBounds i (P.length,c1.length+c2.length,w1)).eraseIdxIfInBounds (i+1)) mg none) s:=fun h=>by
  rw [e0]
  exact q _ _ (by unfold Sr at *;rw [UI];exact ⟨h1,v,h⟩) (XG _)
 refine bR (fun he=>?_) fun he=>?_
 rotate_left
 ·rw [beq_iff_eq] at he
  refine Ta (same fun x b y g=>?_)
  obtain ⟨j,d⟩:=Ww b
  obtain ⟨o,n⟩:=Ww g
  have U:=(p j x d).mpr (by have:=(SN.mp d).1;omega)
  have Y:=v.at (Um o) H n
  omega
 rw [beq_iff_eq] at he
 have T:=gA (c1.length - 1) (by omega)
 generalize c1.getD (c1.length - 1) (.none,.none)=x1 at *
 refine S4 (c5 (x:=x1) (by rw [show P.length+k+(c1.length - k) - 1=P.length+(c1.length - 1) by omega,CG (by omega)];exact T) ?_)
 refine S4 (wU Z rfl (b:=P.length+c1.length) (n:=c2.length) (h:=c2.length - 1) (by omega) (by omega) hX (A _ (Th T)) (by rw [Ml];exact v) fun l M hl2=>?_)
 have G:∀ j x,c2[j]? = some x->(r x<r x1↔j<l):=fun j x b=>by
  have d:=(SN.mp b).1
  exact hl2 j x d (by rw [CH d];exact b)
 dsimp only
 refine bR (fun hf=>?_) fun hf=>?_
 rotate_left
 ·rw [beq_iff_eq] at hf
  refine Ta (same fun x b y g=>?_)
  obtain ⟨j,d⟩:=Ww b
  obtain ⟨o,n⟩:=Ww g
  have U:=h1.at (by have:=(SN.mp d).1;omega) d T
  have Y:=G o y n
  omega
 rw [beq_iff_eq] at hf
 rw [Mm L,Mn M]
 have hA:Sr r (c1.drop k):=UU (W8 _ _) h1
 have hB:Sr r (c2.take l):=UU (VS _ _) v
 have K:∀ y,(c2.take l)[0]? = some y->∀ x∈c1.drop k,r y<=r x:=fun y g x b=>by
  rw [Ux (by omega),H] at g
  cases g
  obtain ⟨j,d,e⟩:=nW b
  have:=p j x e
  omega
 have N:∀ x,(c1.drop k)[(c1.drop k).length - 1]? = some x->∀ y∈c2.take l,r y<=r x:=fun x b y g=>by
  rw [T8,Wc,show k+(c1.length - k - 1)=c1.length - 1 by omega,T] at b
  cases b
  obtain ⟨j,d,e⟩:=nU g
  have:=G j y e
  omega
 have done:∀ (R:Array Keyed)(m:Nat),Fi r (c1.drop k) (c2.take l) R.toList->Q true (Tw κ (R.toList.zipIdx.foldl (fun (a:Array Keyed)(x:Keyed×Nat)=>a.setIfInBounds (P.length+k+x.2) x.1) (P++c1++c2++S).toArray) ((pd.setIfInBounds i (P.length,c1.length+c2.length,w1)).eraseIdxIfInBounds (i+1)) m none) s:=fun R m I=>by
  obtain ⟨f1,f2⟩:=I
  have hRl:=f1.length_eq
  rw [SV,T8,Tu] at hRl
  rw [Mo L M (by omega)]
  have O:∀ z∈R.toList,z∈c1.drop k\/z∈c2.take l:=fun z hz=>Tf.mp (f1.mem_iff.mp hz)
  refine q _ _ (f2.both (UU (VS _ _) h1) (UU (W8 _ _) v) (fun x b y g=>?_) (fun x b y g=>?_) fun x b y g=>?_) ?_
  ·obtain ⟨j,d,e⟩:=nU b
   rcases O y g with g|g
   ·obtain ⟨o,n,u⟩:=nW g
    exact h1.at (by omega) e u
   ·obtain ⟨o,n,u⟩:=nU g
    have U:=(p j x e).mpr d
    have Y:=v.at (Um o) H u
    omega
  ·obtain ⟨o,n,u⟩:=nW g
   rcases O x b with b|b
   ·obtain ⟨j,d,e⟩:=nW b
    have U:=h1.at (by have:=(SN.mp e).1;omega) e T
    have Y:=G o y u
    omega
   ·obtain ⟨j,d,e⟩:=nU b
    exact v.at (by omega) e u
  ·obtain ⟨j,d,e⟩:=nU b
   obtain ⟨o,n,u⟩:=nW g
   have U:=(p j x e).mpr d
   have Y:=v.at (Um o) H u
   omega
  ·have e1:c1++c2=c1.take k++(c1.drop k++c2.take l)++c2.drop l:=by
    rw [<- Tc,TK,Tc,TK]
   rw [e1]
   exact ((f1.append_left _).append_right _)
 have d1:0<(c1.drop k).length:=by rw [T8];omega
 have d2:0<(c2.take l).length:=by rw [Tu];omega
 refine bR (fun _=>?_) fun _=>?_
 ·exact S4 (Mi Z (fun x b=>A x (XE b)) (fun x b=>B x (VU b)) hA hB d1 d2 K N fun R m I=>S4 (V0 (S4 (Xn (Ta (done R m I))))))
 ·exact S4 (Mh Z (fun x b=>A x (XE b)) (fun x b=>B x (VU b)) hA hB d1 d2 K N fun R m I=>S4 (V0 (S4 (Xn (Ta (done R m I))))))
end
end L3
namespace L3
open PySem L2 PySem.W PyProof.Rows
section
variable {prog:Tj}{w:TH}{A₀:Tv}{E:SK->SM->Prop}{κ:WZ}{s:SM}{X:Keyed->Prop}{r:Keyed->Int}{P T S:List Keyed}{pd:Array (Nat×Nat×Nat)}{mg:Nat}
noncomputable def kr (r:Keyed->Int)(T:List Keyed)(i:Nat):Int:=r (T.getD i (.none,.none))
theorem jJ {i:Nat}{x:Keyed}(h:T[i]? = some x):kr r T i=r x:=by
 unfold kr
 rw [Tt,h]
 rfl
theorem wV {i:Nat}(h:i<T.length):T[i]? = some (T.getD i (.none,.none)):=by
 rw [Tt,SO h];rfl
theorem nX (d:fA prog w A₀ κ s X (lr r))(b:∀ x∈T,X x){i j:Nat}(a:i<T.length)(c:j<T.length){Q:Option Bool->Vq->SM->Prop}(q:Q (some (decide (kr r T i<kr r T j))) (Tw κ (P++T).toArray pd mg none) s) :
  Xo (Tr prog w) A₀ E (ltAt' (P.length+i) (P.length+j)) Q (Tw κ (P++T).toArray pd mg none) s:=by
 have e:∀ i,i<T.length->(a1Q (Tw κ (P++T).toArray pd mg none))[P.length+i]? = some (T.getD i (.none,.none)):=fun i a=>by
  show (P++T).toArray[P.length+i]? = _
  rw [Ub,Tg (by omega),Vy]
  exact wV a
 exact Mc d rfl (e i a) (e j c) (b _ (Th (wV a))) (b _ (Th (wV c))) q
theorem wW {n:Nat}(h:∀ j,j+1<n->kr r T j<=kr r T (j+1)):∀ {i j:Nat},i<=j->j<n->kr r T i<=kr r T j
 | i,0,h1,_=>by rw [Nat.le_zero.mp h1];exact Zr _
 | i,j+1,h1,h2=>by
  by_cases e:i=j+1
  ·rw [e];exact Zr _
  ·have a:=wW h (i:=i) (j:=j) (by omega) (by omega)
   have b:=h j h2
   omega
theorem CI {n:Nat}(d:n<=T.length)(h:∀ j,j+1<n->kr r T j<=kr r T (j+1)):Sr r (T.take n):=by
 refine TN.mpr fun i j a c b=>?_
 rw [Tu] at a c
 have:=wW h (i:=i) (j:=j) (by omega) (by omega)
 rw [jJ (SO (show i<T.length by omega)),jJ (SO (show j<T.length by omega))] at this
 rw [X7,X7]
 exact this
theorem Mq (P U V:List Keyed):a3R (P++U++V).toArray P.length (P.length+U.length) ((P.length+U.length - P.length) / 2)=(P++U.reverse++V).toArray:=by
 apply Vn.mp
 apply Vk
 intro k
 rw [Ul,getElem?_mirror_all (by simp),UB]
 by_cases h:P.length<=k/\k<P.length+U.length
 ·have b:∀ (W:List Keyed)(m:Nat),W.length=U.length->P.length<=m->m<P.length+U.length->(P++W++V)[m]? = W[m - P.length]?:=fun W m d a c=>by
   rw [Tc,Tg a,S7 (by omega)]
  rw [if_pos h,Ub,b U _ rfl (by omega) (by omega),b U.reverse k (by rw [Uo]) h.1 h.2,UQ (by omega)]
  congr 1
  omega
 ·rw [if_neg h,Ub]
  by_cases a:k<P.length
  ·rw [Tc,Tc,S7 a,S7 a]
  ·rw [Tg (by rw [SV];omega),Tg (by rw [SV,Uo];omega)]
   simp
noncomputable def Dis (r:Keyed->Int)(T:List Keyed):Prop:=T.Pairwise fun x y=>r x≠r y
theorem Dis.at (h:Dis r T){i j:Nat}(a:i<T.length)(b:j<T.length)(c:i≠j):kr r T i≠kr r T j:=by
 rw [jJ (SO a),jJ (SO b)]
 have:=TN.mp h
 by_cases l:i<j
 ·exact this i j a b l
 ·exact (this j i b a (by omega)).symm
theorem Mr (z:fA prog w A₀ κ s X (lr r))(A:∀ x∈T,X x)(Z:Dis r T)(hT:0<T.length){Q:Option Nat->Vq->SM->Prop}
  (q:∀ c t,0<c.length->Sr r c->(c++t).Perm T->Q (some c.length) (Tw κ (P++(c++t)).toArray pd mg none) s):Xo (Tr prog w) A₀ E (countRun' P.length T.length) Q (Tw κ (P++T).toArray pd mg none) s:=by
 have l:∀ n,0<n->n<=T.length->(∀ j,j+1<n->kr r T j<=kr r T (j+1))->Q (some n) (Tw κ (P++T).toArray pd mg none) s:=fun n I v h=>by
  have:=q (T.take n) (T.drop n) (by rw [Tu];omega) (CI v h) (by rw [TK])
  rwa [TK,Tu,ZH v] at this
 unfold countRun'
 refine S4 (U7 (jG (fun i c=>c=(none,i+1)/\∀ j,j+1<i+1->kr r T j<=kr r T (j+1)) (fun c=>∃ n,c=(none,n)/\0<n/\n<=T.length/\(∀ j,j+1<n->kr r T j<=kr r T (j+1))/\(n<T.length->kr r T n<kr r T (n - 1))) (T.length - 1) (fun i x c L d=>?_) (fun c d=>?_) (fun c g=>?_) _ 0 _ (by simp) ⟨rfl,fun j o=>by omega⟩))
 ·obtain ⟨rfl,d⟩:=d
  dsimp only
  refine S4 (nX z A (i:=i+1) (j:=i) (by omega) (by omega) ?_)
  dsimp only
  refine bR (fun hc=>?_) fun hc=>?_
  ·rw [decide_eq_true_eq] at hc
   refine Ta ⟨rfl,rfl,rfl,fun j o=>?_⟩
   by_cases e:j=i
   ·subst e;omega
   ·exact d j (by omega)
  ·rw [decide_eq_true_eq] at hc
   exact Ta ⟨rfl,rfl,i+1,rfl,by omega,by omega,d,fun _=>hc⟩
 ·obtain ⟨rfl,d⟩:=d
  exact ⟨_,rfl,by omega,by omega,d,fun h=>by omega⟩
 ·obtain ⟨n,rfl,I,v,d,O⟩:=g
  dsimp only
  refine bR (fun he=>?_) fun he=>?_
  rotate_left
  ·exact Ta (l n I v d)
  rw [beq_iff_eq] at he
  refine bR (fun h1=>?_) fun h1=>?_
  rotate_left
  ·-- it rose
   have G:kr r T 0<kr r T (n - 1):=by
    have a:=wW d (i:=0) (j:=n - 1) (by omega) (by omega)
    have b:=Z.at (i:=0) (j:=n - 1) (by omega) (by omega) (by omega)
    omega
   have R:Xo (Tr prog w) A₀ E (ltAt' P.length (P.length+n - 1)) (fun b st u=>b=some true/\st=Tw κ (P++T).toArray pd mg none/\u=s) (Tw κ (P++T).toArray pd mg none) s:=by
    have:=nX (prog:=prog) (w:=w) (A₀:=A₀) (E:=E) (P:=P) (pd:=pd) (mg:=mg) z A (i:=0) (j:=n - 1) (by omega) (by omega) (Q:=fun b st u=>b=some true/\st=Tw κ (P++T).toArray pd mg none/\u=s) ⟨by rw [decide_eq_true G],rfl,rfl⟩
    rw [show P.length+n - 1=P.length+(n - 1) by omega]
    exact this
   refine S4 (T7 R (fun b u K=>?_) fun _ _ e=>e)
   obtain ⟨b,Y⟩:=b
   obtain ⟨rfl,rfl,rfl⟩:=K
   dsimp only
   rw [if_pos rfl]
   exact Ta (l n I v d)
  have e1:n=1:=by omega
  subst e1
  have N:=O (by omega)
  refine S4 (Yq (WI ?_))
  refine S4 (U7 (jG (fun i c=>c=(none,i+2,0)/\∀ j,j+1<i+2->kr r T (j+1)<kr r T j) (fun c=>∃ n,c=(none,n,0)/\2<=n/\n<=T.length/\∀ j,j+1<n->kr r T (j+1)<kr r T j) (T.length - 2) (fun i x c L d=>?_) (fun c d=>?_) (fun c g=>?_) _ 0 _ (by simp) ⟨rfl,fun j o=>by rw [show j=0 by omega];exact N⟩))
  ·obtain ⟨rfl,d⟩:=d
   dsimp only
   refine S4 (nX z A (i:=i+2) (j:=i+1) (by omega) (by omega) ?_)
   dsimp only
   by_cases hc:kr r T (i+2)<kr r T (i+1)
   ·rw [decide_eq_true hc,if_pos rfl,if_neg (by omega)]
    refine Ta ⟨rfl,rfl,rfl,fun j o=>?_⟩
    by_cases e:j=i+1
    ·subst e;exact hc
    ·exact d j (by omega)
   ·rw [decide_eq_false hc,if_neg TC]
    have K:=Z.at (i:=i+1) (j:=i+2) (by omega) (by omega) (by omega)
    refine S4 (nX z A (i:=i+1) (j:=i+2) (by omega) (by omega) ?_)
    dsimp only
    rw [decide_eq_true (show kr r T (i+1)<kr r T (i+2) by omega),if_pos rfl]
    exact Ta ⟨rfl,rfl,i+2,rfl,by omega,by omega,d⟩
  ·obtain ⟨rfl,d⟩:=d
   exact ⟨T.length,by rw [show T.length - 2+2=T.length by omega],by omega,SX _,fun j o=>d j (by omega)⟩
  ·obtain ⟨n,rfl,h2,v,d⟩:=g
   dsimp only
   rw [if_neg (by omega)]
   refine S4 (Mg ?_)
      -- turned about
   have eT:P++T=P++T.take n++T.drop n:=by rw [Tc,TK]
   have p:(T.take n).length=n:=by rw [Tu];omega
   have em:a3R (P++T).toArray P.length (P.length+n) ((P.length+n - P.length) / 2)=(P++((T.take n).reverse++T.drop n)).toArray:=by
    have:=Mq P (T.take n) (T.drop n)
    rw [p] at this
    rw [eT,this,Tc]
   show Xo _ _ _ _ _ (Tw κ (a3R (P++T).toArray P.length (P.length+n) ((P.length+n - P.length) / 2)) pd mg none) s
   rw [em]
   have hU:((T.take n).reverse++T.drop n).length=T.length:=by simp;omega
   have H:((T.take n).reverse++T.drop n).Perm T:=by
    refine ((X6 _).append_right _).trans ?_
    rw [TK]
   have M:∀ x∈(T.take n).reverse++T.drop n,X x:=fun x hx=>A x (H.mem_iff.mp hx)
   have B:∀ j,j+1<n->kr r ((T.take n).reverse++T.drop n) j<=kr r ((T.take n).reverse++T.drop n) (j+1):=fun j o=>by
    have y:∀ i,i<n->kr r ((T.take n).reverse++T.drop n) i=kr r T (n - 1 - i):=fun i L=>by
     have:((T.take n).reverse++T.drop n)[i]? = T[n - 1 - i]?:=by
      rw [S7 (by rw [Uo,p];exact L),UQ (by omega),p,Ux (by omega)]
     unfold kr
     rw [Tt,Tt,this]
    rw [y j (by omega),y (j+1) o]
    have:=d (n - 1 - (j+1)) (by omega)
    rw [show n - 1 - (j+1)+1=n - 1 - j by omega] at this
    omega
   generalize (T.take n).reverse++T.drop n=U at *
   refine S4 (U7 (jG (fun i c=>c=(none,n+i)/\∀ j,j+1<n+i->kr r U j<=kr r U (j+1)) (fun c=>∃ m,c=(none,m)/\0<m/\m<=T.length/\∀ j,j+1<m->kr r U j<=kr r U (j+1)) (T.length - n) (fun i x c L d=>?_) (fun c d=>?_) (fun c g=>?_) _ 0 _ (by simp) ⟨rfl,B⟩))
   ·obtain ⟨rfl,d⟩:=d
    dsimp only
    have R:Xo (Tr prog w) A₀ E (ltAt' (P.length+(n+i)) (P.length+(n+i) - 1)) (fun b st u=>b=some (decide (kr r U (n+i)<kr r U (n+i - 1)))/\st=Tw κ (P++U).toArray pd mg none/\u=s) (Tw κ (P++U).toArray pd mg none) s:=by
     rw [show P.length+(n+i) - 1=P.length+(n+i - 1) by omega]
     exact nX z M (by omega) (by omega) ⟨rfl,rfl,rfl⟩
    refine S4 (T7 R (fun b u K=>?_) fun _ _ e=>e)
    obtain ⟨b,Y⟩:=b
    obtain ⟨rfl,rfl,rfl⟩:=K
    dsimp only
    refine bR (fun hc=>?_) fun hc=>?_
    ·rw [decide_eq_true_eq] at hc
     refine Ta ⟨rfl,rfl,rfl,fun j o=>?_⟩
     by_cases e:j+1=n+i
     ·rw [show j=n+i - 1 by omega,show n+i - 1+1=n+i by omega];omega
     ·exact d j (by omega)
    ·exact Ta ⟨rfl,rfl,_,rfl,by omega,by omega,d⟩
   ·obtain ⟨rfl,d⟩:=d
    exact ⟨_,rfl,by omega,by omega,d⟩
   ·obtain ⟨m,rfl,I,hm,d⟩:=g
    dsimp only
    have:=q (U.take m) (U.drop m) (by rw [Tu];omega) (CI (by omega) d) (by rw [TK];exact H)
    rw [TK,Tu,ZH (by omega)] at this
    exact Ta this
end
end L3
namespace L3
open PySem L2 PySem.W PyProof.Rows
section
variable {prog:Tj}{w:TH}{A₀:Tv}{E:SK->SM->Prop}{κ:WZ}{s:SM}{X:Keyed->Prop}{r:Keyed->Int}{P:List Keyed}{pd:Array (Nat×Nat×Nat)}{mg:Nat}
theorem Ms (P C V:List Keyed)(x:Keyed){l:Nat}(h:l<=C.length):bubble (P++(C++x::V)).toArray (P.length+C.length) (P.length+C.length - (P.length+l))=(P++(C.take l++x::C.drop l++V)).toArray:=by
 apply Vn.mp
 apply Vk
 intro k
 rw [Ul,getElem?_bubble (by simp) _ (by omega),UB]
 have b:∀ (W:List Keyed)(m:Nat),(P++W)[P.length+m]? = W[m]?:=fun W m=>by
  rw [Tg (by omega),Vy]
 have a:(C.take l).length=l:=by rw [Tu];omega
 by_cases c:k<P.length
 ·rw [if_neg (by omega),if_neg (by omega),Ub,S7 c,S7 c]
 obtain ⟨m,rfl⟩:∃ m,k=P.length+m:=⟨k - P.length,by omega⟩
 rw [b]
 by_cases d:m=l
 ·subst d
  rw [if_pos (by omega),Ub,b,Tg (SX _),Xa,Tc,Tg (by omega),a,Xa]
  rfl
 rw [if_neg (by omega)]
 by_cases g:l<m/\m<=C.length
 ·rw [if_pos (by omega),Ub,show P.length+m - 1=P.length+(m - 1) by omega,b,S7 (by omega),Tc,Tg (by omega),a,TR,show m - l=(m - l - 1)+1 by omega,WW,S7 (by rw [T8];omega),Wc]
  congr 1
  omega
 rw [if_neg (by omega),Ub,b]
 by_cases e:m<l
 ·rw [S7 (by omega),Tc,S7 (by omega),Ux e]
 ·rw [Tg (by omega),Tc,Tg (by omega),a,TR,show m - C.length=(m - C.length - 1)+1 by omega,show m - l=(m - l - 1)+1 by omega,WW,WW,Tg (by rw [T8];omega),T8]
  congr 1
  omega
theorem Mt (hC:fA prog w A₀ κ s X (lr r)){c D t:List Keyed}(hX:∀ x∈c++D++t,X x)(hc:Sr r c)(h0:0<c.length){Q:Bool->Vq->SM->Prop}
  (q:∀ a,Sr r a->a.Perm (c++D)->Q true (Tw κ (P++(a++t)).toArray pd mg none) s):Xo (Tr prog w) A₀ E (binarySort' P.length (c.length+D.length) c.length) Q (Tw κ (P++(c++D++t)).toArray pd mg none) s:=by
 unfold binarySort'
 refine S4 (U7 ?_)
 rw [Nat.max_eq_left h0]
 refine (gT (fun i b st=>b=(none,())/\∃ a d,st=Tw κ (P++(a++(d++t))).toArray pd mg none/\Sr r a/\a.length=c.length+i/\(a++d).Perm (c++D)) (fun b st=>b=(none,())/\∃ a,st=Tw κ (P++(a++t)).toArray pd mg none/\Sr r a/\a.Perm (c++D)) c.length D.length (fun i b st hi M=>?_) (fun b st M=>?_) (fun b st p=>?_) (c.length+D.length - c.length) 0 _ _ (by omega) ⟨rfl,c,D,by rw [Tc],hc,rfl,XG _⟩)
 ·obtain ⟨rfl,a,d,rfl,o,h2,g⟩:=M
  have v:=g.length_eq
  rw [SV,SV] at v
  match d,v,g with
  | [],v,_=>rw [UO] at v;omega
  | x::d,v,g=>
   dsimp only
   have O:∀ z∈a++x::(d++t),X z:=fun z n=>hX z (by
    have:z∈(a++x::d)++t:=by simpa using n
    rcases Tf.mp this with h|h
    ·exact Tf.mpr (.inl (g.mem_iff.mp h))
    ·exact Tf.mpr (.inr h))
   have hk:c.length+i=a.length:=h2.symm
   rw [hk]
   have T:kr r (a++x::(d++t)) a.length=r x:=jJ (by rw [Tg (SX _),Xa];rfl)
   have R:∀ m,m<a.length->kr r (a++x::(d++t)) m=kr r a m:=fun m A=>by
    unfold kr
    rw [Tt,Tt,S7 A]
   have eL:a++(x::d++t)=a++x::(d++t):=rfl
   have mono:∀ {m m':Nat},m<=m'->m'<a.length->kr r a m<=kr r a m':=fun {m m'} h L=>by
    rw [jJ (SO (show m<a.length by omega)),jJ (SO L)]
    exact o.at h (SO _) (SO _)
   refine S4 (U7 (jG (fun j b=>∃ l u,b=(none,l,u)/\l<=u/\u<=a.length/\u - l<=a.length - j/\(∀ m,m<l->kr r a m<=r x)/\∀ m,u<=m->m<a.length->r x<kr r a m) (fun b=>∃ l,b=(none,l,l)/\l<=a.length/\(∀ m,m<l->kr r a m<=r x)/\∀ m,l<=m->m<a.length->r x<kr r a m) a.length (fun j y b hj N=>?_) (fun b N=>?_) (fun b p=>?_) _ 0 _ (by simp) ⟨0,a.length,rfl,by omega,SX _,by omega,fun m A=>by omega,fun m h L=>by omega⟩))
   ·obtain ⟨l,u,rfl,j1,B,j3,G,H⟩:=N
    dsimp only
    refine bR (fun U=>?_) fun U=>?_
    ·refine S4 (nX hC O (i:=a.length) (j:=(l+u) / 2) (by simp) (by simp;omega) ?_)
     rw [T,R _ (by omega)]
     dsimp only
     refine bR (fun hc=>?_) fun hc=>?_
     ·rw [decide_eq_true_eq] at hc
      exact Ta ⟨rfl,rfl,(l+u) / 2+1,u,rfl,by omega,B,by omega,fun m A=>by have:=mono (m:=m) (m':=(l+u) / 2) (by omega) (by omega);omega,H⟩
     ·rw [decide_eq_true_eq] at hc
      exact Ta ⟨rfl,rfl,l,(l+u) / 2,rfl,by omega,by omega,by omega,G,fun m h L=>by have:=mono (m:=(l+u) / 2) (m':=m) h L;omega⟩
    ·have e:u=l:=by omega
     subst e
     exact Ta ⟨rfl,rfl,_,rfl,B,G,H⟩
   ·obtain ⟨l,u,rfl,j1,B,j3,G,H⟩:=N
    have e:u=l:=by omega
    subst e
    exact ⟨_,rfl,B,G,H⟩
   ·obtain ⟨l,rfl,B,G,H⟩:=p
    dsimp only
    have mv:∀ {K:Unit->Vq->SM->Prop},K () (Tw κ (P++((a.take l++x::a.drop l)++(d++t))).toArray pd mg none) s->Xo (Tr prog w) A₀ E (moveDown' (P.length+a.length) (P.length+l)) K (Tw κ (P++(a++x::(d++t))).toArray pd mg none) s:=fun {K} h=>by
     rw [moveDown'_eq]
     refine V0 ?_
     show K () (Tw κ (bubble (P++(a++x::(d++t))).toArray (P.length+a.length) (P.length+a.length - (P.length+l))) pd mg none) s
     rw [Ms P a (d++t) x B]
     exact h
    refine S4 (mv (Ta ⟨rfl,rfl,a.take l++x::a.drop l,d,rfl,?_,?_,?_⟩))
    ·have Y:∀ z∈a.take l,r z<=r x:=fun z n=>by
      obtain ⟨m,A,e⟩:=nU n
      rw [<- jJ (r:=r) e]
      exact G m A
     have Z:∀ z∈a.drop l,r x<=r z:=fun z n=>by
      obtain ⟨m,A,e⟩:=nW n
      rw [<- jJ (r:=r) e]
      exact Xd (H m A (SN.mp e).1)
     have:=Sr.both (r:=r) (U:=a.take l) (R:=[x]) (V:=a.drop l) (by unfold Sr;simp) (UU (VS _ _) o) (UU (W8 _ _) o) (fun y I z n=>by rw [Tq.mp n];exact Y y I) (fun y I z n=>by rw [Tq.mp I];exact Z z n) (fun y I z n=>by have:=Y y I;have:=Z z n;omega)
     simpa using this
    ·simp;omega
    ·refine YS ?_ g
     have:(a.take l++x::a.drop l).Perm (a++[x]):=by
      refine List.perm_middle.trans ?_
      rw [TK]
      exact VI (l₁:=[x])
     have:=this.append_right d
     simpa using this
 ·obtain ⟨rfl,a,d,rfl,o,h2,g⟩:=M
  have v:=g.length_eq
  rw [SV,SV] at v
  have:d=[]:=Vc.mp (by omega)
  subst this
  rw [Uh] at g
  exact ⟨rfl,a,rfl,o,g⟩
 ·obtain ⟨rfl,a,rfl,o,g⟩:=p
  exact Ta (q a o g)
end
end L3
namespace L3
open PySem L2 PySem.W PyProof.Rows
noncomputable abbrev eD:=List Keyed×Nat
noncomputable def a8 (rs:List eD):List Keyed:=(rs.map (·.1)).flatten
noncomputable def pos:Nat->List eD->List (Nat×Nat×Nat)
 | _,[]=>[]
 | p,(c,w)::t=>(p,c.length,w)::pos (p+c.length) t
theorem iL (c:List Keyed)(w:Nat)(t:List eD):a8 ((c,w)::t)=c++a8 t:=rfl
theorem l9 (a b:List eD):a8 (a++b)=a8 a++a8 b:=by unfold a8;simp
theorem mB:∀ (a b:List eD)(p:Nat),pos p (a++b)=pos p a++pos (p+(a8 a).length) b
 | [],b,p=>rfl
 | (c,w)::a,b,p=>by
  show (p,c.length,w)::pos (p+c.length) (a++b)=_
  rw [mB a b,iL,SV,a0i]
  rfl
theorem jK:∀ (a:List eD)(p:Nat),(pos p a).length=a.length
 | [],_=>rfl
 | (c,w)::a,p=>by show (pos (p+c.length) a).length+1=_;rw [jK a];rfl
structure Rn (r:Keyed->Int)(L rest:List Keyed)(rs:List eD):Prop where
 ok:∀ p∈rs,Sr r p.1/\0<p.1.length
 pm:(a8 rs++rest).Perm L
section
variable {prog:Tj}{w:TH}{A₀:Tv}{E:SK->SM->Prop}{κ:WZ}{s:SM}{X:Keyed->Prop}{r:Keyed->Int}{L rest:List Keyed}{mg:Nat}
noncomputable abbrev dY (κ:WZ)(rest:List Keyed)(rs:List eD)(mg:Nat):Vq:=Tw κ (a8 rs++rest).toArray (pos 0 rs).toArray mg none
theorem Mu (A:fA prog w A₀ κ s X (lr r))(B:∀ x∈L,X x){a b:List eD}{c1 c2:List Keyed}{w1 w2:Nat}(h:Rn r L rest (a++(c1,w1)::(c2,w2)::b)){Q:Bool->Vq->SM->Prop}
  (q:∀ c e,Rn r L rest (a++(c,w1)::b)->c.length=c1.length+c2.length->Q true (dY κ rest (a++(c,w1)::b) e) s){i:Nat}(G:i=a.length) :
  Xo (Tr prog w) A₀ E (a1O i) Q (dY κ rest (a++(c1,w1)::(c2,w2)::b) mg) s:=by
 subst G
 obtain ⟨g,o⟩:=h
 have o1:=g (c1,w1) (by simp)
 have u:=g (c2,w2) (by simp)
 have j:a8 (a++(c1,w1)::(c2,w2)::b)++rest=a8 a++c1++c2++(a8 b++rest):=by
  rw [l9,iL,iL];simp
 have y:pos 0 (a++(c1,w1)::(c2,w2)::b)=pos 0 a++((a8 a).length,c1.length,w1)::((a8 a).length+c1.length,c2.length,w2)::pos ((a8 a).length+c1.length+c2.length) b:=by
  rw [mB,VG];rfl
 unfold dY
 rw [j,y]
 refine Mp A (fun x H=>B x (o.mem_iff.mp (by rw [j];exact H))) o1.1 u.1 o1.2 u.2 (w1:=w1) (w2:=w2) ?_ ?_ fun c e z n=>?_
 ·rw [Ub,Tg (by rw [jK];exact SX _),jK,Xa]
  rfl
 ·rw [Ub,Tg (by rw [jK];omega),jK,Vy]
  rfl
 ·have l:=n.length_eq
  rw [SV] at l
  have m:a8 a++c++(a8 b++rest)=a8 (a++(c,w1)::b)++rest:=by
   rw [l9,iL];simp
  have v:((pos 0 a++((a8 a).length,c1.length,w1)::((a8 a).length+c1.length,c2.length,w2)::pos ((a8 a).length+c1.length+c2.length) b).toArray.setIfInBounds a.length ((a8 a).length,c1.length+c2.length,w1)).eraseIdxIfInBounds (a.length+1)=(pos 0 (a++(c,w1)::b)).toArray:=by
   apply Vn.mp
   have d:(pos 0 a).length=a.length:=jK _ _
   rw [Y0,ZM,UB,UB,mB,VG,<- d,Xf _ _ (SX _),Xa,SY,List.eraseIdx_append_of_length_le (by omega),Vy]
   show _=pos 0 a++((a8 a).length,c.length,w1)::pos ((a8 a).length+c.length) b
   rw [l,<- a0i]
   rfl
  rw [m,v]
  refine q c e ⟨fun p d=>?_,?_⟩ l
  ·rcases Tf.mp d with d|d
   ·exact g p (by simp [d])
   ·rcases To.mp d with rfl|d
    ·have:=o1.2
     dsimp only at this
     exact ⟨z,by dsimp only;omega⟩
    ·exact g p (by simp [d])
  ·rw [<- m]
   refine YS ?_ o
   rw [j]
   have:=(n.append_left (a8 a)).append_right (a8 b++rest)
   simpa using this
theorem CJ (v:fA prog w A₀ κ s X (lr r))(y:∀ x∈L,X x){rs:List eD}(h:Rn r L rest rs){i:Nat}(B:i+1<rs.length){Q:Bool->Vq->SM->Prop}
  (q:∀ a d,Rn r L rest a->a.length+1=rs.length->(a8 a).length=(a8 rs).length->Q true (dY κ rest a d) s):Xo (Tr prog w) A₀ E (a1O i) Q (dY κ rest rs mg) s:=by
 have e:rs=rs.take i++(rs[i].1,rs[i].2)::(rs[i+1].1,rs[i+1].2)::rs.drop (i+1+1):=by
  have o:=UZ (l:=rs) (i:=i) (by omega)
  have p:=UZ (l:=rs) (i:=i+1) (by omega)
  have j:=TK i rs
  rw [o,p] at j
  exact j.symm
 obtain ⟨g,c1,l,c2,m,b,n,z⟩:∃ g c1 l c2 m b,rs=g++(c1,l)::(c2,m)::b/\i=g.length:=⟨_,_,_,_,_,_,e,by rw [Tu];omega⟩
 subst n
 refine Mu v y h (fun c d u A=>q _ d u ?_ ?_) z
 ·simp
  omega
 ·rw [l9,l9,iL,iL,iL]
  simp
  omega
theorem CK {b:Type}(f:b->b):∀ (l:List b)(x:b),(l++[x]).modify l.length f=l++[f x]
 | [],x=>rfl
 | a::l,x=>by
  show a::(l++[x]).modify l.length f=_
  rw [CK f l x]
  rfl
theorem Mv (rs:List eD)(c:List Keyed)(w:Nat):(pos 0 rs).toArray.push ((a8 rs).length,c.length,w)=(pos 0 (rs++[(c,w)])).toArray:=by
 rw [mB,VG]
 apply Vn.mp
 rw [U1]
 rfl
theorem Mw (rs:List eD)(c:List Keyed)(w a:Nat):((pos 0 (rs++[(c,w)])).toArray.modify ((pos 0 (rs++[(c,w)])).toArray.size - 1) fun x=>(x.1,x.2.1,a))=(pos 0 (rs++[(c,a)])).toArray:=by
 rw [mB,mB,VG]
 apply Vn.mp
 have:=CK (fun x:Nat×Nat×Nat=>(x.1,x.2.1,a)) (pos 0 rs) ((a8 rs).length,c.length,w)
 simp [pos]
 exact this
theorem Mx (rs:List eD)(c:List Keyed)(w:Nat):(pos 0 (rs++[(c,w)])).toArray.back? = some ((a8 rs).length,c.length,w):=by
 rw [mB,VG]
 simp [pos]
theorem My (hC:fA prog w A₀ κ s X (lr r))(hX:∀ x∈L,X x)(hD:Dis r L)(h2:2<=L.length){Q:Unit->Vq->SM->Prop}
  (q:∀ (R:List Keyed)(pd:Array (Nat×Nat×Nat))(l:Nat),Sr r R->R.Perm L->Q () (Tw κ R.toArray pd l none) s):Xo (Tr prog w) A₀ E sortRuns' Q (Tw κ L.toArray #[] mg none) s:=by
 have hsz:(a1Q (Tw κ L.toArray #[] mg none)).size=L.length:=SW
 rw [sortRuns'_eq]
 refine S4 (Xn ?_)
 dsimp only
 simp only [hsz]
 generalize minRun' L.length L.length 0=mr
 refine S4 (U7 (gT (fun i b st=>∃ g rest l,b=(none,(a8 g).length)/\st=dY κ rest g l/\Rn r L rest g/\i<=(a8 g).length) (fun b st=>∃ g l n,b=(none,n)/\st=dY κ [] g l/\Rn r L [] g) 0 L.length (fun i b st hi hI=>?_) (fun b st hI=>?_) (fun b st M=>?_) (L.length - 0) 0 _ _ (by omega) ⟨[],L,mg,rfl,rfl,⟨fun p y=>(by cases y),XG _⟩,Um _⟩))
 ·obtain ⟨g,rest,z,rfl,rfl,u,hle⟩:=hI
  have A:=u.pm.length_eq
  rw [SV] at A
  dsimp only
  refine bR (fun hlo=>?_) fun hlo=>?_
  rotate_left
  ·have:rest=[]:=Vc.mp (by omega)
   subst this
   exact Ta ⟨rfl,g,z,_,rfl,rfl,u⟩
  have hXr:∀ x∈rest,X x:=fun x hx=>hX x (u.pm.mem_iff.mp (Tf.mpr (.inr hx)))
  have hDr:Dis r rest:=by
   have:Dis r (a8 g++rest):=hD.perm u.pm.symm fun h=>h.symm
   exact (UI.mp this).2.1
  rw [show L.length - (a8 g).length=rest.length by omega]
  refine S4 (Mr hC hXr hDr (by omega) fun c t T h2 h3=>?_)
  dsimp only
  have hct:=h3.length_eq
  rw [SV] at hct
  refine bR (fun hmr=>?_) fun hmr=>?_
  rotate_left
  refine S4 (Yq (WI ?_))
  have ht:t=t.take (min rest.length mr - c.length)++t.drop (min rest.length mr - c.length):=(TK _ _).symm
  have hD1:(t.take (min rest.length mr - c.length)).length=min rest.length mr - c.length:=by rw [Tu];omega
  generalize t.take (min rest.length mr - c.length)=D at ht hD1
  generalize t.drop (min rest.length mr - c.length)=t' at ht
  subst ht
  rw [<- Tc c D t',show min rest.length mr=c.length+D.length by omega]
  refine S4 (Mt hC (fun x hx=>hXr x (h3.mem_iff.mp (by rw [<- Tc];exact hx))) h2 T fun c' B I=>?_)
  have hc':=I.length_eq
  rw [SV] at hc'
  rw [<- hc',if_neg (by decide)]
  have k1:0<c'.length:=by omega
  have k2:=B
  have k3:(c'++t').Perm rest:=(I.append_right t').trans (by rw [Tc];exact h3)
  clear hc' I B h3 hct
  revert k1 k2 k3
  revert t'
  revert c'
  intro v K k1 k2 k3
  rotate_left
  have k1:=T
  have k2:=h2
  have k3:=h3
  clear T h2 h3 hct hmr
  revert k1 k2 k3
  revert t
  revert c
  intro v K k1 k2 k3
  all_goals
   have hcc:=k3.length_eq
   rw [SV] at hcc
   refine S4 (Xn ?_)
   have fin:∀ (d:List eD)(l:Nat),Rn r L (v++K) d->(a8 d).length=(a8 g).length->∃ H O mg'',((none,(a8 g).length+v.length):Option Unit×Nat)=(none,(a8 H).length)/\Tw κ (a8 d++(v++K)).toArray ((pos 0 d).toArray.push ((a8 g).length,v.length,0)) l none=dY κ O H mg''/\Rn r L O H/\i+1<=(a8 H).length:=fun d l B I=>by
    have e1:a8 (d++[(v,0)])=a8 d++v:=by rw [l9,iL];show _++(v++[])=_;rw [Uh]
    refine ⟨d++[(v,0)],K,l,?_,?_,⟨fun p y=>?_,?_⟩,?_⟩
    ·rw [e1,SV,I]
    ·unfold dY
     rw [<- Mv,e1,I,Tc]
    ·rcases Tf.mp y with y|y
     ·exact B.ok p y
     ·rw [Tq.mp y]
      exact ⟨k2,k1⟩
    ·rw [e1,Tc]
     exact B.pm
    ·rw [e1,SV]
     omega
   have hR':Rn r L (v++K) g:=⟨u.ok,(k3.append_left _).trans u.pm⟩
   rcases Yo g with N|⟨Y,⟨cl,wl⟩,N⟩
   ·have U:(ZY (Tw κ (a8 g++(v++K)).toArray (pos 0 g).toArray z none)).back? = none:=by rw [N];rfl
    simp only [U]
    exact S4 (V0 (Ta ⟨rfl,fin g z hR' rfl⟩))
   ·rw [Yp] at N
    have U:(ZY (Tw κ (a8 g++(v++K)).toArray (pos 0 g).toArray z none)).back? = some ((a8 Y).length,cl.length,wl):=by rw [N];exact Mx Y cl wl
    simp only [U]
    generalize power' L.length (2 * (a8 Y).length+cl.length) (2 * (a8 Y).length+cl.length+cl.length+v.length) L.length=pw
    refine S4 (U7 (gT (fun j b st=>b=(none,())/\∃ d l,st=dY κ (v++K) d l/\Rn r L (v++K) d/\d≠[]/\(a8 d).length=(a8 g).length) (fun b st=>b=(none,())/\∃ d l,st=dY κ (v++K) d l/\Rn r L (v++K) d/\d≠[]/\(a8 d).length=(a8 g).length) 0 L.length (fun j b st hj hJ=>?_) (fun b st hJ=>hJ) (fun b st M=>?_) (L.length - 0) 0 _ _ (by omega) ⟨rfl,g,z,rfl,hR',by rw [N];simp,rfl⟩))
    ·obtain ⟨rfl,d,m,rfl,B,I,g3⟩:=hJ
     refine S4 (Xn ?_)
     have hps:(ZY (dY κ (v++K) d m)).size=d.length:=by
      show (pos 0 d).toArray.size=_
      rw [SW,jK]
     rw [hps]
     have hn0:0<d.length:=a0T.mpr I
     by_cases T:d.length>1
     ·rw [if_pos T]
      obtain ⟨⟨o1,o2,o3⟩,ho⟩:∃ o,(ZY (dY κ (v++K) d m))[d.length - 2]? = some o:=by
       show ∃ o,(pos 0 d).toArray[d.length - 2]? = some o
       rw [Ub]
       exact ⟨_,SO (by rw [jK];omega)⟩
      rw [ho]
      dsimp only
      refine bR (fun y=>?_) fun y=>?_
      ·refine S4 (CJ hC hX B (by omega) fun rs2 mg3 a1 a2 a3=>?_)
       rw [if_neg (by decide)]
       exact Ta ⟨rfl,rfl,rs2,mg3,rfl,a1,fun e=>by rw [e] at a2;simp at a2;omega,by omega⟩
      ·exact Ta ⟨rfl,rfl,d,m,rfl,B,I,g3⟩
     ·rw [if_neg T]
      exact Ta ⟨rfl,rfl,d,m,rfl,B,I,g3⟩
    ·obtain ⟨rfl,d,m,rfl,B,I,g3⟩:=M
     dsimp only
     refine S4 (V0 ?_)
     rcases Yo d with G|⟨Z,⟨cm,wm⟩,G⟩
     ·exact absurd G I
     rw [Yp] at G
     subst G
     have f1:a8 (Z++[(cm,wm)])=a8 (Z++[(cm,pw)]):=by rw [l9,l9];rfl
     refine S4 (V0 (Ta ⟨rfl,?_⟩))
     have:=fin (Z++[(cm,pw)]) m ⟨fun p y=>?_,by rw [<- f1];exact B.pm⟩ (by rw [<- f1];exact g3)
     ·rw [<- Mw Z cm wm pw,<- f1] at this
      exact this
     ·rcases Tf.mp y with y|y
      ·exact B.ok p (by simp [y])
      ·rw [Tq.mp y]
       exact B.ok (cm,wm) (by simp)
 ·obtain ⟨g,rest,z,rfl,rfl,u,hle⟩:=hI
  have A:=u.pm.length_eq
  rw [SV] at A
  have:rest=[]:=Vc.mp (by omega)
  subst this
  exact ⟨g,z,_,rfl,rfl,u⟩
 ·obtain ⟨g,z,n,rfl,rfl,u⟩:=M
  dsimp only
  have hfl:g.length<=(a8 g).length:=by
   have:∀ g:List eD,(∀ p∈g,0<p.1.length)->g.length<=(a8 g).length:=by
    intro g
    induction g with
    | nil=>intro _;exact SX _
    | cons p g ih=>
     intro h
     obtain ⟨c,w⟩:=p
     have a:=ih fun p y=>h p (by simp [y])
     have b:=h (c,w) (by simp)
     dsimp only at b
     rw [iL,SV,Ti]
     omega
   exact this g fun p y=>(u.ok p y).2
  have A:=u.pm.length_eq
  rw [SV,UO] at A
  refine S4 (U7 (gT (fun i b st=>b=(none,())/\∃ g l,st=dY κ [] g l/\Rn r L [] g/\g.length+i<=L.length) (fun b st=>b=(none,())/\∃ g l,st=dY κ [] g l/\Rn r L [] g/\g.length<=1) 0 L.length (fun i b st hi hI=>?_) (fun b st hI=>?_) (fun b st M=>?_) (L.length - 0) 0 _ _ (by omega) ⟨rfl,g,z,rfl,u,by omega⟩))
  ·obtain ⟨rfl,g,m,rfl,u,U⟩:=hI
   refine S4 (Xn ?_)
   have hps:(ZY (dY κ [] g m)).size=g.length:=by
    show (pos 0 g).toArray.size=_
    rw [SW,jK]
   rw [hps]
   refine bR (fun T=>?_) fun T=>?_
   ·refine S4 (CJ hC hX u ?_ fun d l B I g3=>?_)
    ·split<;>(try split)<;>omega
    ·rw [if_neg (by decide)]
     exact Ta ⟨rfl,rfl,d,l,rfl,B,by omega⟩
   ·exact Ta ⟨rfl,rfl,g,m,rfl,u,T⟩
  ·obtain ⟨rfl,g,m,rfl,u,U⟩:=hI
   exact ⟨rfl,g,m,rfl,u,by omega⟩
  ·obtain ⟨rfl,g,m,rfl,u,U⟩:=M
   dsimp only
   have hpm:=u.pm
   rw [Uh] at hpm
   refine Ta ?_
   have:=q (a8 g++[]) (pos 0 g).toArray m ?_ (by rw [Uh];exact hpm)
   ·exact this
   ·rw [Uh]
    match g,U,u with
    | [],_,_=>exact Ym
    | [(c,w)],_,u=>
     have:=(u.ok (c,w) (by simp)).1
     rw [iL]
     show Sr r (c++[])
     rw [Uh]
     exact this
    | _::_::_,U,_=>simp at U
end
end L3
namespace L3
open PySem L2 PySem.W PyProof.Rows
section
variable {prog:Tj}{w:TH}{A:Tv}{E:SK->SM->Prop}{s:SM}
theorem MB {c:Addr}{us:List SK}{z:Nat}{rk:SK->Int}(N:us.Pairwise fun x y=>rk x≠rk y)(h1:2<=us.length)(h2:us.length<=S8){R:a3l->SM->Prop}(g:s.heap.get? c=some (UH "list" us.toArray z))
  (H:∀ m:Uj,(∀ b o,b≠c->s.heap.get? b=some o->m.get? b=some o)->Co prog w A us (fun x y=>decide (rk x<rk y)) { s with heap:=m })
  (q:∀ a:List SK,a.Perm us->a.Pairwise (fun x y=>rk x<=rk y)->R (.done (.ret .none)) { s with heap:=Yx s.heap c us a.toArray }) :
  Tn (Tr prog w) A (Builtin.«list.sort» ⟨[.ref c],[]⟩) R E s:=by
 rw [a3j]
 have lt:c<s.heap.objs.size:=S6 g
 refine SG (listItems_at g rfl (SG (Za g rfl ?_ (by rw [SW];omega) (Um _))))
 obtain ⟨y,O⟩:∃ y,(s.heap.update c (UD fun _=>#[])).get? c=some (UH "list" #[] y):=⟨_,a3k g _⟩
 refine SG (Z7 O rfl (SG (a0o (SG (Yh (Uc ?_) (Um _))) (by show us.length<=_;omega))))
 have Q:(((s.heap.update c (UD fun _=>#[])).push (UH "tuple" us.toArray 0)).push (UH "list" #[] 0)).get? c=some (UH "list" #[] y):=
  SR _ (SR _ O)
 have n:=H (((s.heap.update c (UD fun _=>#[])).push (UH "tuple" us.toArray 0)).push (UH "list" #[] 0)) fun b o Z e=>SR _ (SR _ ((UX _ _ (UM Z)).trans e))
 show Tn (Tr prog w) A _ R E ⟨((s.heap.update c (UD fun _=>#[])).push (UH "tuple" us.toArray 0)).push (UH "list" #[] 0),s.gens,s.drawn,s.toks,s.os⟩
 dsimp only
 have i:¬ us.toArray.size<2:=by rw [SW];omega
 rw [if_neg i,if_neg i]
 refine SG (T7 n (fun κ M G=>?_) fun _ _ x=>x.elim)
 obtain ⟨rfl,G⟩:=G
 have Y:us.toArray.zip us.toArray=(us.map fun u=>(u,u)).toArray:=by
  apply Vn.mp
  rw [Md,UB]
 have run:=My (prog:=prog) (w:=w) (A₀:=A) (E:=E) (κ:=κ) (X:=fun p=>∃ u∈us,p=(u,u)) (r:=fun p=>rk p.1)
  (s:={ s with heap:=((s.heap.update c (UD fun _=>#[])).push (UH "tuple" us.toArray 0)).push (UH "list" #[] 0) }) (L:=us.map fun u=>(u,u)) (mg:=7)
  (fun x y C l L hc=>by
   obtain ⟨u,K,rfl⟩:=l
   obtain ⟨v,hv,rfl⟩:=L
   exact G u v C K hv hc) (fun x l=>by
   obtain ⟨u,K,rfl⟩:=Ts.mp l
   exact ⟨u,K,rfl⟩) (by unfold Dis;rw [TZ];exact N) (by rw [SQ];exact h1)
  (Q:=fun _ j M=>M = { s with heap:=((s.heap.update c (UD fun _=>#[])).push (UH "tuple" us.toArray 0)).push (UH "list" #[] 0) }/\failedOf j=none/\∃ a:List SK,(a1Q j).map (·.2)=a.toArray/\a.Perm us/\a.Pairwise (fun x y=>rk x<=rk y)) (fun T pd mg' m B=>⟨rfl,rfl,T.map (·.2),by
   show T.toArray.map (·.2)=_
   rw [List.map_toArray],by
   have:=B.map (·.2)
   rw [TM] at this
   exact this.trans (by rw [show ((fun p:Keyed=>p.2) ∘ fun u:SK=>(u,u))=id from rfl,a2Y]),by
   rw [TZ]
   refine VH (R:=fun x y:Keyed=>rk x.1<=rk y.1) (fun {x y} l L h=>?_) m
   obtain ⟨u,_,rfl⟩:=Ts.mp (B.mem_iff.mp l)
   obtain ⟨v,_,rfl⟩:=Ts.mp (B.mem_iff.mp L)
   exact h⟩)
 rw [Y]
 refine SG (T7 run (fun r M hr=>?_) fun _ _ e=>e)
 obtain ⟨⟨⟩,j⟩:=r
 obtain ⟨rfl,U,a,d,X,I⟩:=hr
 dsimp only at U d ⊢
 rw [d]
 have hol:=X.length_eq
 refine SG (Z7 Q rfl (SG (Za Q rfl ?_ (hsz2:=by rw [SW];omega))))
 rw [U]
 simp only [bne_self_eq_false,S9,if_false]
 exact SU (q a X I)
end
section
variable {α:Type}{lt:α->α->Bool}
structure Ord1 (lt:α->α->Bool):Prop where
 ir:∀ x,lt x x=false
 tr:∀ x y z,lt x y=true->lt y z=true->lt x z=true
 to:∀ x y,lt x y=false->lt y x=false->x=y
noncomputable def iM (lt:α->α->Bool)(l:List α)(x:α):Int:=(l.countP fun y=>lt y x:Nat)
theorem CL (h:Ord1 lt){l:List α}{x y:α}(b:x∈l):lt x y=true->iM lt l x<iM lt l y:=fun e=>by
 unfold iM
 have:∀ l:List α,l.countP (fun z=>lt z x)<=l.countP (fun z=>lt z y):=fun l=>List.countP_mono_left fun z _ d=>h.tr z x y d e
 have i:l.countP (fun z=>lt z x)<l.countP (fun z=>lt z y):=by
  induction l with
  | nil=>cases b
  | cons a l g=>
   rw [a1J,a1J]
   rcases To.mp b with rfl|b
   ·rw [h.ir,e,if_neg TC,if_pos rfl]
    have:=this l
    omega
   ·have:=g b
    by_cases c:lt a x=true
    ·rw [if_pos c,if_pos (h.tr _ _ _ c e)];omega
    ·rw [if_neg c];split<;>omega
 omega
theorem sC (h:Ord1 lt){l:List α}{x y:α}(b:x∈l)(c:y∈l):lt x y=decide (iM lt l x<iM lt l y):=by
 cases e:lt x y with
 | true=>rw [decide_eq_true (CL h b e)]
 | false=>
  symm
  rw [decide_eq_false_iff_not]
  cases a:lt y x with
  | true=>have:=CL h c a;omega
  | false=>rw [h.to x y e a];omega
theorem CM (h:Ord1 lt){l:List α}{x y:α}(c:x∈l)(d:y∈l)(g:x≠y):iM lt l x≠iM lt l y:=fun e=>by
 have a:=sC h c d
 have b:=sC h d c
 rw [e,decide_eq_false (by omega)] at a
 rw [e,decide_eq_false (by omega)] at b
 exact g (h.to x y a b)
end
end L3
namespace L3
open PySem L2 PySem.W PyProof.Rows
end L3
namespace L3
open PySem L2
open PyProof.Rows (IntsAre Fr News seqObj)
theorem kN:∀ a:List Int,HT.lexLt a a=false
 | []=>rfl
 | x::a=>by rw [HT.lexLt_cons,if_pos rfl];exact kN a
theorem CN:∀ {a b:List Int},a≠b->HT.lexLt a b = !HT.lexLt b a
 | [],[],h=>absurd rfl h
 | [],_::_,_=>rfl
 | _::_,[],_=>rfl
 | x::a,y::b,h=>by
  rw [HT.lexLt_cons,HT.lexLt_cons]
  by_cases e:x=y
  ·subst e
   rw [if_pos rfl,if_pos rfl]
   exact CN fun z=>h (by rw [z])
  ·rw [if_neg e,if_neg (UM e)]
   rcases Int.lt_or_gt_of_ne e with z|z
   ·rw [decide_eq_true z,decide_eq_false (by omega)];rfl
   ·rw [decide_eq_false (by omega),decide_eq_true z];rfl
theorem mD:∀ {a b c:List Int},HT.lexLt a b=true->HT.lexLt b c=true->HT.lexLt a c=true
 | _,[],[],_,h=>absurd h (by intro z;cases z)
 | _,_::_,[],_,h=>absurd h (by intro z;cases z)
 | [],_,_::_,_,_=>rfl
 | _::_,[],_::_,h,_=>absurd h (by intro z;cases z)
 | x::a,y::b,z::c,h1,h2=>by
  rw [HT.lexLt_cons] at h1 h2 ⊢
  by_cases e:x=y
  ·subst e
   rw [if_pos rfl] at h1
   by_cases d:x=z
   ·subst d
    rw [if_pos rfl] at h2 ⊢
    exact mD h1 h2
   ·rw [if_neg d] at h2 ⊢
    exact h2
  ·rw [if_neg e] at h1
   by_cases d:y=z
   ·subst d
    rw [if_neg e];exact h1
   ·rw [if_neg d] at h2
    rw [decide_eq_true_eq] at h1 h2
    rw [if_neg (by omega),decide_eq_true_eq];omega
end L3
namespace L3
open PySem
open PySem.W (KasT kas_asc kas_desc kas_tail3 kas_descPart kas_count kas_place kas_bin kas_sort kas_rev)
open PyProof.Rows (mirror bubble getElem?_bubble getElem?_mirror_all mirror_size bubble_size)
section
variable {α:Type}{lt:α->α->Bool}(irr:∀ a,lt a a=false)(tr:∀ a b c,lt a b=true->lt b c=true->lt a c=true)(nt:∀ a b c,lt a b=true->lt a c=true\/lt c b=true)
include irr tr nt in
theorem CO (d:α)(xs:List α){n:Nat}(_:1<=n):(bU (fun i j=>lt (xs.getD i d) (xs.getD j d)) n).Pairwise fun i j=>lt (xs.getD j d) (xs.getD i d)=false:=by
 have h:=List.pairwise_mergeSort (le:=fun i j=>!(lt (xs.getD j d) (xs.getD i d))) (fun a b c g l=>by
  rw [Ws] at g l ⊢
  cases e:lt (xs.getD c d) (xs.getD a d) with
  | false=>rfl
  | true=>
   rcases nt _ _ (xs.getD b d) e with z|z
   ·rw [z] at l;cases l
   ·rw [z] at g;cases g) (fun a b=>by
  cases e:lt (xs.getD b d) (xs.getD a d) with
  | false=>rfl
  | true=>
   cases m:lt (xs.getD a d) (xs.getD b d) with
   | false=>rfl
   | true=>have:=tr _ _ _ e m;rw [irr] at this;cases this) (Tz n)
 exact h.imp fun h=>by simpa using h
end
end L3
namespace L3
open PySem L2 PySem.W PyProof.Rows
theorem wX:Ord1 HT.lexLt:=⟨kN,fun _ _ _=>mD,fun a b h1 c=>XO fun d=>by
 have:=CN d
 rw [h1,c] at this
 cases this⟩
section
variable {X:Cx}{a4b:List (Addr×Vu)}{σ:L2.St}{H:Hp}{s:SM}
end
end L3
namespace L3
open PySem L2
section
variable {X:Cx}{a b c:Expr}{ma mb mc:ME}{pos:UY}
noncomputable def jL (f g:D->D->Hm->Option (D×Hm))(a b c:ME):ME:=fun ρ d=>(a ρ d).bind fun p=>(b ρ p.2).bind fun q=>(f p.1 q.1 q.2).bind fun r=>match r.1 with
 | .bl true=>(c ρ r.2).bind fun t=>g q.1 t.1 t.2
 | .bl false=>some (.bl false,r.2)
 | _=>none
theorem CP {f g:D->D->Hm->Option (D×Hm)}{r L:R2}{K:SJ}(hf:cF K f r)(hg:cF K g L):∀ σ H Q,tM K (jL f g ma mb mc) σ H Q->uQ r L (tM K ma) (tM K mb) (tM K mc) σ H Q:=by
 rintro σ H Q ⟨π,w,μ,d,q,R,E,e,k⟩
 obtain ⟨⟨x,h⟩,Z,e⟩:=SF.mp e
 obtain ⟨⟨y,i⟩,h2,e⟩:=SF.mp e
 obtain ⟨⟨z,j⟩,h3,e⟩:=SF.mp e
 refine ⟨π,w,μ,x,h,R,E,Z,fun s v1 H1 n U i1=>⟨s,w,h,y,i,U,E.mono n,h2,fun u M N o R2 I=>?_⟩⟩
 refine hf u N i x y z j v1 M _ R2 (i1.mono o) I h3 fun m v3 O p A i3=>?_
 cases z with
 | bl B=>
  cases i3
  refine ⟨B,rfl,?_⟩
  cases B with
  | true=>
   refine j8 ?_
   obtain ⟨⟨t,l⟩,h4,e⟩:=SF.mp e
   exact ⟨m,w,j,t,l,A,((E.mono n).mono o).mono p,h4,fun v v4 T G Y i4=>hg v T l y t d q M v4 Q Y ((I.mono p).mono G) i4 e (k.after (((n.trans o).trans p).trans G))⟩
  | false=>
   refine j7 ?_
   cases e
   exact k m _ O ((n.trans o).trans p) A (.bl false)
 | _=>cases e
noncomputable def jM:W3->Option (Int->Int->Bool)
 | .Lt=>some fun i j=>decide (i<j)
 | .LtE=>some fun i j=>decide (i<=j)
 | .Gt=>some fun i j=>decide (j<i)
 | .GtE=>some fun i j=>decide (j<=i)
 | _=>none
theorem nY {op:W3}{p:Int->Int->Bool}(h:jM op=some p):OpR X (Uq op) (fD fun i j=>.bl (p i j))/\(op=.Lt\/op=.LtE\/op=.Gt\/op=.GtE):=by
 cases op<;>first|(cases h;first|exact ⟨uM,by simp⟩|exact ⟨uN,by simp⟩|exact ⟨uO,by simp⟩|exact ⟨uP,by simp⟩)|cases h
theorem CQ {op d:W3}(h':d=.Lt\/d=.LtE\/d=.Gt\/d=.GtE):a2P [op,d] [b,c]=false:=by
 show Wv d c=false
 rcases h' with rfl|rfl|rfl|rfl<;>exact dO _
theorem MC {op d:W3}{p q:Int->Int->Bool}(h:jM op=some p)(h':jM d=some q)(e:QE X a ma)(g:QE X b mb)(hc:QE X c mc):QE X (.Compare a [op,d] [b,c] pos) (jL (eW p) (eW q) ma mb mc):=
 ⟨b6 (Hv (nY h).1 (nY h').1 e.h g.h hc.h (CQ (nY (X:=X) h').2)) (CP f6 f6)⟩
theorem MH {op d:W3}{p q:Int->Int->Bool}(h:jM op=some p)(h':jM d=some q)(g:QE X a ma)(i:QE X b mb)(hc:QE X c mc):QT X (.Compare a [op,d] [b,c] pos) (aU (jL (eW p) (eW q) ma mb mc)):=
 ⟨rD (Hw (nY h).1 (nY h').1 g.h i.h hc.h (CQ (nY (X:=X) h').2)) fun e H Q h=>CP f6 f6 e H _ (Bt e H Q h)⟩
end
section
variable {X:Cx}
end
section
variable {X:Cx}{e:Expr}{te:TE}{lo hi:Option Expr}{st:Expr}{tl th tt:TO}{pos p2:UY}
end
section
variable {X:Cx}{a4b:List (Addr×Vu)}{σ:St}{H:Hp}{s:SM}{h':Uj}
end
structure QJT (X:Cx)(e:Expr)(m:MI):Prop where
 h:∀ es k p,PI X (.Tuple es k p) e (jF X.K m)
theorem QJ.t {X:Cx}{e:Expr}{m:MI}(h:QJ X e m):QJT X e m:=⟨fun es k p=>h.h _⟩
section
variable {X:Cx}{pos:UY}
theorem MJ {tg iter:Expr}{w:MI}{g:MG}{v:MS}{body:List Stmt}(I:PI X tg iter (jF X.K w))(G:QG X tg g)(B:QB X body v)(K:Z2 (Tr X.prog X.w) X.A X.env X.xe)(hc:X.calm=true)(L:d9 iter=true) :
  QS X (.For tg iter body [] pos) (dG w g v):=⟨iC (Hh K hc I G.h B.h (by intro z;cases iter<;>first|rfl|cases L)) (by
 rintro E T H ⟨O,Q,N,u,r,p,R,s,m,k⟩
 obtain ⟨⟨o,n,l⟩,A,m⟩:=SF.mp m
 refine ⟨O,Q,N,o,n,l,R,s,A,fun q x J i y W=>?_⟩
 have M:lM X.K E q l.length x u r p:=by
  cases u with
  | nx=>exact fun a b e j h c=>k a b e (i.trans j) h c
  | bk=>exact fun a b e j h c=>k a b e (i.trans j) h c
  | ct=>exact fun a b e j h c=>k a b e (i.trans j) h c
  | rt d=>exact KC.after k i
 exact Kf W M .refl y (s.mono i) m)⟩
noncomputable def wY (put:D->D->D->Hm->Option Hm)(o i v:ME):MS:=fun ρ b=>(v ρ b).bind fun p=>(o ρ p.2).bind fun q=>(i ρ q.2).bind fun r=>(put q.1 r.1 p.1 r.2).map fun a=>(.nx,ρ,a)
noncomputable def pQ:D->D->D->Hm->Option Hm
 | .loc a,y,d,μ=>match μ[a]? with
  | some (.dT kvs)=>(dC y).bind fun k=>if kvs.length<S8 then some (μ.set a (.dT (cZ kvs k d))) else none
  | _=>none
 | _,_,_,_=>none
noncomputable def pR:D->D->D->Hm->Option Hm:=pQ
noncomputable def dD:=wY pR
theorem CS {st:Stmt}{i:Nat}:QS X st (aX i bJ):=⟨fun a4b s σ H D I q=>by
 obtain ⟨g,h,e,d,c,b,R,E,a,k⟩:=q
 cases a⟩
end
end L3
namespace L3
open PySem L2
noncomputable def CT {a:Type}(xs:List a)(k:Nat)(d:a):List a:=xs.take k++d::xs.drop k
theorem Vals.ins {xs:List V}{us:List SK}(h:Vals xs us)(k:Nat){v:V}{u:SK}(r:RelV v u):Vals (CT xs k v) (CT us k u):=(h.take k).append (.cons r (h.drop k))
section
variable {X:Cx}
end
section
variable {X:Cx}
end
section
variable {X:Cx}{e o:Expr}{mo:ME}{apos cpos:UY}{es:List Expr}{ms:MA}{n:Nat}
end
end L3
namespace L3
open PySem L2
section
variable {prog:Tj}{w:TH}{A:Tv}{E:SK->SM->Prop}{s:SM}{r:Addr}{Q:Bool->SM->Prop}
end
section
variable {prog:Tj}{w:TH}{A:Tv}{E:SK->SM->Prop}{s:SM}{p a:Addr}{its:Array SK}
end
end L3
namespace L3
open PySem L2
end L3
namespace L3
open PySem L2
noncomputable abbrev bD:=List (List Int×Addr×V)
noncomputable def bA (ps:bD)(ws:List SK):List (List Int×Addr×SK):=YV (fun p w=>(p.1,p.2.1,w)) ps ws
theorem wZ {P:Tj}{w:TH}:∀ (ps:bD)(ws:List SK),YV u6 ps ws=(bA ps ws).map (entryOfKey (Va (V1 P w)))
 | [],_=>by simp [bA]
 | p::ps,[]=>by simp [bA]
 | p::ps,u::ws=>by
  have a:=wZ (P:=P) (w:=w) ps ws
  unfold bA at a ⊢
  rw [TB,TB,S5,a]
  rfl
theorem iN:∀ {ps:bD}{ws:List SK},Vals (ps.map (·.2.2)) ws->(bA ps ws).map (·.1)=ps.map (·.1)
 | [],_,_=>by simp [bA]
 | p::ps,_,.cons r t=>by
  have a:=iN (ps:=ps) t
  unfold bA at a ⊢
  rw [TB,S5,S5,a]
theorem CU:∀ {ps:bD}{ws:List SK}{x:List Int×Addr×SK},x∈bA ps ws->∃ p∈ps,p.1=x.1/\p.2.1=x.2.1
 | [],_,x,h=>by simp [bA] at h
 | p::ps,[],x,h=>by simp [bA] at h
 | p::ps,u::ws,x,h=>by
  unfold bA at h
  rw [TB] at h
  rcases To.mp h with e|h
  ·subst e;exact ⟨p,Td ..,rfl,rfl⟩
  ·obtain ⟨q,a,e⟩:=CU (ps:=ps) (ws:=ws) h
   exact ⟨q,S3 _ a,e⟩
noncomputable def dZ (ps:bD)(k:List Int):Option V:=(ps.find? fun p=>decide (p.1=k)).map (·.2.2)
noncomputable def dH (ps:bD)(k:List Int)(b:Addr)(v:V):bD:=if (dZ ps k).isSome then ps.map (fun p=>if p.1=k then (p.1,p.2.1,v) else p) else ps++[(k,b,v)]
theorem mE:∀ {ps:bD}{ws:List SK},Vals (ps.map (·.2.2)) ws->∀ k,RelO (dZ ps k) ((Xr (bA ps ws) k).map (·.2))
 | [],_,.nil,k=>by simp [dZ,bA,Xr];exact Xh
 | p::ps,_,.cons r t,k=>by
  have a:=mE (ps:=ps) t k
  unfold dZ Xr bA at a ⊢
  rw [TB,Uu,Uu]
  by_cases e:p.1=k
  ·simp only [e,decide_true]
   exact r
  ·simp only [e,decide_false]
   exact a
theorem w4 (ps:bD)(k:List Int)(b:Addr)(v:V):(dH ps k b v).length<=ps.length+1:=by
 unfold dH;split<;>simp
theorem CV {k:List Int}{v:V}{u:SK}(d:RelV v u):∀ {ps:bD}{ws:List SK},Vals (ps.map (·.2.2)) ws->
  ∃ a,Vals ((ps.map fun p=>if p.1=k then (p.1,p.2.1,v) else p).map (·.2.2)) a/\(bA ps ws).map (a3P k u)=bA (ps.map fun p=>if p.1=k then (p.1,p.2.1,v) else p) a
 | [],_,.nil=>⟨[],.nil,by simp [bA]⟩
 | p::ps,_,.cons (b:=w) r t=>by
  obtain ⟨a,c,b⟩:=CV d (ps:=ps) t
  by_cases e:p.1=k
  ·refine ⟨u::a,?_,?_⟩
   ·rw [S5,S5,if_pos e]
    exact .cons d c
   ·unfold bA at b ⊢
    rw [TB,S5,b,S5,if_pos e,TB]
    unfold a3P
    rw [if_pos e]
  ·refine ⟨w::a,?_,?_⟩
   ·rw [S5,S5,if_neg e]
    exact .cons r c
   ·unfold bA at b ⊢
    rw [TB,S5,b,S5,if_neg e,TB]
    unfold a3P
    rw [if_neg e]
theorem CW {k:List Int}{b:Addr}{v:V}{u:SK}:∀ {ps:bD}{ws:List SK},Vals (ps.map (·.2.2)) ws->bA ps ws++[(k,b,u)]=bA (ps++[(k,b,v)]) (ws++[u])
 | [],_,.nil=>by simp [bA]
 | p::ps,_,.cons r t=>by
  have a:=CW (k:=k) (b:=b) (v:=v) (u:=u) (ps:=ps) t
  unfold bA at a ⊢
  rw [TB,TR,a,TR,TR,TB]
theorem CY {ps:bD}{ws:List SK}(r:Vals (ps.map (·.2.2)) ws)(k:List Int)(b:Addr){v:V}{u:SK}(c:RelV v u) :
  ∃ a,Vals ((dH ps k b v).map (·.2.2)) a/\a2C (bA ps ws) k b u=bA (dH ps k b v) a:=by
 have e:=(mE r k).isSome_eq
 rw [WY] at e
 unfold dH a2C
 rw [e]
 by_cases h:(Xr (bA ps ws) k).isSome=true
 ·rw [if_pos h,if_pos h]
  exact CV c r
 ·rw [if_neg h,if_neg h]
  refine ⟨ws++[u],?_,CW r⟩
  rw [UN]
  exact Yn r c
section
variable {X:Cx}{a4b:List (Addr×Vu)}{σ:St}{H:Hp}{s:SM}{a:Addr}{ps:bD}
noncomputable def cC (K:SJ)(H:Hp)(ps:bD):Prop:=∀ p∈ps,SqT K H p.2.1 (p.1.map V.int)
theorem fJ (I:Inv X a4b σ H s)(e:Rd H a (aW a ps))(q:cC X.K H ps):(a == Ui)=false/\ps.length<=S8 /\
  ∃ b,Vals (ps.map (·.2.2)) b/\s.heap.DictOfH (Va (V1 X.prog X.w)) a (bA ps b):=by
 obtain ⟨⟨b,r,w,u,o,h,g,i,j,l,m,n⟩,_⟩:=(show ObjOk X.prog X.w H s.heap a (aW a ps) from e.ok I.hok)
 refine ⟨w,u,b,r,o,h,g,i,j,l,by rw [m];exact wZ ps b,fun x y=>?_,by rw [iN r];exact n⟩
 obtain ⟨p,v,c,d⟩:=CU y
 rw [<- c,<- d]
 exact kM I (q p v)
theorem sD {P:Tj}{w:TH}{n:Hp}{h':Uj}{ws:List SK}(m:(a == Ui)=false)(l:ps.length<=S8)(r:Vals (ps.map (·.2.2)) ws)(d:h'.DictOfH (Va (V1 P w)) a (bA ps ws)):ObjOk P w n h' a (aW a ps):=by
 obtain ⟨o,e,c,b,g,h,i,_,j⟩:=d
 refine ⟨⟨ws,r,m,l,o,e,c,b,g,h,by rw [i,wZ (P:=P) (w:=w)],by rw [<- iN r];exact j⟩,⟨o,b⟩,?_⟩
 rintro q u ⟨ws,r,m,l,o,e,c,b,g,h,i,j⟩ p
 exact ⟨ws,r,m,l,o,e,c,p o b,g,h,i,j⟩
theorem MK (I:Inv X a4b σ H s)(e:Rd H a (aW a ps))(b:cC X.K H ps):s.TypeIs (.ref a) "dict":=by
 obtain ⟨_,_,c,_,d⟩:=fJ I e b
 exact d.typeIs
theorem mF {A:Tv}(b:A.units+1<UT):(Va (V1 X.prog X.w)).room A.in1:=by
 show A.in1.units<UT
 rw [lO];omega
variable {A:Tv}{E:SK->SM->Prop}{b:Addr}{k:List Int}{v:V}
theorem ML {Q:SK->SM->Prop}(o:A.units+1<UT)(I:Inv X a4b σ H s)(e:Rd H a (aW a ps))(m:cC X.K H ps)(l:SqT X.K H b (k.map V.int))(q:dZ ps k=some v)
  (h:∀ c j,Inv X a4b σ H j->RelV v c->Q c j):Tn (Tr X.prog X.w) A (Zx (.ref a) (.ref b)) Q E s:=by
 obtain ⟨x,w,u,r,d⟩:=fJ I e m
 obtain ⟨c,hw,i⟩:=RelO.some_of (v:=v) (o:=(Xr (bA ps u) k).map (·.2)) (by rw [<- q];exact mE r k)
 obtain ⟨p,n,g⟩:=SS.mp hw
 refine a2k (mF o) (kM I l) d n ?_
 rw [g]
 exact h c _ (I.tok _) i
theorem MM {Q:SK->SM->Prop}(l:A.units+1<UT)(I:Inv X a4b σ H s)(e:Rd H a (aW a ps))(i:cC X.K H ps)(g:SqT X.K H b (k.map V.int))
  (h:∀ c,Inv X a4b σ H c->Q (.bool (dZ ps k).isSome) c):Tn (Tr X.prog X.w) A (Uq .In (.ref b) (.ref a)) Q E s:=by
 obtain ⟨j,m,n,r,d⟩:=fJ I e i
 refine wpAny_in_heap (mF l) (kM I g) j d ?_
 have q:=(mE r k).isSome_eq
 rw [WY] at q
 rw [<- q]
 exact h _ (I.tok _)
theorem MN {Q:SK->SM->Prop}(l:A.units+1<UT)(I:Inv X a4b σ H s)(e:Rd H a (aW a ps))(i:cC X.K H ps)(g:SqT X.K H b (k.map V.int))
  (h:∀ c,Inv X a4b σ H c->Q (.bool (!(dZ ps k).isSome)) c):Tn (Tr X.prog X.w) A (Uq .NotIn (.ref b) (.ref a)) Q E s:=by
 obtain ⟨j,m,n,r,d⟩:=fJ I e i
 refine a3m (mF l) (kM I g) j d ?_
 have q:=(mE r k).isSome_eq
 rw [WY] at q
 rw [<- q]
 exact h _ (I.tok _)
theorem MP {Q:Unit->SM->Prop}{u:SK}(x:A.units+1<UT)(I:Inv X a4b σ H s)(e:H a=some (aW a ps))(o:cC X.K H ps)(m:SqT X.K H b (k.map V.int))(hz:ps.length<S8)(B:RelV v u)
  (h:∀ i,Inv X a4b σ (aI H a (aW a (dH ps k b v))) i->Q () i):Tn (Tr X.prog X.w) A (setItem (.ref a) (.ref b) u) Q E s:=by
 obtain ⟨w,L,G,r,d⟩:=fJ I (.of e) o
 have y:(bA ps G).length<=S8:=by
  have:=congrArg Ua (iN r)
  rw [SQ,SQ] at this
  omega
 refine wpAny_setItem_heap (hsz:=y) (mF x) (kM I m) d fun l c g=>h _ ?_
 obtain ⟨K,z,j⟩:=CY r k b B
 rw [j] at c
 have n:∃ q,l.get? a=some q:=let ⟨q,_,_,p,_⟩:=c;⟨q,p⟩
 exact q8 I (by rw [e];exact Xh) g n (sD w (by have:=w4 ps k b v;omega) z c)
end
noncomputable def IsTs (K:SJ)(π:Nat->Addr)(n:Nat)(H:Hp):bD->List (List Int×D)->Prop:=V6 fun p q=>p.1=q.1/\SqT K H p.2.1 (p.1.map V.int)/\IsD K π n H p.2.2 q.2
section
variable {K:SJ}{π:Nat->Addr}{n:Nat}{H:Hp}{μ:Hm}
theorem MQ {b:Addr}{k:List Int}(h:IsD K π n H (.ref b) (.tup (k.map D.int))):SqT K H b (k.map V.int):=by
 cases h with
 | tup q t=>rw [ints_of' t] at q;exact q
theorem IsTs.of:∀ {ps:bD}{kvs:List (List Int×D)},ps.map (·.1)=kvs.map (·.1)->IsDs K π n H (ps.map fun p=>V.ref p.2.1) (kvs.map fun k=>D.tup (k.1.map D.int))->IsDs K π n H (ps.map (·.2.2)) (kvs.map (·.2))->IsTs K π n H ps kvs
 | [],[],_,_,_=>.nil
 | [],_::_,h,_,_=>by cases h
 | _::_,[],h,_,_=>by cases h
 | p::ps,q::kvs,h,h2,h3=>by
  cases h2 with
  | cons a b=>
   cases h3 with
   | cons c d=>
    rw [S5,S5,a0G] at h
    refine .cons ⟨h.1,?_,c⟩ (IsTs.of h.2 b d)
    rw [h.1]
    exact MQ a
theorem IsTs.keys:∀ {ps:bD}{kvs:List (List Int×D)},IsTs K π n H ps kvs->cC K H ps
 | _,_,.nil=>fun p a=>nomatch a
 | _,_,.cons h t=>fun p a=>by
  rcases To.mp a with e|a
  ·subst e;exact h.2.1
  ·exact IsTs.keys t p a
theorem IsTs.to:∀ {ps:bD}{kvs:List (List Int×D)},IsTs K π n H ps kvs->ps.map (·.1)=kvs.map (·.1)/\IsDs K π n H (ps.map fun p=>V.ref p.2.1) (kvs.map fun k=>D.tup (k.1.map D.int))/\IsDs K π n H (ps.map (·.2.2)) (kvs.map (·.2))
 | _,_,.nil=>⟨rfl,.nil,.nil⟩
 | _,_,.cons (a:=p) (b:=q) h t=>by
  obtain ⟨a,b,c⟩:=IsTs.to t
  refine ⟨by rw [S5,S5,h.1,a],.cons ?_ b,.cons h.2.2 c⟩
  show IsD K π n H (.ref p.2.1) (.tup (q.1.map D.int))
  rw [<- h.1]
  exact .tup h.2.1 (sA p.1)
theorem IsTs.val (k:List Int):∀ {ps:bD}{kvs:List (List Int×D)},IsTs K π n H ps kvs->(dZ ps k=none/\b7 kvs k=none)\/∃ v d,dZ ps k=some v/\b7 kvs k=some d/\IsD K π n H v d
 | _,_,.nil=>.inl ⟨rfl,rfl⟩
 | _,_,.cons (a:=p) (b:=q) h t=>by
  have a:=IsTs.val k t
  unfold dZ b7 at a ⊢
  rw [Uu,Uu,<- h.1]
  by_cases e:p.1=k
  ·simp only [e,decide_true]
   exact .inr ⟨_,_,rfl,rfl,h.2.2⟩
  ·simp only [e,decide_false]
   exact a
theorem IsTs.put {ps:bD}{kvs:List (List Int×D)}(h:IsTs K π n H ps kvs)(k:List Int){b:Addr}{v:V}{d:D}(i:SqT K H b (k.map V.int))(g:IsD K π n H v d):IsTs K π n H (dH ps k b v) (cZ kvs k d):=by
 have e:(dZ ps k).isSome=(b7 kvs k).isSome:=by
  rcases h.val k with ⟨a,c⟩|⟨v,d,a,c,_⟩<;>rw [a,c]<;>rfl
 have repl:∀ {ps:bD}{kvs:List (List Int×D)},IsTs K π n H ps kvs->IsTs K π n H (ps.map fun p=>if p.1=k then (p.1,p.2.1,v) else p) (kvs.map fun p=>if p.1=k then (p.1,d) else p):=by
  intro ps kvs h
  unfold IsTs at h
  induction h with
  | nil=>exact .nil
  | @cons p q ps l h t j=>
   rw [S5,S5]
   refine .cons ?_ j
   by_cases z:p.1=k
   ·rw [if_pos z,if_pos (h.1.symm.trans z)]
    exact ⟨h.1,h.2.1,g⟩
   ·rw [if_neg z,if_neg fun y=>z (h.1.trans y)]
    exact h
 unfold dH cZ
 rw [e]
 split
 ·exact repl h
 ·exact Yn h ⟨rfl,i,g⟩
theorem eE {a:Nat}{kvs:List (List Int×D)}(R:Rp K π H μ)(h:μ[a]? = some (.dT kvs)):∃ ps,H (π a)=some (aW (π a) ps)/\IsTs K π μ.length H ps kvs:=by
 obtain ⟨ps,b,c,d,e⟩:=R.dT a kvs h
 exact ⟨ps,b,.of c d e⟩
theorem nZ {v:V}{x:D}{k:List Int}(h:IsD K π n H v x)(e:dC x=some k):∃ b,v=.ref b/\SqT K H b (k.map V.int):=by
 have:=Cr e
 subst this
 cases h with
 | tup q t=>rw [ints_of' t] at q;exact ⟨_,rfl,q⟩
end
noncomputable def jN:ME:=fun _ a=>some (.loc a.length,a++[.dT []])
section
variable {X:Cx}{pos:UY}
theorem w5 {P:Tj}{w:TH}{H:Hp}(h:Uj)(a:Ui<h.objs.size):ObjOk P w H (h.push { cls:=.type "dict",data:=.dict #[] }) h.objs.size (aW h.objs.size []):=
 sD (ws:=[]) (beq_eq_false_iff_ne.mpr (UM (Tp a))) (Um _) .nil (a3C h)
noncomputable def MR:TE:=fun _ H Q=>∀ p,H p=none->Q (.ref p) (aI H p (aW p []))
theorem MU:PE X (.Dict [] [] pos) MR:=fun a4b s σ H Q I h=>
 wpAny_Dict_empty ⟨.ref s.heap.objs.size,_,I.laid (a:=s.heap.objs.size) (o:=aW s.heap.objs.size []) (t':=s.toks) (fun _ _ q=>SR _ q) (SX _) (w5 s.heap I.big),rfl,h _ (I.hok.fresh (SX _))⟩
theorem MV:QE X (.Dict [] [] pos) jN:=⟨b6 MU (by
 rintro m H Q ⟨j,l,i,d,g,R,E,c,k⟩ p e
 cases c
 obtain ⟨b,a,h⟩:=R.alloc (c:=.dT []) (o:=aW p []) e ⟨[],rfl,rfl,.nil,.nil⟩
 exact k _ _ _ b a fY)⟩
end
noncomputable def n4:D->D->Hm->Option (D×Hm)
 | .loc a,y,μ=>match μ[a]? with
  | some (.dT kvs)=>(dC y).bind fun k=>(b7 kvs k).map fun d=>(d,μ)
  | _=>none
 | _,_,_=>none
section
variable {X:Cx}{a b e:Expr}{ma mb me:ME}{pos tpos:UY}{td ty tv:TE}
noncomputable def CZ (K:SJ):R2:=fun x y H Q=>∃ a b ps k v,x=.ref a/\y=.ref b/\Rd H a (aW a ps)/\cC K H ps/\SqT K H b (k.map V.int)/\dZ ps k=some v/\Q v H
theorem MW (A:X.A.units+1<UT)(w:PE X a td)(r:PE X b ty)(z:q9 b):PE X (.Subscript a b pos) (fun σ H Q=>td σ H fun x d=>ty σ d fun y g=>CZ X.K x y g Q):=by
 intro c s σ H Q I h
 refine AX Zm.lookup z (aP (w c s σ H _ I h) fun u N ⟨x,d,m,L,G⟩=>aP (r c N σ d _ m G) fun E R ⟨y,g,j,M,a,b,O,k,v,o,p,e,l,q,B,K⟩=>?_)
 subst o p
 obtain rfl:u=S2 a:=L
 obtain rfl:E=S2 b:=M
 exact ⟨MK j e l,ML A j e l q B fun U T n i=>⟨v,g,n,i,K⟩⟩
theorem MX {K:SJ}:cF K n4 (CZ K):=by
 intro w H I x y d u E G Q R m n c k
 unfold n4 at c
 split at c
 ·split at c
  ·rename_i o hc
   obtain ⟨h,j,c⟩:=SF.mp c
   obtain ⟨A,g,c⟩:=SS.mp c
   cases c
   cases m
   obtain ⟨p,i,T⟩:=eE R hc
   obtain ⟨b,rfl,l⟩:=nZ n j
   rcases T.val h with ⟨_,z⟩|⟨v,B,q,r,s⟩
   ·rw [z] at g;cases g
   ·rw [r] at g
    cases g
    exact ⟨_,b,p,h,v,rfl,rfl,.of i,T.keys,l,q,k w _ H .refl R s⟩
  ·cases c
 ·cases c
theorem MY {k:Nat}(g:Room k X.A)(c:QE X a ma)(d:QE X b mb)(h:lU b=true):QE X (.Subscript a b pos) (aB n4 ma mb):=⟨b6 (MW (eY g) c.h d.h (vZ h)) (m8 MX)⟩
end
section
variable {X:Cx}{o i e:Expr}{mo mi me:ME}{pos tpos:UY}{td ty tv:TE}
noncomputable def MZ (K:SJ)(td ty tv:TE):TS:=fun D σ H=>tv σ H fun v d=>td σ d fun x g=>ty σ g fun y c=>∃ a b ps k,x=.ref a/\y=.ref b/\c a=some (aW a ps)/\cC K c ps/\SqT K c b (k.map V.int)/\ps.length<S8/\D.nx σ (aI c a (aW a (dH ps k b v)))
theorem M0 (K:X.A.units+1<UT)(E:PE X o td)(A:PE X i ty)(L:PE X e tv)(G:X8 e (some (.Subscript o i tpos)) pos.line X.env=pure false) :
  PS X (.Assign [.Subscript o i tpos] e pos) (MZ X.K td ty tv):=by
 intro c s d H D I h
 refine wpAny_Assign_Subscript (aP (L c s d H _ I h) fun r Z ⟨v,g,l,T,O⟩=>aP (E c Z d g _ l O) fun u s2 ⟨x,j,m,U,Q⟩=>aP (A c s2 d j _ m Q) fun N s3 ⟨y,H3,n,Y,a,b,ps,k,q,w,e,B,z,M,R⟩=>?_) G
 subst q w
 obtain rfl:u=S2 a:=U
 obtain rfl:N=S2 b:=Y
 exact MP K n e B z M T fun s4 p=>⟨d,_,p,R⟩
theorem M3 {g:Nat}(hr:Room g X.A)(ho:QE X o mo)(hi:QE X i mi)(he:QE X e me)(h:jE e=true):QS X (.Assign [.Subscript o i tpos] e pos) (wY pQ mo mi me):=
 ⟨iC (M0 (IP hr) ho.h hi.h he.h (v9 h)) (by
 rintro E σ H ⟨π,K,μ,fl,ρ',μ',R,m,d,k⟩
 obtain ⟨⟨x,j⟩,h1,d⟩:=SF.mp d
 obtain ⟨⟨y,l⟩,h2,d⟩:=SF.mp d
 obtain ⟨⟨z,A⟩,h3,d⟩:=SF.mp d
 obtain ⟨μ4,c,d⟩:=SS.mp d
 cases d
 refine ⟨π,K,μ,x,j,R,m,h1,fun B v1 H1 n Q i1=>⟨B,K,j,y,l,Q,m.mono n,h2,fun G v2 H2 p R2 i2=>⟨G,K,l,z,A,R2,(m.mono n).mono p,h3,fun I v3 H3 q L i3=>?_⟩⟩⟩
 cases y with
 | loc a=>
  simp only [pQ] at c
  split at c
  ·rename_i v hc
   obtain ⟨g,h5,c⟩:=SF.mp c
   split at c
   ·rename_i hz
    cases c
    have u:=i2.mono q
    cases u with
    | loc r=>
     obtain ⟨w,N,T⟩:=eE L hc
     obtain ⟨b,rfl,O⟩:=nZ i3 h5
     have hv:=(i1.mono p).mono q
     have Y:=T.put g O hv
     obtain ⟨Z,g2,g3⟩:=Y.to
     have s:w.length<S8:=by
      have:=congrArg Ua (T.to).1
      rw [SQ,SQ] at this
      omega
     refine ⟨_,b,w,g,rfl,rfl,N,T.keys,O,s,?_⟩
     obtain ⟨M,U⟩:=L.put (c:=.dT (cZ v g x)) (o:=aW _ (dH w g b v1)) r N (.inr (.inr ⟨_,rfl⟩)) ⟨_,rfl,Z,g2,g3⟩
     exact k I σ _ (((n.trans p).trans q).trans M) U ((((m.mono n).mono p).mono q).mono M)
   ·cases c
  ·cases c
 | _=>simp [pQ] at c)⟩
end
noncomputable def pS (b:Bool):D->D->Hm->Option (D×Hm)
 | x,.loc a,μ=>match μ[a]? with
  | some (.dT kvs)=>(dC x).map fun k=>(.bl (if b then !(b7 kvs k).isSome else (b7 kvs k).isSome),μ)
  | _=>none
 | _,_,_=>none
noncomputable def w6 (K:SJ)(c:Bool):R2:=fun x y H Q=>∃ a b ps k,x=.ref b/\y=.ref a/\Rd H a (aW a ps)/\cC K H ps/\SqT K H b (k.map V.int)/\Q (.bl (if c then !(dZ ps k).isSome else (dZ ps k).isSome)) H
theorem C0 {X:Cx}(j:X.A.units+1<UT):OpR X (Uq .In) (w6 X.K false):=by
 intro d s p H x y v u Q I l m h
 obtain ⟨a,b,n,k,rfl,rfl,e,i,g,q⟩:=h
 obtain rfl:v=S2 b:=l
 obtain rfl:u=S2 a:=m
 exact MM j I e i g fun o c=>⟨.bl _,H,c,rfl,q⟩
theorem C1 {X:Cx}(j:X.A.units+1<UT):OpR X (Uq .NotIn) (w6 X.K true):=by
 intro d s p H x y v u Q I l m h
 obtain ⟨a,b,n,k,rfl,rfl,e,i,g,q⟩:=h
 obtain rfl:v=S2 b:=l
 obtain rfl:u=S2 a:=m
 exact MN j I e i g fun o c=>⟨.bl _,H,c,rfl,q⟩
theorem sE {K:SJ}{c:Bool}:cF K (pS c) (w6 K c):=by
 intro r H w x y d q s u Q R o p a k
 unfold pS at a
 split at a
 ·split at a
  ·rename_i i hc
   obtain ⟨h,g,a⟩:=SS.mp a
   cases a
   cases p
   obtain ⟨l,m,T⟩:=eE R hc
   obtain ⟨b,rfl,n⟩:=nZ o g
   have e:(dZ l h).isSome=(b7 i h).isSome:=by
    rcases T.val h with ⟨g,j⟩|⟨v,d,g,j,_⟩<;>rw [g,j]<;>rfl
   refine ⟨_,b,l,h,rfl,rfl,.of m,T.keys,n,?_⟩
   rw [e]
   exact k r _ H .refl R (.bl _)
  ·cases a
 ·cases a
section
variable {X:Cx}{a b:Expr}{ma mb:ME}{pos:UY}
end
end L3
namespace L3
open PySem L2
noncomputable def RawD (h:Uj)(d:Addr)(es:Array T6)(ep:Nat):Prop:=∃ z,h.get? d=some z/\z.ExactDict/\z.data=.dict es ep
theorem RawD.ty {s:SM}{d:Addr} {es ep} (g:RawD s.heap d es ep):s.TypeIs (.ref d) "dict":=let ⟨z,a,b,_⟩:=g;⟨z,a,b.1⟩
theorem RawD.stay {h h':Uj}{d:Addr} {es ep} (g:RawD h d es ep)(k:∀ o,h.get? d=some o->h'.get? d=some o):RawD h' d es ep:=let ⟨z,a,b⟩:=g;⟨z,k z a,b⟩
theorem RawD.lt {h:Uj}{d:Addr} {es ep} (g:RawD h d es ep):d<h.objs.size:=let ⟨_,a,_⟩:=g;S6 a
section
variable {P:Tj}{w:TH}{A:Tv}{E:SK->SM->Prop}{s:SM}{d it:Addr}{i ep:Nat}{es:Array T6}
theorem M4 {Q:SK->SM->Prop}(lo:(d == Ui)=false)(g:RawD s.heap d es ep)
  (q:Q (.ref s.heap.objs.size) { s with heap:=s.heap.push { cls:=.type "dict_keyiterator",data:=.fields #[.ref d,.int 0 0,.int es.size 0,.int ep 0] } }):Tn (Tr P w) A (ZX (.ref d)) Q E s:=by
 obtain ⟨z,a,c,b⟩:=id g
 refine Zv g.ty F.slot_dict_iter (UG F.slot_dict_iter g.ty F.entry_dict_iter ?_ (F.args_dict_iter_1 _))
 unfold Builtin.«dict.__iter__» a3J
 refine SG (SG (U9 g.ty ?_))
 show Tn _ _ (pure (S2 d)) _ _ _
 refine SU ?_
 show Tn _ _ (UW d >>= _) _ _ _
 unfold UW
 rw [if_neg (fun x=>TC (lo.symm.trans x))]
 refine SG (SU (SG (Ud a b (SG (VZ a b (SG (UR (SU ?_))))))))
 exact ⟨_,rfl,"dict_keyiterator",_,⟨_,Te _ rfl,rfl⟩,F.slot_dict_keyiterator_next.lookup,by simpa [WU] using q⟩
theorem C2 {Q:Option SK->SM->Prop}(p:A.handled=none)(j:s.heap.IsKeyIter it d i es.size ep)(g:RawD s.heap d es ep)
  (v:∀ e a,es[i]? = some e->a.IsKeyIter it d (i+1) es.size ep->WB it s.heap a->Q (some e.key) { s with heap:=a })
  (B:es[i]? = none->∀ a,Zk it s.heap a->Q none { s with heap:=a }):Tn (Tr P w) A (Yi (.ref it)) Q E s:=by
 obtain ⟨y,c,r,b⟩:=id j
 obtain ⟨z,m,G,n⟩:=id g
 have l:∀ {Q:String->SM->Prop}{A:Tv}{E:SK->SM->Prop},Q "dict_keyiterator" s->Tn (Tr P w) A (a3i (.ref it)) Q E s:=fun q=>wpAny_typeNameOfWhole_keyiter j.typeIs q
 unfold Yi
 refine SG (a0I (a0W (name:=Yj "__next__") j.typeIs F.slot_dict_keyiterator_next (UG F.slot_dict_keyiterator_next j.typeIs F.entry_dict_keyiterator_next ?_ (F.args_dict_keyiterator_next_1 _))))
 refine SG (SU (SG (SG (SG (l (SU (SG (a3M c b ?_))))))))
 simp only [show VQ "dict_keyiterator" = false by decide,S9,if_false]
 show Tn _ _ (if (S2 d == UK)=true then _ else _) _ _ _
 rw [if_neg (show ¬ (S2 d == UK)=true from fun x=>TC x)]
 refine SG (SU (SG (Ud m n ?_)))
 rw [if_neg (fun x=>by simp at x)]
 refine SG (SU (SG (VZ m n ?_)))
 rw [if_neg (fun x=>by simp at x)]
 refine SU ?_
 simp only [if_neg (show ¬ ((i:Int)<0) by omega),UE]
 cases o:es[i]? with
 | some e=>
  refine SG (SG (l (SU (SG (a1A j.typeIs ?_)))))
  show Tn _ _ (a1N (.ref it) 1 (WU ((i:Int)+1)) >>= _) _ _ _
  refine SG (a0n c b (by simp) ?_)
  have h:(s.heap.update it (a2J (·.setIfInBounds 1 (WU ((i:Int)+1))))).IsKeyIter it d (i+1) es.size ep:=
   ⟨_,Vm _ c (Obj.isFreed_of_fields (a1u b _)),(Obj.cls_mapFields ..).trans r,by simp [a1u b,WU]⟩
  generalize hu:s.heap.update it (a2J (·.setIfInBounds 1 (WU ((i:Int)+1))))=u at h
  refine SG (Uc (SG (a1A (s:={ s with heap:=u }) h.typeIs ?_)))
  show Tn _ _ (pure e.key) _ _ _
  exact SU (SU ⟨_,rfl,SU (v e u o h (hu ▸ Wn ..))⟩)
 | none=>
  refine SG (SG (l (SU ?_)))
  show Tn _ _ (a1N (.ref it) 0 .none >>= _) _ _ _
  refine SG (a0n c b (by simp) ?_)
  show Tn _ _ (a3Q (.type "StopIteration") [] >>= _) _ _ _
  simp only [a3Q,newTuple]
  refine SG (SG (UR ?_ (by size_fits)))
  refine SG (m:=YR _ _) (wpAny_of_eq (a:=UK) (by first|rfl|(simp only [YR];rfl)) (UR ?_ (by size_fits)))
  simp only [raiseNew]
  refine SG (wpAny_handled ?_)
  rw [show A.in1.handled=none from p]
  refine SG (SU (wpAny_throw ?thrown))
  case thrown=>exact SG (XI (T:="StopIteration") (b:=true) ⟨_,Te _ rfl,rfl⟩ a3U (SU (B o _ (((Wn ..).extBut.push _).push _))))
theorem C3 (m:A.handled=none)(l:d≠it)(es:Array T6)(ep:Nat):Walks P w A it [it,d] [it] es.size (fun i v=>∃ e,es[i]? = some e/\v=e.key) (fun i h=>h.IsKeyIter it d i es.size ep/\RawD h d es ep) where
 sub:=fun b a=>by rw [Tq.mp a];exact Td ..
 frame:=fun _ _ _ st k=>⟨st.1.at fun o e=>k it (by simp) o e,st.2.stay fun o e=>k d (by simp) o e⟩
 item:=fun i s Q E r st q=>C2 m st.1 st.2 (fun e j c p n=>q _ j s.toks ⟨e,c,rfl⟩ ⟨p,st.2.stay fun o g=>n.extBut d o l g⟩ fun b o a g=>n.extBut b o (fun z=>a (by simp [z])) g) (fun c=>by simp at c;omega)
 done:=fun s Q E st q=>C2 m st.1 st.2 (fun e j c=>by simp at c) (fun _ j x=>q j s.toks fun b o a g=>x b o (fun z=>a (by simp [z])) g)
 self:=fun _ _ _ _ st q=>wpAny_pyIter_keyiter st.1 q
theorem C4 (lo:(d == Ui)=false):PySem.W.KdlSrc P w "dict" d d es.size (fun i v=>∃ e,es[i]? = some e/\v=e.key) (fun h=>RawD h d es ep) where
 type:=fun _ g=>g.ty
 there:=fun _ g=>⟨g.lt,g.lt⟩
 keep:=fun _ _ g k=>g.stay fun o e=>k d (.inl rfl) o e
 notList:=by decide
 notTuple:=by decide
 hint:=fun _ _ _ _ g q=>PySem.W.kdl_hint_dict g.ty q
 iter:=fun _ _ a g=>⟨_,_,(fun _ _ q=>M4 lo g q),C3 a (Tp g.lt) es ep,⟨⟨_,Te _ rfl,rfl,rfl⟩,g.stay fun o e=>SR _ e⟩⟩
theorem M6 (lo:(d == Ui)=false):a2K P w (Builtin.«dict.__len__» ⟨[.ref d],[]⟩) (fun _ R s=>∃ es ep,RawD s.heap d es ep/\R (.ok (.ret (.int (es.size:Nat) s.toks))) { s with toks:=s.toks+1 }):=
 .of_wp fun A R s ⟨es,ep,⟨z,a,c,b⟩,q⟩=>by
  show Tn _ _ (dictSize d >>= _) _ _ _
  unfold dictSize
  refine SG (SG (Ud a b (SU ?_)))
  show Tn _ _ (a3F d >>= _) _ _ _
  refine SG (wpAny_pendingCount_other lo (wpAny_ret_mkInt ?_))
  rw [Y9];exact q
theorem M7 {Q:SK->SM->Prop}(lo:(d == Ui)=false)(g:RawD s.heap d es ep)(hz:es.size<=S8)(q:Q (.int (es.size:Nat) (s.toks+1)) { s with toks:=s.toks+1+1 }):Tn (Tr P w) A (call (.builtin "len") [.ref d]) Q E s:=
 a3x g.ty F.slot_dict_len (fun b a=>X5 F.slot_dict_len g.ty F.entry_dict_len (F.args_dict_len_1 _) (M6 lo) ⟨es,ep,g,a⟩) (by omega) (by rw [T3] at hz;omega) q
end
theorem C5:∀ {ps:bD}{ws:List SK},Vals (ps.map (·.2.2)) ws->(bA ps ws).map (fun x=>S2 x.2.1)=ps.map fun p=>S2 p.2.1
 | [],_,_=>by simp [bA]
 | p::ps,_,.cons r t=>by
  have a:=C5 (ps:=ps) t
  unfold bA at a ⊢
  rw [TB,S5,S5,a]
theorem w8:∀ ps:bD,Vals (ps.map fun p=>V.ref p.2.1) (ps.map fun p=>S2 p.2.1)
 | []=>.nil
 | p::ps=>.cons rfl (w8 ps)
section
variable {X:Cx}{a4b:List (Addr×Vu)}{σ:St}{H:Hp}{s:SM}{a:Addr}{ps:bD}
theorem jO (I:Inv X a4b σ H s)(e:H a=some (aW a ps))(h:cC X.K H ps):(a == Ui)=false/\ps.length<=S8/\∃ es ep,RawD s.heap a es ep/\es.toList.map (·.key)=ps.map fun p=>S2 p.2.1:=by
 obtain ⟨j,i,l,r,z,es,ep,b,c,d,g,_⟩:=fJ I (.of e) h
 refine ⟨j,i,es,ep,⟨z,b,c,d⟩,?_⟩
 rw [g,TM,<- C5 r]
 rfl
noncomputable def C6 (K:SJ):List V->Hp->VK->Prop:=fun xs H Q=>∃ a ps,xs=[V.ref a]/\H a=some (aW a ps)/\cC K H ps/\Q (.int ps.length) H
theorem M8:CallR X (.builtin "len") (C6 X.K):=by
 intro a4b s σ H p o Q I r h
 obtain ⟨a,ps,rfl,c,e,q⟩:=h
 obtain ⟨u,rfl,l⟩:=fU r
 cases l
 obtain ⟨j,n,b,m,g,d⟩:=jO I c e
 have i:b.size=ps.length:=by
  have:=congrArg Ua d
  simpa using this
 refine M7 j g (by omega) ?_
 rw [i]
 exact ⟨.int ps.length,H,(I.tok _).tok _,⟨_,rfl⟩,q⟩
noncomputable def sF (K:SJ):List V->Hp->VK->Prop:=fun xs H Q=>∃ a ps,xs=[V.ref a]/\H a=some (aW a ps)/\cC K H ps/\∀ l,H l=none->Q (.ref l) (aI H l (.lst (ps.map fun p=>V.ref p.2.1)))
theorem M9 (hc:X.calm=true):CallR X (.type "list") (sF X.K):=by
 intro a4b s σ H R O Q I r h
 obtain ⟨a,ps,rfl,y,z,q⟩:=h
 obtain ⟨u,rfl,G⟩:=fU r
 cases G
 obtain ⟨E,A,n,L,g,d⟩:=jO I y z
 have N:n.size=ps.length:=by
  have:=congrArg Ua d
  simpa using this
 refine a0N (C4 E) (I.ok.hd hc) g (by omega) fun M K b l B x c=>?_
 refine ⟨.ref s.heap.objs.size,_,I.laid (t':=K) (a:=s.heap.objs.size) (o:=.lst (ps.map fun p=>V.ref p.2.1)) B (SX _) ?_,rfl,q _ (I.hok.fresh (SX _))⟩
 refine ⟨by rw [SQ];exact A,b.toList,l,?_,by simpa using x⟩
 have m:b.toList=ps.map fun p=>S2 p.2.1:=by
  rw [<- d]
  refine Vk fun i=>?_
  rw [Tx,Ul,Ul]
  cases j:b[i]? with
  | some v=>
   obtain ⟨e,o,w⟩:=c.2 i v j
   rw [o,w];rfl
  | none=>
   have:b.size<=i:=by simpa using j
   rw [W4 (by rw [<- c.1];exact this)];rfl
 rw [m]
 exact w8 ps
end
section
variable {X:Cx}{a b o i e:Expr}{ma mb mo mi me:ME}{pos tpos:UY}{k:Nat}
theorem Na (m:Room k X.A)(g:QE X a ma)(j:QE X b mb)(h:lU b=true):QE X (.Subscript a b pos) (aB aN ma mb):=
 nM (nM (m:=aB (fun x y d=>match n4 x y d with|some r=>some r|none=>pL x y d) ma mb) (MY m g j h) (K7 m g j h) (iI fun x y d r c=>by
  split at c
  ·rename_i z;rw [z];exact .inl c
  ·exact .inr c)) (K6 g j h) (iI fun x y d r c=>by
  unfold aN at c
  split at c
  ·split at c
   ·rename_i l hc
    refine .inl ?_
    simp only [n4,pL,hc]
    exact c
   ·rename_i l hc
    refine .inl ?_
    simp only [n4,hc]
    rw [c]
   ·exact .inr c
  ·exact .inr c)
noncomputable def n5 (c:Bool):D->D->Hm->Option (D×Hm):=fun x y d=>match pS c x y d with
 | some r=>some r
 | none=>lY c x y d
theorem sG {c:Bool}(x y:D)(d:Hm)(r:D×Hm)(h:n5 c x y d=some r):pS c x y d=some r\/lY c x y d=some r:=by
 unfold n5 at h
 split at h
 ·rename_i z;rw [z];exact .inl h
 ·exact .inr h
theorem C7 {d:Bool}(x y:D)(l:Hm)(r:D×Hm)(h:cB d x y l=some r):(∃ i j,x=.str i/\y=.str j)\/n5 d x y l=some r:=by
 cases y with
 | loc a=>
  refine .inr ?_
  have e:cB d x (.loc a) l=(match l[a]? with
   | some (.dT g)=>(dC x).map fun k=>(D.bl (if d then !(b7 g k).isSome else (b7 g k).isSome),l)
   | _=>lY d x (.loc a) l):=by cases x<;>rfl
  rw [e] at h
  unfold n5
  simp only [pS]
  cases hc:l[a]? with
  | none=>rw [hc] at h;exact h
  | some c=>
   rw [hc] at h
   cases c with
   | dT g=>dsimp only at h ⊢;rw [h]
   | _=>exact h
 | str j=>
  cases x with
  | str i=>exact .inl ⟨i,j,rfl,rfl⟩
  | _=>exact .inr h
 | _=>cases x<;>exact .inr h
theorem C8 (x y:D)(c:Hm)(r:D×Hm)(h:cB false x y c=some r):vV x y c=some r\/n5 false x y c=some r:=by
 rcases C7 x y c r h with ⟨i,j,rfl,rfl⟩|z
 ·exact .inl h
 ·exact .inr z
theorem C9 (x y:D)(c:Hm)(r:D×Hm)(h:cB true x y c=some r):wI x y c=some r\/n5 true x y c=some r:=by
 rcases C7 x y c r h with ⟨i,j,rfl,rfl⟩|z
 ·exact .inl h
 ·exact .inr z
theorem Nb (g:Room k X.A)(c:QE X a ma)(d:QE X b mb)(h:d9 b=true):QE X (.Compare a [.In] [b] pos) (aB (cB false) ma mb):=
 nM ⟨eU AF BL c.h d.h (f7 h)⟩ (nM ⟨eU (C0 (eY g)) sE c.h d.h (f7 h)⟩ ⟨eU (Ca (rZ g)) rX c.h d.h (f7 h)⟩ (iI sG)) (iI C8)
theorem Nc (g:Room k X.A)(c:QE X a ma)(d:QE X b mb)(h:d9 b=true):QE X (.Compare a [.NotIn] [b] pos) (aB (cB true) ma mb):=
 nM ⟨eU A4 Cd c.h d.h (f7 h)⟩ (nM ⟨eU (C1 (eY g)) sE c.h d.h (f7 h)⟩ ⟨eU (Cb (rZ g)) rX c.h d.h (f7 h)⟩ (iI sG)) (iI C9)
theorem Nd (g:Room k X.A)(c:QE X a ma)(d:QE X b mb)(h:d9 b=true):QT X (.Compare a [.In] [b] pos) (aU (aB (cB false) ma mb)):=
 rV ⟨eV AF BL c.h d.h (f7 h)⟩ (rV ⟨eV (C0 (eY g)) sE c.h d.h (f7 h)⟩ ⟨eV (Ca (rZ g)) rX c.h d.h (f7 h)⟩ (rW (iI sG))) (rW (iI C8))
theorem Nf (g:Room k X.A)(c:QE X a ma)(d:QE X b mb)(h:d9 b=true):QT X (.Compare a [.NotIn] [b] pos) (aU (aB (cB true) ma mb)):=
 rV ⟨eV A4 Cd c.h d.h (f7 h)⟩ (rV ⟨eV (C1 (eY g)) sE c.h d.h (f7 h)⟩ ⟨eV (Cb (rZ g)) rX c.h d.h (f7 h)⟩ (rW (iI sG))) (rW (iI C9))
theorem Ng (j:Room k X.A)(g:QE X o mo)(d:QE X i mi)(c:QE X e me)(h:jE e=true):QS X (.Assign [.Subscript o i tpos] e pos) (dD mo mi me):=M3 j g d c h
end
end L3
namespace L3
open PySem L2
end L3
namespace L3
open PySem L2
section
variable {P:Tj}{w:TH}{A:Tv}{E:SK->SM->Prop}{s:SM}{a:Addr}
theorem Nh:a2m (.type "tuple") "keys" = pure none:=by rw [typeLookup_type,builtinLookup_eq_fast];kernel_rfl
theorem Ni {o:Vu}{xs:Array SK}{k:Nat}{Q:Option SK->SM->Prop}(g:s.heap.get? a=some o)(j:o.cls=.type "tuple") (l:o.data=.seq xs k)(m:o.dict=none)(y:A.handled=none)
  (q:∀ h n,(∀ b u,s.heap.get? b=some u->h.get? b=some u)->Q none { s with heap:=h,toks:=n }):Tn (Tr P w) A (getAttr? (.ref a) "keys") Q E s:=by
 obtain ⟨c,r,p,G⟩:=o
 dsimp only at j l m
 subst j l m
 obtain ⟨z,x,v,n,B⟩:=s
 have ty:∀ d,(⟨z,x,v,d,B⟩:SM).TypeIs (.ref a) "tuple":=fun _=>⟨_,g,rfl⟩
 have H:=sub_AttributeError
 have I:=F.slot_tuple_getattribute.lookup
 have K:=F.slot_tuple_getattribute.bind (.ref a)
 have L:=am_tuple_getattr_none
 unfold getAttr? getAttrBy? getAttrBy
 repeat (any_goals (first|assumption|exact ty _|((with_reducible show Tn _ _ (call (a2d "tuple.__getattribute__") _ _) _ _ _);refine a0q F.slot_tuple_getattribute (ty _) am_entry_tuple_getattribute (F.args_tuple_getattribute_2 _ _) (meets_getattribute_miss_tuple a xs k G "keys" _ Nh (by decide +kernel)) ⟨g,y,fun h d e ne=>?_⟩)|wp_step))
 obtain ⟨M,N,i⟩:=ne.there
 show Tn _ _ (a2p _ _ _ _ none false false) _ _ _
 unfold a2p
 repeat (any_goals (first|assumption|wp_step))
 exact q _ _ ne.of.keeps
end
theorem Dc:entryFor table "dict.update.loop" = some Builtin.«dict.update.loop»:=entryFor_of_tree (by kernel_rfl)
theorem sH:plainId "dict.update.loop" = true:=by decide +kernel
noncomputable def mG (ps:bD):List (Addr×List Int×Addr×V)->bD
 | []=>ps
 | r::L=>mG (dH ps r.2.1 r.2.2.1 r.2.2.2) L
section
variable {X:Cx}{a4b:List (Addr×Vu)}{σ:St}{A:Tv}{E:SK->SM->Prop}{d:Addr}
theorem Dd {H:Hp}{s:SM}{b:Addr}{k:List Int}{v:V}{u:SK}{ps:bD}{Q:Unit->SM->Prop}(z:A.units<UT)(I:Inv X a4b σ H s)(e:H d=some (aW d ps))(w:cC X.K H ps)(n:SqT X.K H b (k.map V.int))(hz:ps.length<S8)(K:RelV v u)
  (h:∀ i,Inv X a4b σ (aI H d (aW d (dH ps k b v))) i->(∀ c o,c≠d->s.heap.get? c=some o->i.heap.get? c=some o)->Q () i):Tn (Tr X.prog X.w) A (dictSet d (.ref b) u) Q E s:=by
 obtain ⟨y,N,L,r,j⟩:=fJ I (.of e) w
 have B:(bA ps L).length<=S8:=by
  have:=congrArg Ua (iN r)
  rw [SQ,SQ] at this
  omega
 refine wpAny_dictSet_heap (hsz:=B) (show (Va (V1 X.prog X.w)).room A from z) (kM I n) j fun m g a=>h _ ?_ fun c o hc e=>a.extBut c o hc e
 obtain ⟨M,G,l⟩:=CY r k b K
 rw [l] at g
 have p:∃ q,m.get? d=some q:=let ⟨q,_,_,x,_⟩:=g;⟨q,x⟩
 exact q8 I (by rw [e];exact Xh) a p (sD y (by have:=w4 ps k b v;omega) G g)
end
theorem pT {K:SJ}{H:Hp}{d b:Addr}{o:HO}{ps:bD}{vs:List V}(e:H d=some (aW d ps))(h:SqT K H b vs):SqT K (aI H d o) b vs:=by
 have ne:∀ {u},H b=some u->(∀ c,u≠aW d c)->b≠d:=fun z f y=>by
  rw [y,e] at z
  cases z
  exact f ps rfl
 rcases h with (h|⟨a,h⟩)|h
 ·exact .inl (.inl (by rw [bO (ne h fun _ z=>by cases z)];exact h))
 ·exact .inl (.inr ⟨a,by rw [bO (ne h fun _ z=>by cases z)];exact h⟩)
 ·exact .inr h
theorem Nj {K:SJ}{H:Hp}{ps:bD}{k:List Int}{b:Addr}{v:V}(h:cC K H ps)(g:SqT K H b (k.map V.int)):cC K H (dH ps k b v):=by
 intro p a
 unfold dH at a
 split at a
 ·obtain ⟨d,c,e⟩:=Ts.mp a
  by_cases z:d.1=k
  ·rw [if_pos z] at e
   subst e
   exact h d c
  ·rw [if_neg z] at e
   subst e
   exact h d c
 ·rcases Tf.mp a with a|a
  ·exact h p a
  ·rw [Tq.mp a]
   exact g
theorem De {H:Hp}{d:Addr}{o a:HO}:aI (aI H d o) d a=aI H d a:=by
 funext b
 unfold aI
 split
 ·rfl
 ·rfl
theorem Nk {P:Tj}{w:TH}{A:Tv}{E:SK->SM->Prop}{s:SM}{p:Addr}{xs:Array SK}{Q:List SK->SM->Prop}(h:a2L s.heap p xs)(q:Q xs.toList s):Tn (Tr P w) A (Ze (.ref p)) Q E s:=by
 obtain ⟨o,g,c,n,a⟩:=h
 have ty:s.TypeIs (.ref p) "tuple":=⟨o,g,c⟩
 unfold Ze
 refine SG (Zu ty ?_)
 rw [if_pos (by decide)]
 unfold seqItems?
 refine SG (SG (a0p g ?_))
 rw [a]
 exact SU (SU q)
section
variable {X:Cx}{a4b:List (Addr×Vu)}{σ:St}{A:Tv}{d t it:Addr}{ys:List V}{R:a1o->SM->Prop}
theorem Nl (hh:A.handled=none)(hu:A.in1.units<UT):∀ (L:List (Addr×List Int×Addr×V))(i:Nat)(ps:bD)(H:Hp)(s:SM),Inv X a4b σ H s->H d=some (aW d ps)->cC X.K H ps->SqT X.K H t ys->ys.drop i=L.map (fun r=>V.ref r.1)->
  (∀ r∈L,SqT X.K H r.1 [.ref r.2.2.1,r.2.2.2]/\SqT X.K H r.2.2.1 (r.2.1.map V.int))->gK X a4b H it->s.heap.IsTupleIter it t i->ps.length+L.length<=S8->
  (∀ G,Inv X a4b σ (aI H d (aW d (mG ps L))) G->R (.ok (.ret .none)) G)->Yg (Tr X.prog X.w) A (.builtin "dict.update.loop" ⟨[.ref d,.ref it,WU i,.none],[]⟩) R s:=by
 intro L
 induction L with
 | nil=>
  intro i ps H s I e Q y hd B O st U q
  obtain ⟨g,rv,p,Y⟩:=I.tuple y
  obtain ⟨j,m,f2,n,v,w⟩:=O
  have hl:=rv.length
  have hlen:ys.length<=i:=by
   have:=congrArg Ua hd
   simp at this
   omega
  refine W6 Dc ?_
  rw [VR sH _]
  show Tn _ A.in1 (Yi (.ref it) >>= _) _ _ s
  refine SG (a1e hh st (show s.heap.IsTuple t g.toArray from p) (by simp;omega) fun K eb=>?_)
  have l:Inv X a4b σ H { s with heap:=K }:=I.turned (t':=s.toks) (fun b o M e=>eb b o M e) j m n v w
  show Tn _ _ (a3K d [] >>= _) _ _ _
  refine SG (SU (SU (q _ ?_)))
  have:aI H d (aW d (mG ps []))=H:=by
   funext b
   unfold aI
   split
   ·rename_i z;rw [z];exact e.symm
   ·rfl
  rw [this]
  exact l
 | cons r L ih=>
  intro i ps H s I e Q y hd B O st U q
  obtain ⟨g,rv,p,Y⟩:=I.tuple y
  obtain ⟨j,m,f2,n,v,w⟩:=id O
  have E:ys[i]? = some (.ref r.1):=by
   have:=congrArg (·[0]?) hd
   simpa using this
  obtain ⟨u,eY,ru⟩:=rv.get E
  cases ru
  refine W6 Dc ?_
  rw [VR sH _]
  show Tn _ A.in1 (Yi (.ref it) >>= _) _ _ s
  refine SG (a0V st (show s.heap.IsTuple t g.toArray from p) (x:=.ref r.1) (by simpa using eY) fun K st' sb=>?_)
  have l:Inv X a4b σ H { s with heap:=K }:=I.turned (t':=s.toks) (fun b o M e=>(sb.2 b M).trans e) j m n v w
  have a:=B r (Td ..)
  obtain ⟨its2,rv2,p2,_⟩:=l.tuple a.1
  cases rv2 with
  | cons rk Z=>
   cases Z with
   | cons rw' Z=>
    cases Z
    cases rk
    rename_i w0
    refine SG (Uc (SG (wpAny_tryCatch (Nk p2 ?_))))
    have T:ps.length<S8:=by
     rw [Ti] at U
     omega
    refine Uc (Dd hu l e Q a.2 T rw' fun G I2 kp=>?_)
    refine SU ⟨XQ sH _,?_⟩
    have bH:it≠d:=fun z=>by
     rw [<- z,j] at e
     cases e
    have c:∀ x∈L,SqT X.K (aI H d (aW d (dH ps r.2.1 r.2.2.1 r.2.2.2))) x.1 [.ref x.2.2.1,x.2.2.2]/\SqT X.K (aI H d (aW d (dH ps r.2.1 r.2.2.1 r.2.2.2))) x.2.2.1 (x.2.1.map V.int):=fun x E=>
     ⟨pT e (B x (S3 _ E)).1,pT e (B x (S3 _ E)).2⟩
    have N:ys.drop (i+1)=L.map (fun r=>V.ref r.1):=by
     have:=congrArg List.tail hd
     simpa [List.tail_drop] using this
    refine ih (i+1) (dH ps r.2.1 r.2.2.1 r.2.2.2) _ G I2 cR (Nj (fun p hp=>pT e (Q p hp)) (pT e a.2)) (pT e y) N c ⟨by rw [bO bH];exact j,m,f2,n,v,w⟩ (st'.at fun o ho=>kp it o bH ho) ?_ fun s'' h=>q s'' ?_
    ·have:=w4 ps r.2.1 r.2.2.1 r.2.2.2
     rw [Ti] at U
     omega
    ·rw [De] at h
     exact h
end
section
variable {X:Cx}
noncomputable def Df (K:SJ):List V->Hp->VK->Prop:=fun xs H Q=>∃ (t:Addr)(L:List (Addr×List Int×Addr×V)),xs=[V.ref t]/\SqT K H t (L.map fun r=>V.ref r.1) /\
 (∀ r∈L,SqT K H r.1 [.ref r.2.2.1,r.2.2.2]/\SqT K H r.2.2.1 (r.2.1.map V.int))/\∀ d,H d=none->Q (.ref d) (aI H d (aW d (mG [] L)))
theorem Nm (hc:X.calm=true)(Y:X.A.units+64<UT):CallR X (.type "dict") (Df X.K):=by
 intro d s N H xs us Q I r h
 obtain ⟨t,L,rfl,v,M,k⟩:=h
 obtain ⟨u,rfl,ru⟩:=fU r
 cases ru
 have K:H s.heap.objs.size=none:=I.hok.fresh (SX _)
 refine a0r (Q₁:=fun i c=>i=.ref s.heap.objs.size/\c = { s with heap:=s.heap.push { cls:=.type "dict",data:=.dict #[] } }) F.kt_called_dict (F.kt_typeCall_dict_1 _) F.entry_dict_init (a2Q _ ⟨rfl,rfl⟩) ?_
 rintro i c ⟨rfl,rfl⟩
 have B:Inv X d N (aI H s.heap.objs.size (aW s.heap.objs.size [])) { s with heap:=s.heap.push { cls:=.type "dict",data:=.dict #[] } }:=I.laid (a:=s.heap.objs.size) (o:=aW s.heap.objs.size []) (t':=s.toks) (fun _ _ q=>SR _ q) (SX _) (w5 s.heap I.big)
 have ty:({ s with heap:=s.heap.push { cls:=.type "dict",data:=.dict #[] } }:SM).TypeIs (.ref s.heap.objs.size) "dict":=⟨_,Te _ rfl,rfl⟩
 refine ⟨ty,F.args_dict_init_2 _ _,?_⟩
 unfold Builtin.«dict.__init__»
 refine SG ?_
 unfold YZ
 refine SG (U9 ty ?_)
 show Tn _ _ (pure (s.heap.objs.size,[S2 t])) _ _ _
 refine SU ?_
 show Tn _ _ (WA "dict.__init__" s.heap.objs.size (.ref t) [] .none) _ _ _
 unfold WA
 have mono:∀ {b:Addr}{vs:List V},SqT X.K H b vs->SqT X.K (aI H s.heap.objs.size (aW s.heap.objs.size [])) b vs:=fun {b vs} z=>by
  have ne:H b≠none->b≠s.heap.objs.size:=fun f y=>by rw [y] at f;exact f K
  rcases z with (z|⟨x,z⟩)|z
  ·exact .inl (.inl (by rw [bO (ne (by rw [z];exact fun y=>nomatch y))];exact z))
  ·exact .inl (.inr ⟨x,by rw [bO (ne (by rw [z];exact fun y=>nomatch y))];exact z⟩)
  ·exact .inr z
 obtain ⟨Z,rv,x,E,G,n,R,T⟩:=B.tupN (mono v)
 refine SG (Zu ⟨x,E,G⟩ ?_)
 rw [if_pos (by decide)]
 refine SG (Ni E G R T (I.ok.hd hc) fun m l kp=>?_)
 have j:Inv X d N (aI H s.heap.objs.size (aW s.heap.objs.size [])) { s with heap:=m,toks:=l }:=B.kept (t':=l) kp
 show Tn _ _ (rule _ >>= _) _ _ _
 refine SG (WI ?_)
 obtain ⟨a,rv',p',w⟩:=j.tuple (mono v)
 refine SG (a2j (t:=t) (items:=a.toArray) (show ({ s with heap:=m,toks:=l }:SM).heap.IsTuple t a.toArray from p') ?_)
 have O:=j.kept (t':=l) (h':=m.push { cls:=.type "tuple_iterator",data:=.fields #[.ref t,.int 0 0] }) fun b o e=>SR _ e
 refine SU ⟨XQ sH _,?_⟩
 refine Nl (A:=X.A.in1) (I.ok.hd hc) ?_ L 0 [] _ _ O cR (fun p U=>nomatch U) (mono v) rfl (fun r g=>⟨mono (M r g).1,mono (M r g).2⟩) (j.fpOk (SX _) (j.hok.fresh (SX _))) ⟨_,Te _ rfl,rfl,rfl⟩ ?_ fun s' A=>?_
 ·show X.A.units+1+1<UT
  omega
 ·have:=w
  simp at this ⊢
  exact this
 ·rw [De] at A
  exact ⟨rfl,.ref s.heap.objs.size,_,A,rfl,k _ K⟩
end
noncomputable def n8:List D->Option (List (List Int×D))
 | []=>some []
 | .tup [x,v]::r=>(dC x).bind fun k=>(n8 r).map fun l=>(k,v)::l
 | _::_=>none
noncomputable def mH:MF:=fun ds a=>match ds with
 | [.tup xs]=>(n8 xs).map fun l=>(.loc a.length,a++[.dT (l.foldl (fun q p=>cZ q p.1 p.2) [])])
 | _=>none
section
variable {K:SJ}{π:Nat->Addr}{n:Nat}{H:Hp}
noncomputable abbrev Dg (K:SJ)(π:Nat->Addr)(n:Nat)(H:Hp):List (Addr×List Int×Addr×V)->List (List Int×D)->Prop:=
 V6 fun r p=>r.2.1=p.1/\SqT K H r.1 [.ref r.2.2.1,r.2.2.2]/\SqT K H r.2.2.1 (r.2.1.map V.int)/\IsD K π n H r.2.2.2 p.2
theorem Dh:∀ {xs:List D}{ws:List V}{l:List (List Int×D)},IsDs K π n H ws xs->n8 xs=some l->∃ L,ws=L.map (fun r=>V.ref r.1)/\Dg K π n H L l
 | [],_,_,.nil,h=>by cases h;exact ⟨[],rfl,.nil⟩
 | x::xs,_,l,.cons i t,h=>by
  unfold n8 at h
  split at h
  ·rename_i a;cases a
  ·rename_i y v r a
   cases a
   obtain ⟨k,d,h⟩:=SF.mp h
   obtain ⟨m,e,rfl⟩:=SS.mp h
   obtain ⟨L,rfl,P⟩:=Dh t e
   cases i with
   | tup q z=>
    cases z with
    | cons g z=>
     cases z with
     | cons j z=>
      cases z
      obtain ⟨b,rfl,c⟩:=nZ g d
      exact ⟨(_,k,b,_)::L,rfl,.cons ⟨rfl,q,c,j⟩ P⟩
  ·cases h
theorem Di:∀ {L:List (Addr×List Int×Addr×V)}{l:List (List Int×D)},Dg K π n H L l->∀ {ps:bD}{kvs:List (List Int×D)},IsTs K π n H ps kvs->IsTs K π n H (mG ps L) (l.foldl (fun q p=>cZ q p.1 p.2) kvs)
 | _,_,.nil,_,_,h=>h
 | r::L,p::l,.cons e t,ps,kvs,h=>by
  obtain ⟨a,_,b,c⟩:=e
  show IsTs K π n H (mG (dH ps r.2.1 r.2.2.1 r.2.2.2) L) (l.foldl _ (cZ kvs p.1 p.2))
  rw [<- a]
  exact Di t (h.put r.2.1 b c)
end
theorem Nn {K:SJ}:dW K mH (Df K):=by
 intro w H v n d o u Q R i a k
 unfold mH at a
 split at a
 ·rename_i n
  obtain ⟨l,c,j⟩:=SS.mp a
  cases j
  cases i with
  | cons i t=>
   cases t
   cases i with
   | tup q z=>
    obtain ⟨L,rfl,P⟩:=Dh z c
    refine ⟨_,L,rfl,q,?_,fun d hd=>?_⟩
    ·clear q z k a c
     induction P with
     | nil=>exact fun r b=>nomatch b
     | cons e t m=>
      intro r b
      rcases To.mp b with rfl|b
      ·exact ⟨e.2.1,e.2.2.1⟩
      ·exact m r b
    ·have T:=Di P (ps:=[]) (kvs:=[]) .nil
     obtain ⟨h,g,s⟩:=R.alloc (c:=.dT (l.foldl (fun q p=>cZ q p.1 p.2) [])) (o:=aW d (mG [] L)) hd ⟨_,rfl,T.to.1,T.to.2.1,T.to.2.2⟩
     exact k _ _ _ h g fY
 ·cases a
end L3
namespace L3
open PySem L2
noncomputable def ItI (h:Uj)(c d S:Addr)(i n ep:Nat):Prop:=∃ (b ok g:SK)(e:Bool),h.get? c=some { cls:=.type "dict_itemiterator",dict:=none,data:=.fields #[b,.bool e,.ref d,.int i 0,.int n 0,.int ep 0,ok,g],slots:=#[] } /\
 (b=.none\/∃ (a:Addr)(o:Vu),b=WU a/\h.get? a=some o/\a≠c/\a≠S)
theorem ItI.ty {s:SM}{a d S:Addr} {i n ep} (j:ItI s.heap a d S i n ep):s.TypeIs (.ref a) "dict_itemiterator":=let ⟨_,_,_,_,e,_⟩:=j;⟨_,e,rfl⟩
theorem ItI.stay {h h':Uj}{c d S:Addr} {i n ep} (j:ItI h c d S i n ep)(m:c≠S)(k:∀ b o,b≠S->h.get? b=some o->h'.get? b=some o):ItI h' c d S i n ep:=by
 obtain ⟨v,ok,p,l,e,r⟩:=j
 refine ⟨v,ok,p,l,k _ _ m e,?_⟩
 rcases r with r|⟨a,o,q,s,u,g⟩
 ·exact .inl r
 ·exact .inr ⟨a,o,q,k _ _ g s,u,g⟩
section
variable {P:Tj}{w:TH}{A:Tv}{E:SK->SM->Prop}{s:SM}{d it S:Addr}{i ep:Nat}{es:Array T6}
theorem Dj {Q:Option SK->SM->Prop}(hh:A.handled=none)(j:ItI s.heap it d S i es.size ep)(g:RawD s.heap d es ep)(hS:S<s.heap.objs.size)
  (q1:∀ e m,es[i]? = some e->ItI m it d S (i+1) es.size ep->m.get? s.heap.objs.size=some { cls:=.type "tuple",data:=.seq #[e.key,e.val] }->m.objs.size=s.heap.objs.size+1->(∀ b o,b≠it->s.heap.get? b=some o->m.get? b=some o)->Q (some (.ref s.heap.objs.size)) { s with heap:=m })
  (q2:es[i]? = none->∀ m,Zk it s.heap m->Q none { s with heap:=m }):Tn (Tr P w) A (Yi (.ref it)) Q E s:=by
 obtain ⟨z,g1,g2,g3⟩:=id g
 have ty:=j.ty
 obtain ⟨h,y,r,G,B⟩:=s
 obtain ⟨wn,ok,N,T,M,jr⟩:=j
 have X:∀ {Q:String->SM->Prop}{A:Tv}{E:SK->SM->Prop},Q "dict_itemiterator" ⟨h,y,r,G,B⟩->Tn (Tr P w) A (a3i (.ref it)) Q E ⟨h,y,r,G,B⟩:=fun q=>wpAny_typeNameOfWhole_itemiter ty q
 unfold Yi
 refine SG (a0I (a0W (name:=Yj "__next__") ty F.slot_dict_itemiterator_next (UG F.slot_dict_itemiterator_next ty F.entry_dict_itemiterator_next ?_ (F.args_dict_itemiterator_next_1 _))))
 refine SG (SU (SG (SG (SG (X (SU (SG (a3M M rfl ?_))))))))
 simp only [show VQ "dict_itemiterator" = true by decide,if_true]
 show Tn _ _ (if (S2 d == UK)=true then _ else _) _ _ _
 rw [if_neg (show ¬ (S2 d == UK)=true from fun x=>TC x)]
 refine SG (SU (SG (Ud g1 g3 ?_)))
 rw [if_neg (fun x=>by simp at x)]
 refine SG (SU (SG (VZ g1 g3 ?_)))
 rw [if_neg (fun x=>by simp at x)]
 refine SU ?_
 simp only [if_neg (show ¬ ((i:Int)<0) by omega),UE]
 have U:it<h.objs.size:=S6 M
 cases he:es[i]? with
 | some e=>
  refine SG (SG (X (SU (SG (Yw ty ?_)))))
  show Tn _ _ (a1N (.ref it) 3 (WU ((i:Int)+1)) >>= _) _ _ _
  refine SG (Wq M (by simp) fun u O R=>?_)
  replace R:WB it h u:=R
  replace O:u.get? it=some { cls:=.type "dict_itemiterator",dict:=none,data:=.fields #[wn,.bool T,.ref d,.int ((i+1:Nat):Int) 0,.int es.size 0,.int ep 0,ok,N],slots:=#[] }:=by
   rw [show ((i+1:Nat):Int)=(i:Int)+1 by omega]
   simpa [WU] using O
  have H:Shared.TypeIs ⟨u,y,r,G,B⟩ (.ref it) "dict_itemiterator":=⟨_,O,rfl⟩
  refine SG (Uc (SG (Yw H (SG (Yw H ?_)))))
  show Tn _ _ (X9 (.ref it) 6 e.key e.val) _ _ _
  unfold X9
  refine SG (a0o ?_)
  have zu:u.objs.size=h.objs.size:=R.1
  have l:=SR { cls:=.type "tuple",data:=.seq #[e.key,e.val] } O
  have vt:(u.push { cls:=.type "tuple",data:=.seq #[e.key,e.val] }).get? h.objs.size=some { cls:=.type "tuple",data:=.seq #[e.key,e.val] }:=zu ▸ Te u rfl
  have vz:(u.push { cls:=.type "tuple",data:=.seq #[e.key,e.val] }).objs.size=h.objs.size+1:=by rw [XZ,zu]
  have I:∀ b o,b≠it->h.get? b=some o->(u.push { cls:=.type "tuple",data:=.seq #[e.key,e.val] }).get? b=some o:=fun b o L x=>SR _ (R.extBut b o L x)
  show Tn _ _ (X3 (.ref it) >>= _) _ _ ⟨u.push { cls:=.type "tuple",data:=.seq #[e.key,e.val] },y,r,G,B⟩
  rw [zu]
  generalize u.push { cls:=.type "tuple",data:=.seq #[e.key,e.val] } = v at l vt vz I
  have c:h.objs.size≠it:=Vr U
  have fin:∀ p:Uj,ItI p it d S (i+1) es.size ep->WB it v p->Q (some (.ref h.objs.size)) ⟨p,y,r,G,B⟩:=fun p j' Z=>
   q1 e p he j' (Z.extBut _ _ c vt) (by show p.objs.size=_;rw [Z.1,vz]) fun b o L x=>Z.extBut b o L (I b o L x)
  refine SG ?_
  unfold X3
  rcases jr with rfl|⟨a,o,rfl,Y,n,r4⟩
  ·refine SG (XT l rfl (x:=.none) rfl (SU ?_))
   simp only [if_true]
   refine SG (XT l rfl (x:=ok) rfl (SG (XT l rfl (x:=N) rfl ?_)))
   refine SG (Wq l (by simp) fun v3 x3 K=>SG (Wq x3 (by simp) fun v4 x4 y4=>SG (Wq x4 (by simp) fun v5 x5 y5=>SG (Wq x5 (by simp) fun v6 x6 y6=>?_))))
   refine SG (a1M (SU (SU ⟨_,rfl,SU (fin v6 ?_ ?_)⟩)))
   ·refine ⟨WU h.objs.size,e.key,e.val,false,by simpa using x6,.inr ⟨h.objs.size,_,rfl,y6.extBut _ _ c (y5.extBut _ _ c (y4.extBut _ _ c (K.extBut _ _ c vt))),c,Vr hS⟩⟩
   ·exact ((K.trans y4).trans y5).trans y6
  ·refine SG (XT l rfl (x:=WU a) rfl ?_)
   show Tn _ _ (loadIfAlive ((a:Int).toNat) >>= _) _ _ _
   rw [UE]
   refine SG (PySem.W.kdx_alive (I a o n Y) ?_)
   simp only [Option.isNone_some,S9,if_false]
   refine SG (XT l rfl (x:=.bool T) rfl ?_)
   cases T with
   | true=>
    rw [if_neg (show ¬ ((Xe true != Xe true)=true) from fun x=>TC x)]
    refine SU ?_
    simp only [S9,if_false]
    exact SU (SU ⟨_,rfl,SU (fin v ⟨_,ok,N,true,l,.inr ⟨a,o,rfl,I a o n Y,n,r4⟩⟩ (Z4 _ _))⟩)
   | false=>
    rw [if_pos (show (Xe false != Xe true)=true from rfl)]
    refine SG (Wq l (by simp) fun v3 x3 K=>SU ?_)
    simp only [S9,if_false]
    exact SU (SU ⟨_,rfl,SU (fin v3 ⟨_,ok,N,true,by simpa using x3,.inr ⟨a,o,rfl,K.extBut a o n (I a o n Y),n,r4⟩⟩ K)⟩)
 | none=>
  refine SG (SG (X (SU ?_)))
  show Tn _ _ (a1N (.ref it) 2 .none >>= _) _ _ _
  refine SG (a0n M rfl (by simp) ?_)
  show Tn _ _ (a3Q (.type "StopIteration") [] >>= _) _ _ _
  simp only [a3Q,newTuple]
  refine SG (SG (UR ?_ (by size_fits)))
  refine SG (m:=YR _ _) (wpAny_of_eq (a:=UK) (by first|rfl|(simp only [YR];rfl)) (UR ?_ (by size_fits)))
  simp only [raiseNew]
  refine SG (wpAny_handled ?_)
  rw [show A.in1.handled=none from hh]
  refine SG (SU (wpAny_throw ?thrown))
  case thrown=>exact SG (XI (T:="StopIteration") (b:=true) ⟨_,Te _ rfl,rfl⟩ a3U (SU (q2 he _ (((Wn ..).extBut.push _).push _))))
theorem Np {r:Addr}{Q:SK->SM->Prop}(a:s.heap.IsItemsView r d)(g:RawD s.heap d es ep)
  (q:Q (.ref s.heap.objs.size) { s with heap:=s.heap.push { cls:=.type "dict_itemiterator",data:=.fields #[.none,.bool false,.ref d,.int 0 0,.int es.size 0,.int ep 0,.none,.none] } }):Tn (Tr P w) A (ZX (.ref r)) Q E s:=by
 obtain ⟨y,e,l,h⟩:=id a
 obtain ⟨z,b,j,c⟩:=id g
 refine Zv a.typeIs F.slot_dict_items_iter (UG F.slot_dict_items_iter a.typeIs F.entry_dict_items_iter ?_ (F.args_dict_items_iter_1 _))
 unfold Builtin.«dict_items.__iter__» Ys Ye
 refine SG (SU (SG (SG (XT e h (x:=.ref d) rfl (SU (SG (SG (Ud b c (SG (VZ b c ?_))))))))))
 simp only [show VQ "dict_itemiterator" = true by decide,if_true]
 refine UR (SU ⟨_,rfl,"dict_itemiterator",_,⟨_,Te _ rfl,rfl⟩,F.slot_dict_itemiterator_next.lookup,?_⟩) (by simp only [sizeOk,X4,SW,SV,Ti,UO];rw [T3];omega)
 simpa [WU,X4] using q
end
structure PrsAt (es:Array T6)(lo:Addr)(h:Uj)(as:List Addr):Prop where
 up:as.Pairwise (·<·)
 over:∀ a∈as,lo<a
 prs:∀ (j:Nat)(a:Addr),as[j]? = some a->∃ e,es[j]? = some e/\h.get? a=some { cls:=.type "tuple",data:=.seq #[e.key,e.val] }
theorem PrsAt.stay {es:Array T6}{lo:Addr}{h h':Uj}{as:List Addr}(p:PrsAt es lo h as)(k:∀ b o,lo<b->h.get? b=some o->h'.get? b=some o):PrsAt es lo h' as:=
 ⟨p.up,p.over,fun j a c=>let ⟨e,d,g⟩:=p.prs j a c;⟨e,d,k a _ (p.over a (Th c)) g⟩⟩
theorem PrsAt.lt {es:Array T6}{lo:Addr}{h:Uj}{as:List Addr}(p:PrsAt es lo h as){a:Addr}(b:a∈as):a<h.objs.size:=by
 obtain ⟨j,c⟩:=VJ.mp b
 obtain ⟨_,_,e⟩:=p.prs j a c
 exact S6 e
theorem PrsAt.snoc {es:Array T6}{lo:Addr}{h:Uj}{as:List Addr}{b:Addr}{e:T6}(p:PrsAt es lo h as)(l:∀ a∈as,a<b)(n:lo<b)(m:es[as.length]? = some e)(o:h.get? b=some { cls:=.type "tuple",data:=.seq #[e.key,e.val] }):PrsAt es lo h (as++[b]):=by
 refine ⟨UI.mpr ⟨p.up,a0j _ _,fun a d c hc=>by rw [Tq.mp hc];exact l a d⟩,fun a d=>?_,fun j a g=>?_⟩
 ·rcases Tf.mp d with d|d
  ·exact p.over a d
  ·rw [Tq.mp d];exact n
 ·rcases Xb j as.length with i|i|i
  ·rw [S7 i] at g
   exact p.prs j a g
  ·subst i
   have:b=a:=by simpa using g
   subst this
   exact ⟨e,m,o⟩
  ·rw [Ue (by simp;omega)] at g
   cases g
section
variable {P:Tj}{w:TH}{A:Tv}{s:SM}{R:a1o->SM->Prop}{es:Array T6}{ep:Nat}{S I d:Addr}
theorem Nq (T:A.handled=none)(y:S<I)(L:d≠S)(K:d≠I)(hn:es.size<=S8)(res:SK){h1:Uj}
  (U:∀ (h':Uj)(tk:Nat)(l:Array SK)(c:Nat)(as:List Addr),(∀ b o,b≠S->b≠I->h1.get? b=some o->h'.get? b=some o)->h'.get? S=some { cls:=.type "list",dict:=none,data:=.seq l c,slots:=#[] }->as.length=es.size->PrsAt es I h' as->l.toList=as.map S2->R (.ok (.ret res)) { s with heap:=h',toks:=tk }) :
  ∀ (k i:Nat)(h:Uj)(tk c:Nat)(l:Array SK)(as:List Addr),es.size - i=k->i<=es.size->ItI h I d S i es.size ep->RawD h d es ep->(∀ b o,b≠S->b≠I->h1.get? b=some o->h.get? b=some o)->h.get? S=some { cls:=.type "list",dict:=none,data:=.seq l c,slots:=#[] }->
   l.toList=as.map S2->as.length=i->PrsAt es I h as->I<h.objs.size->Yg (Tr P w) A (.builtin "list.extend.loop" ⟨[.ref S,.ref I,res],[]⟩) R { s with heap:=h,toks:=tk }:=by
 have ne:S≠I:=Tp y
 intro k
 induction k with
 | zero=>
  intro i h tk c l as Y X j g O p G B H lt
  refine W6 F.entry_extend_loop ?_
  rw [VR F.plain_extend_loop _]
  refine SG (m:=Yi (.ref I)) (Dj (s:={ s with heap:=h,toks:=tk }) (A:=A.in1) T j g (S6 p) (fun e h' n=>?_) fun _ h' x=>SU (U h' tk l c as (fun b o E u z=>x b o u (O b o E u z)) (x S _ ne p) (by omega) (H.stay fun b o q z=>x b o (Vr q) z) G))
  rw [W4 (by omega)] at n
  cases n
 | succ k ih=>
  intro i h tk c l as Y X j g O p G B H lt
  have sz:l.size=i:=by rw [<- VC,G,SQ,B]
  refine W6 F.entry_extend_loop ?_
  rw [VR F.plain_extend_loop _]
  refine SG (m:=Yi (.ref I)) (Dj (s:={ s with heap:=h,toks:=tk }) (A:=A.in1) T j g (S6 p) (fun e h' n j' N Z m=>?_) fun n=>?_)
  ·dsimp only at N Z m ⊢
   have v:=m S _ ne p
   have Q:S<h.objs.size:=S6 p
   have r:∀ b o,b≠S->h'.get? b=some o->(h'.update S (UD (·.push (S2 h.objs.size)))).get? b=some o:=fun b o q z=>(UX _ _ (UM q)).trans z
   refine SG (m:=a2O S (·.push (S2 h.objs.size))) (YA v rfl (SU ⟨XQ F.plain_extend_loop _,?_⟩) (by rw [sz];omega) (by show (l.push (S2 h.objs.size)).size<=S8+1;rw [Array.size_push,sz];omega))
   refine ih (i+1) _ tk _ (l.push (S2 h.objs.size)) (as++[h.objs.size]) (by omega) (by omega) (j'.stay (UM ne) r) (g.stay fun o z=>r d o L (m d o K z)) (fun b o E u z=>r b o E (m b o u (O b o E u z))) (Vm _ v rfl) (by rw [U1,G,UN];rfl) (by rw [SV,B];rfl) ?_ ?_
   ·exact ((H.stay fun b o q z=>r b o (Vr (WE y q)) (m b o (Vr q) z))).snoc (fun a M=>H.lt M) lt (by rw [B];exact n) (r _ _ (Vr Q) N)
   ·exact WE lt (S6 (r _ _ (Vr Q) N))
  ·rw [ZV (by omega)] at n
   cases n
theorem Dk {r:Addr}{res:SK}{c0:Nat}(K:A.handled=none)(q:s.heap.IsItemsView r d)(g:RawD s.heap d es ep)(Sr:S≠r)(y:d≠S)(B:s.heap.get? S=some { cls:=.type "list",data:=.seq #[] c0 }) (M:es.size<=S8)
  (G:∀ (h':Uj)(tk:Nat)(l:Array SK)(c:Nat)(as:List Addr),(∀ b o,b≠S->s.heap.get? b=some o->h'.get? b=some o)->h'.get? S=some { cls:=.type "list",dict:=none,data:=.seq l c,slots:=#[] }->as.length=es.size->PrsAt es s.heap.objs.size h' as->l.toList=as.map S2->R (.ok (.ret res)) { s with heap:=h',toks:=tk }) :
  Tn (Tr P w) A.in1 (V7 (.ref S) (.ref r) res) (fun fin p=>match fin with|.done f=>R (.ok f) p|.again c'=>c'.quiet=true/\Yg (Tr P w) A c' R p) (fun e p=>R (.error e) p) s:=by
 have x:S<s.heap.objs.size:=S6 B
 have E:d<s.heap.objs.size:=g.lt
 have run:∀ (h:Uj)(c1 tk:Nat),(∀ b o,b≠S->(s.heap.push { cls:=.type "dict_itemiterator",data:=.fields #[.none,.bool false,.ref d,.int 0 0,.int es.size 0,.int ep 0,.none,.none] }).get? b=some o->h.get? b=some o)->h.get? S=some { cls:=.type "list",data:=.seq #[] c1 }->
   Yg (Tr P w) A (.builtin "list.extend.loop" ⟨[.ref S,.ref s.heap.objs.size,res],[]⟩) R { s with heap:=h,toks:=tk }:=by
  intro h c1 tk u i
  have z:=u s.heap.objs.size _ (Vr x) (Te _ rfl)
  exact Nq (s:=s) (h1:=s.heap) (ep:=ep) K x y (Tp E) M res (fun h' v l c as O Q T U X=>G h' v l c as (fun b o m e=>O b o m (Tp (S6 e)) e) Q T U X) es.size 0 h tk c1 #[] [] (Y6 _) (Um _)
   ⟨.none,.none,.none,false,z,.inl rfl⟩ (g.stay fun o e=>u d o y (SR _ e)) (fun b o m _ e=>u b o m (SR _ e)) i rfl rfl ⟨Ym,fun _ H=>(by cases H),fun j a L=>(by simp at L)⟩ (S6 z)
 unfold V7
 refine SG (Zu (T:="dict_items") q.typeIs ?_)
 simp only [show YY (.ref S) (.ref r)=false by simp [YY,Sr],show (WL "dict_items" == WL "list")=false by decide,show (WL "dict_items" == WL "tuple")=false by decide,a2x,S9,if_false]
 refine SG (Np q g ?_)
 have i:=SR { cls:=.type "dict_itemiterator",data:=.fields #[.none,.bool false,.ref d,.int 0 0,.int es.size 0,.int ep 0,.none,.none] } B
 refine SG (Uc (PySem.W.kdx_hint (let ⟨o,N,hc,_⟩:=q;⟨o,SR _ N,hc⟩) ?_))
 refine wpAny_ite_split (fun _=>?_) (fun _=>SU ⟨XQ F.plain_extend_loop _,run _ c0 _ (fun b o _ e=>e) i⟩)
 refine SG (WI (SG ?_))
 refine SG (m:=a2O S (·.push .none)) (YA i rfl ?_)
 have n:=Vm (UD (·.push UK)) i rfl
 refine YA (hz:=by seq_fits) n rfl (SU ⟨XQ F.plain_extend_loop _,run _ _ _ (fun b o m e=>?_) (Vm (UD (·.pop)) n rfl)⟩)
 exact (UX _ _ (UM m)).trans ((UX _ _ (UM m)).trans e)
theorem Nr {r:Addr}{E:SK->SM->Prop}{T:List SK->SM->Prop}(H:A.handled=none)(v:s.heap.IsItemsView r d)(g:RawD s.heap d es ep)(K:es.size<=S8)
  (q:∀ (h':Uj)(tk:Nat)(as:List Addr),(∀ b o,s.heap.get? b=some o->h'.get? b=some o)->as.length=es.size->PrsAt es s.heap.objs.size h' as->s.heap.objs.size<=h'.objs.size->T (as.map S2) { s with heap:=h',toks:=tk }):Tn (Tr P w) A (collect (.ref r)) T E s:=by
 have L:r<s.heap.objs.size:=let ⟨_,p,_⟩:=v;S6 p
 unfold collect
 refine SG (wpAny_runValue (W6 a3v ?_))
 rw [VR F.plain_proto_collect _]
 refine SG (m:=newList []) (UR (SU ⟨XQ F.plain_list_iadd _,W6 a3w ?_⟩))
 rw [VR F.plain_list_iadd _]
 have B:(s.heap.push { cls:=.type "list",data:=.seq ([]:List SK).toArray }).get? s.heap.objs.size=some { cls:=.type "list",data:=.seq #[] }:=Te _ rfl
 have all:=Dk (A:=A) (s:={ s with heap:=s.heap.push { cls:=.type "list",data:=.seq ([]:List SK).toArray } }) (P:=P) (w:=w) (es:=es) (ep:=ep) (res:=.ref s.heap.objs.size) (c0:=0)
  (R:=fun (q:a1o)(u:SM)=>∃ (h':Uj)(tk:Nat)(h:Array SK)(c:Nat)(as:List Addr),q=.ok (.ret (.ref s.heap.objs.size))/\u = { s with heap:=h',toks:=tk }/\(∀ b o,s.heap.get? b=some o->h'.get? b=some o)/\h'.get? s.heap.objs.size=some { cls:=.type "list",dict:=none,data:=.seq h c,slots:=#[] }/\as.length=es.size/\PrsAt es s.heap.objs.size h' as/\h.toList=as.map S2)
  H (let ⟨o,p,x⟩:=v;⟨o,SR _ p,x⟩) (g.stay fun o e=>SR _ e) (Vr L) (Tp g.lt) B K
  (fun h' tk h c as l i m j n=>⟨h',tk,h,c,as,rfl,rfl,fun b o e=>l b o (Tp (S6 e)) (SR _ e),i,m,⟨j.up,fun a G=>WE (XA _) (by have:=j.over a G;rw [XZ] at this;exact this),j.prs⟩,n⟩)
 refine T7 all (fun fin u x=>?_) fun e u x=>?_
 ·cases fin with
  | done f=>
   obtain ⟨h',tk,h,c,as,e,rfl,l,i,m,j,n⟩:=x
   cases e
   refine SG (m:=load s.heap.objs.size) (a0p i (SU ?_))
   show T h.toList _
   rw [n]
   exact q h' tk as l m j (Xc (S6 i))
  | again c1=>
   refine ⟨x.1,Zy x.2 fun y M x=>?_⟩
   obtain ⟨h',tk,h,c,as,rfl,rfl,l,i,m,j,n⟩:=x
   refine SG (m:=load s.heap.objs.size) (a0p i (SU ?_))
   show T h.toList _
   rw [n]
   exact q h' tk as l m j (Xc (S6 i))
 ·obtain ⟨_,_,_,_,_,z,_⟩:=x
  cases z
end
end L3
namespace L3
open PySem L2 PySem.W PyProof.Rows
section
variable {P:Tj}{w:TH}{A:Tv}{E:SK->SM->Prop}{s:SM}
theorem Nt {v:SK}{Q:Bool->SM->Prop}(q:Q true s):Tn (Tr P w) A (eqBool v v) Q E s:=by
 unfold eqBool
 refine Uc ?_
 rw [if_pos (by simp)]
 exact SG (WI (SU q))
theorem Dl:∀ k:List Int,HT.lexLt k k=false
 | []=>rfl
 | a::k=>by simp [HT.lexLt,Dl k]
noncomputable def sI (P:Tj)(w:TH)(h:Uj)(b:Addr)(k:List Int):Prop:=Tb.IsT P w h k b/\∃ xs:List SK,a2L h b xs.toArray/\Wr xs k
theorem Nu {a a' b b':Addr}{v i:SK}{k k':List Int}{C:Bool->SM->Prop}(h:A.units<UT)(j:s.heap.get? a=some { cls:=.type "tuple",data:=.seq #[.ref b,v] }) (d:s.heap.get? a'=some { cls:=.type "tuple",data:=.seq #[.ref b',i] })
  (g:sI P w s.heap b k)(c:sI P w s.heap b' k')(l:k=k'->v=i)(q:C (HT.lexLt k k') s):Tn (Tr P w) A (a3S (tuples' false) (.ref a) (.ref a')) C (fun _ _=>False) s:=by
 refine kat_lt j rfl d rfl ?_
 refine kat_cons ((Va (V1 P w)).eqBool h g.1 c.1 ?_)
 by_cases e:k=k'
 ·obtain rfl:=l e
  subst e
  rw [decide_eq_true rfl]
  refine kat_yes (kat_cons (Nt (kat_yes (kat_nil ?_))))
  rw [Dl] at q
  exact q
 ·rw [decide_eq_false e]
  obtain ⟨r,o,m⟩:=g.2
  obtain ⟨u,p,n⟩:=c.2
  refine kat_no (kat_one _ _ (HT.lt_tupInts o p (by simpa using m) (by simpa using n) h ?_))
  exact q
noncomputable def kP (P:Tj)(w:TH)(A:Tv)(us:List SK)(an:Nat->Nat->Bool)(s:SM):Prop:=
 Tn (Tr P w) A (keyKind' us.toArray) (fun b a=>a=s/\∀ (i j:Nat)(C:Bool->SM->Prop),i<us.length->j<us.length->C (an i j) s->Tn (Tr P w) A (a3S b (us.getD i .none) (us.getD j .none)) C (fun _ _=>False) s) (fun _ _=>False) s
theorem Nv {es:Array T6}{lo:Addr}{as bs:List Addr}{ks:List (List Int)}(hu:A.units<UT)(p:PrsAt es lo s.heap as)(h0:0<as.length)(hl:as.length=es.size)(hk:ks.length=es.size)(hbl:bs.length=es.size)(key:∀ (j:Nat)(e:T6),es[j]? = some e->e.key=.ref (bs.getD j 0)/\sI P w s.heap (bs.getD j 0) (ks.getD j []))
  (N:ks.Nodup):kP P w A (as.map S2) (fun i j=>HT.lexLt (ks.getD i []) (ks.getD j [])) s:=by
 have g:∀ i,i<as.length->∃ (e:T6),es[i]? = some e/\s.heap.get? (as.getD i 0)=some { cls:=.type "tuple",data:=.seq #[.ref (bs.getD i 0),e.val] }/\sI P w s.heap (bs.getD i 0) (ks.getD i []):=fun i d=>by
  have Q:as[i]? = some (as.getD i 0):=by simp [TY,d]
  obtain ⟨e,u,q⟩:=p.prs i _ Q
  obtain ⟨k1,B⟩:=key i e u
  rw [k1] at q
  exact ⟨e,u,q,B⟩
 unfold kP
 have r:KatTups s.heap (as.map S2) (bs.map S2):=by
  have go:∀ (n:Nat)(a c:List Addr),a.length=n->c.length=n->(∀ i,i<n->∃ v:SK,s.heap.get? (a.getD i 0)=some { cls:=.type "tuple",data:=.seq #[.ref (c.getD i 0),v] })->KatTups s.heap (a.map S2) (c.map S2):=by
   intro n
   induction n with
   | zero=>
    intro a c l m _
    rw [Vc.mp l,Vc.mp m]
    exact .nil
   | succ n ih=>
    intro a c l m M
    match a,c,l,m with
    | x::a,y::c,l,m=>
     obtain ⟨v,K⟩:=M 0 (by omega)
     refine .cons K rfl rfl (by simp) (ih a c (by simpa using l) (by simpa using m) fun i d=>?_)
     have:=M (i+1) (by omega)
     simpa using this
  refine go as.length as bs rfl (by omega) fun i d=>?_
  obtain ⟨e,_,q,_⟩:=g i d
  exact ⟨_,q⟩
 refine kat_kind (T:=.type "tuple") r (by rw [SQ];omega) (fun v K=>?_) (by decide) ⟨rfl,fun i j C d I Y=>?_⟩
 ·obtain ⟨b,Z,rfl⟩:=Ts.mp K
  obtain ⟨i,d⟩:=VJ.mp Z
  have G:i<as.length:=by
   have:=(SN.mp d).1
   omega
  obtain ⟨e,_,_,B⟩:=g i G
  have:bs.getD i 0=b:=by simp [TY,d]
  rw [this] at B
  obtain ⟨xs,⟨o,o1,o2,_⟩,_⟩:=B.2
  exact kitAt_ty _ _ ⟨o,o1,o2⟩
 ·rw [SQ] at d I
  obtain ⟨e,u,q,O⟩:=g i d
  obtain ⟨e',L,R,T⟩:=g j I
  have U:(as.map S2).getD i .none=.ref (as.getD i 0):=by simp [TY,d]
  have X:(as.map S2).getD j .none=.ref (as.getD j 0):=by simp [TY,I]
  rw [U,X]
  refine Nu hu q R O T (fun z=>?_) Y
  have H:i=j:=by
   have l:ks.getD i []=ks[i]:=by simp [TY,show i<ks.length by omega]
   have m:ks.getD j []=ks[j]:=by simp [TY,show j<ks.length by omega]
   rw [l,m] at z
   rcases Xb i j with h|h|h
   ·exact absurd z ((TN.mp N) i j (by omega) (by omega) h)
   ·exact h
   ·exact absurd z.symm ((TN.mp N) j i (by omega) (by omega) h)
  subst H
  rw [u] at L
  cases L
  rfl
end
end L3
namespace L3
open PySem L2 PySem.W PyProof.Rows
section
variable {P:Tj}{w:TH}{A:Tv}{E:SK->SM->Prop}{s:SM}
end
end L3
namespace L3
open PySem L2 PySem.W PyProof.Rows
section
variable {P:Tj}{w:TH}{A:Tv}{E:SK->SM->Prop}{s:SM}
open Classical in
noncomputable def eG (us:List SK)(v:SK):Nat:=if h:∃ i,us[i]? = some v then h.choose else 0
theorem sJ {us:List SK}(l:us.Nodup){i:Nat}{v:SK}(h:us[i]? = some v):eG us v=i:=by
 unfold eG
 have b:∃ i,us[i]? = some v:=⟨i,h⟩
 rw [dif_pos b]
 have j:=b.choose_spec
 obtain ⟨e,c⟩:=SN.mp h
 obtain ⟨g,d⟩:=SN.mp j
 have:=TN.mp l
 rcases Xb i b.choose with a|a|a
 ·exact absurd (c.trans d.symm) (this _ _ e g a)
 ·exact a.symm
 ·exact absurd (d.trans c.symm) (this _ _ g e a)
theorem w9 {Z:Type}{lt:Z->Z->Bool}(O:Ord1 lt)(d:Z){ks:List Z}{c:Addr}{us:List SK}{z:Nat}{R:a3l->SM->Prop}(hk:ks.length=us.length)(nk:ks.Nodup)(Y:us.Nodup)(h2:2<=us.length)(hz:us.length<=S8)(g:s.heap.get? c=some (UH "list" us.toArray z))
  (H:∀ X:Uj,(∀ b o,b≠c->s.heap.get? b=some o->X.get? b=some o)->kP P w A us (fun i j=>lt (ks.getD i d) (ks.getD j d)) { s with heap:=X })
  (q:R (.done (.ret .none)) { s with heap:=Yx s.heap c us ((bU (fun i j=>lt (ks.getD i d) (ks.getD j d)) us.length).map fun i=>us.getD i UK).toArray }):Tn (Tr P w) A (Builtin.«list.sort» ⟨[.ref c],[]⟩) R E s:=by
 have u:∀ i,i<us.length->ks.getD i d∈ks:=fun i l=>by
  rw [Tt,SO (by omega)]
  exact Vo _
 have kn:∀ i j,i<us.length->j<us.length->i≠j->ks.getD i d≠ks.getD j d:=fun i j l G M=>by
  rw [Tt,Tt,SO (by omega),SO (by omega)]
  have:=TN.mp nk
  rcases Nat.lt_or_gt_of_ne M with h|h
  ·exact this i j (by omega) (by omega) h
  ·exact (this j i (by omega) (by omega) h).symm
 have r:∀ v∈us,∃ i,i<us.length/\us[i]? = some v/\eG us v=i:=fun v Q=>by
  obtain ⟨i,l⟩:=Ww Q
  exact ⟨i,(SN.mp l).1,l,sJ Y l⟩
 refine MB (rk:=fun v=>iM lt ks (ks.getD (eG us v) d)) ?_ h2 hz g (fun X kp=>?_) fun m o1 o2=>?_
 ·refine TN.mpr fun i j l G M=>?_
  rw [sJ Y (SO l),sJ Y (SO G)]
  exact CM O (u i l) (u j G) (kn i j l G (by omega))
 ·have a:=H X kp
  unfold kP at a
  unfold Co
  refine T7 a (fun κ s' hq=>?_) fun _ _ x=>x
  obtain ⟨e,hq⟩:=hq
  refine ⟨e,fun x y C hx hy hC=>?_⟩
  obtain ⟨i,B,U,L⟩:=r x hx
  obtain ⟨j,I,gj,ej⟩:=r y hy
  dsimp only at hC
  rw [L,ej,<- sC O (u i B) (u j I)] at hC
  have:=hq i j C B I hC
  have e1:us.getD i .none=x:=by rw [Tt,U];rfl
  have K:us.getD j .none=y:=by rw [Tt,gj];rfl
  rw [e1,K] at this
  exact this
 ·have N:∀ i∈bU (fun i j=>lt (ks.getD i d) (ks.getD j d)) us.length,i<us.length:=fun i l=>TV.mp ((dX _ _).mem_iff.mp l)
  have hgd:∀ i,i<us.length->us[i]? = some (us.getD i .none):=fun i l=>by
   rw [Tt,SO l];rfl
  have e:m=(bU (fun i j=>lt (ks.getD i d) (ks.getD j d)) us.length).map fun i=>us.getD i UK:=by
   have hm:∀ v∈m,v∈us:=fun v Q=>o1.mem_iff.mp Q
      -- the places of what came m
   have p:m.map (eG us)=bU (fun i j=>lt (ks.getD i d) (ks.getD j d)) us.length:=by
    have n:(m.map (eG us)).Perm (Tz us.length):=by
     refine (o1.map (eG us)).trans ?_
     have:us.map (eG us)=Tz us.length:=by
      apply Vk
      intro i
      rw [Tx]
      by_cases l:i<us.length
      ·rw [SO l,XN l]
       exact congrArg some (sJ Y (SO l))
      ·rw [Ue (by omega),Ue (by simp;omega)]
       rfl
     rw [this]
    have s1:(m.map (eG us)).Pairwise fun i j=>lt (ks.getD i d) (ks.getD j d)=true:=by
     rw [TZ]
     have T:(m.map (eG us)).Nodup:=n.nodup_iff.mpr Yc
     unfold XY at T
     rw [TZ] at T
     refine VH (R:=fun x y=>iM lt ks (ks.getD (eG us x) d)<=iM lt ks (ks.getD (eG us y) d)/\eG us x≠eG us y) (fun {x y} hx hy h=>?_) (o2.and T)
     obtain ⟨i,B,U,L⟩:=r x (hm x hx)
     obtain ⟨j,I,gj,ej⟩:=r y (hm y hy)
     rw [L,ej] at h ⊢
     rw [sC O (u i B) (u j I),decide_eq_true_eq]
     have:=CM O (u i B) (u j I) (kn i j B I h.2)
     have:=h.1
     omega
    have s2:(bU (fun i j=>lt (ks.getD i d) (ks.getD j d)) us.length).Pairwise fun i j=>lt (ks.getD i d) (ks.getD j d)=true:=by
     have a:=CO (lt:=lt) O.ir O.tr (fun a b c h=>by
      cases e:lt a c with
      | true=>exact .inl rfl
      | false=>
       cases K:lt c b with
       | true=>exact .inr rfl
       | false=>
        cases e3:lt c a with
        | true=>rw [O.tr _ _ _ e3 h] at K;cases K
        | false=>rw [O.to _ _ e e3,K] at h;cases h) d ks (n:=us.length) (by omega)
     have T:(bU (fun i j=>lt (ks.getD i d) (ks.getD j d)) us.length).Nodup:=(dX _ _).nodup_iff.mpr Yc
     refine VH (R:=fun i j=>lt (ks.getD j d) (ks.getD i d)=false/\i≠j) (fun {i j} l G h=>?_) (a.and T)
     cases e:lt (ks.getD i d) (ks.getD j d) with
     | true=>rfl
     | false=>exact absurd (O.to _ _ e h.1) (kn i j (N i l) (N j G) h.2)
    exact XW (le:=fun i j=>lt (ks.getD i d) (ks.getD j d)=true) (fun i j _ _ h1 h2=>by
     have:=O.tr _ _ _ h1 h2
     rw [O.ir] at this;cases this) s1 s2 (n.trans (dX _ _).symm)
   rw [<- p,TM]
   symm
   conv=>rhs;rw [<- a2Y m]
   refine UP fun v Q=>?_
   obtain ⟨i,B,U,L⟩:=r v (hm v Q)
   show us.getD (eG us v) .none=v
   rw [L,Tt,U]
   rfl
  rw [e]
  exact q
end
end L3
namespace L3
open PySem L2 PySem.W PyProof.Rows
section
variable {P:Tj}{w:TH}{A:Tv}{E:SK->SM->Prop}{s:SM}
theorem Nw {B:Type}{lt:B->B->Bool}(O:Ord1 lt)(m:B){ks:List B}{an:Nat->Nat->Bool}(G:an=fun i j=>lt (ks.getD i m) (ks.getD j m)){r d:Addr}{es:Array T6}{ep:Nat}{Q:SK->SM->Prop}(Z:ks.length=es.size)(nk:ks.Nodup)(Y:A.handled=none)(hv:s.heap.IsItemsView r d)(g:RawD s.heap d es ep)(T:es.size<=S8)
  (H:2<=es.size->∀ (l:Uj)(tk:Nat)(as:List Addr),(∀ b o,s.heap.get? b=some o->l.get? b=some o)->as.length=es.size->PrsAt es s.heap.objs.size l as->kP P w A.in1.in1 (as.map S2) an { s with heap:=l,toks:=tk })
  (q:∀ (l:Uj)(tk:Nat)(as:List Addr)(L e:Nat),(∀ b o,s.heap.get? b=some o->l.get? b=some o)->as.length=es.size->PrsAt es s.heap.objs.size l as->s.heap.objs.size<=L->(∀ a∈as,a≠L)->l.get? L=some (UH "list" ((bU an es.size).map fun i=>S2 (as.getD i 0)).toArray e)->Q (.ref L) { s with heap:=l,toks:=tk }) :
  Tn (Tr P w) A (call (.builtin "sorted") [.ref r]) Q E s:=by
 refine X2 a1P a1j a1l (a1m _) ?_
 unfold YN
 refine SG (m:=a2r "sorted" 1 1 _) (SU (SG (Nr (A:=A.in1) Y hv g (by omega) fun c tk as R y z u=>?_)))
 have M:(as.map S2).length=es.size:=by rw [SQ,y]
 refine SG (Yh ?_ (by rw [M];omega))
 have nu:(as.map S2).Nodup:=by
  unfold XY
  rw [TZ]
  exact z.up.imp fun h e=>by cases e;exact absurd h (Vj _)
 subst G
 have p:(c.push (UH "list" (as.map S2).toArray 0)).get? c.objs.size=some (UH "list" (as.map S2).toArray 0):=Te _ rfl
 have fin:∀ n:List SK,n=((bU (fun i j=>lt (ks.getD i m) (ks.getD j m)) es.size).map fun i=>S2 (as.getD i 0))->Q (.ref c.objs.size) { s with heap:=Yx (c.push (UH "list" (as.map S2).toArray 0)) c.objs.size (as.map S2) n.toArray,toks:=tk }:=by
  rintro n rfl
  obtain ⟨e,X⟩:=sortedHeap_at (h:=c.push (UH "list" (as.map S2).toArray 0)) (out:=((bU (fun i j=>lt (ks.getD i m) (ks.getD j m)) es.size).map fun i=>S2 (as.getD i 0)).toArray) p
  have v:∀ b o,c.get? b=some o->(Yx (c.push (UH "list" (as.map S2).toArray 0)) c.objs.size (as.map S2) ((bU (fun i j=>lt (ks.getD i m) (ks.getD j m)) es.size).map fun i=>S2 (as.getD i 0)).toArray).get? b=some o:=fun b o x=>by
   rw [a3N (Tp (S6 x)) (by rw [XZ];exact Y7 (S6 x))]
   exact SR _ x
  exact q _ tk as c.objs.size e (fun b o x=>v b o (R b o x)) y (z.stay fun b o _ x=>v b o x) u (fun a U=>Tp (z.lt U)) X
 by_cases I:2<=es.size
 ·refine SG (Uc (UG Xm (s:={ s with heap:=c.push (UH "list" (as.map S2).toArray 0),toks:=tk }) ⟨_,p,rfl⟩ W5 (w9 O m (by rw [M];exact Z) nk nu (by omega) (by omega) p (fun l N=>?_) ⟨_,rfl,?_⟩) (Xs _)))
  ·exact H I l tk as (fun b o e=>N b o (Tp (TF (S6 e) u)) (SR _ (R b o e))) y (z.stay fun b o hb e=>N b o (Tp (S6 e)) (SR _ e))
  ·refine SU ⟨_,rfl,fin _ ?_⟩
   rw [M]
   refine UP fun i K=>?_
   have K:i<as.length:=by
    have:=TV.mp ((dX _ es.size).mem_iff.mp K)
    omega
   simp [TY,K]
 ·refine SG (Uc (UG Xm (s:={ s with heap:=c.push (UH "list" (as.map S2).toArray 0),toks:=tk }) ⟨_,p,rfl⟩ W5 (wJ (by omega) p ⟨_,rfl,?_⟩) (Xs _)))
  refine SU ⟨_,rfl,fin (as.map S2) ?_⟩
  match as,y with
  | [],e=>rw [<- e];show []=(bU _ 0).map _;rw [r8];rfl
  | [b],e=>rw [<- e];show [S2 b]=(bU _ 1).map _;rw [wK];rfl
  | _::_::_,e=>rw [<- e] at I;simp at I
end
end L3
namespace L3
open PySem L2
noncomputable def iO (ps:bD):bD:=(bU (fun i j=>HT.lexLt ((ps.map (·.1)).getD i []) ((ps.map (·.1)).getD j [])) ps.length).map fun i=>ps.getD i ([],0,.non)
theorem sortT_perm {ps:bD}:(iO ps).Perm ps:=by
 unfold iO
 have p:=(dX (fun i j=>HT.lexLt ((ps.map (·.1)).getD i []) ((ps.map (·.1)).getD j [])) ps.length).map fun i=>ps.getD i ([],0,.non)
 have e:(Tz ps.length).map (fun i=>ps.getD i ([],0,.non))=ps:=by
  refine a1I (by simp) fun i b a=>?_
  simp [TY,a]
 rw [e] at p
 exact p
end L3
namespace L3
open PySem L2
section
variable {P:Tj}{w:TH}
theorem Dm (d:Addr)(hd:(d == Ui)=false):a2K P w (Builtin.«dict.items» ⟨[.ref d],[]⟩) (fun _ R s=>(∃ es ep,RawD s.heap d es ep) /\
   R (.ok (.ret (.ref s.heap.objs.size))) { s with heap:=s.heap.push { cls:=.type "dict_items",data:=.fields #[.ref d] } }):=
 .of_wp fun A R s ⟨⟨es,ep,g⟩,h⟩=>by
  unfold Builtin.«dict.items»
  refine SG ?_
  unfold ZK
  refine SG (U9 g.ty ?_)
  show Tn _ _ (pure d) _ _ s
  refine SU ?_
  show Tn _ _ (UW d >>= _) _ _ s
  unfold UW
  rw [if_neg (by rw [hd];exact TC)]
  refine SG (SU ?_)
  exact SG (UR (SU ⟨_,rfl,h⟩))
end
noncomputable def kR (kvs:List (List Int×D)):List (List Int×D):=(bU (fun i j=>HT.lexLt ((kvs.map (·.1)).getD i []) ((kvs.map (·.1)).getD j [])) kvs.length).map fun i=>kvs.getD i ([],.non)
theorem xA {b c:Type}{R:b->c->Prop}{as:List b}{bs:List c}(h:V6 R as bs)(d:b)(g:c):∀ i,i<as.length->R (as.getD i d) (bs.getD i g):=by
 induction h with
 | nil=>exact fun i a=>nomatch a
 | cons e t j=>
  intro i a
  cases i with
  | zero=>exact e
  | succ i=>exact j i (by simpa using a)
theorem xB {a b:Type}{R:a->b->Prop}{f:Nat->a}{g:Nat->b}:∀ {l:List Nat},(∀ i∈l,R (f i) (g i))->V6 R (l.map f) (l.map g)
 | [],_=>.nil
 | i::l,h=>.cons (h i (Td ..)) (xB fun j c=>h j (S3 _ c))
theorem Nx {K:SJ}{π:Nat->Addr}{n:Nat}{H:Hp}{ps:bD}{kvs:List (List Int×D)}(h:IsTs K π n H ps kvs):ps.length=kvs.length/\IsTs K π n H (iO ps) (kR kvs):=by
 have a:=h.to.1
 have b:ps.length=kvs.length:=by
  have:=congrArg Ua a
  simpa using this
 refine ⟨b,?_⟩
 unfold iO kR
 rw [a,b]
 refine xB fun i c=>xA h _ _ i ?_
 have:=TV.mp ((dX _ kvs.length).mem_iff.mp c)
 omega
end L3
namespace L3
open PySem L2
noncomputable def n9 (mk b:ME):ME:=fun ρ a=>(mk ρ (a++[.dT []])).bind fun p=>(b ρ p.2).bind fun q=>match q.2[a.length]? with
 | some (.dT [])=>(dC p.1).map fun k=>(.loc a.length,q.2.set a.length (.dT [(k,q.1)]))
 | _=>none
section
variable {X:Cx}{k v:Expr}{mk mv:ME}{tk tv:TE}{pos:UY}
noncomputable def Ny (K:SJ)(tk tv:TE):TE:=fun σ H Q=>∀ p,H p=none->tk σ (aI H p (aW p [])) fun x d=>tv σ d fun y a=>a p=some (aW p [])/\∃ b c,x=.ref b/\SqT K a b (c.map V.int)/\Q (.ref p) (aI a p (aW p [(c,b,y)]))
theorem Nz (L:X.A.units+1<UT)(n:PE X k tk)(w:PE X v tv):PE X (.Dict [some k] [v] pos) (Ny X.K tk tv):=by
 intro a s c H Q I q
 have o:=I.hok.fresh (SX s.heap.objs.size)
 have h:=I.laid (a:=s.heap.objs.size) (o:=aW s.heap.objs.size []) (h':=s.heap.push { cls:=.type "dict",data:=.dict #[] }) (t':=s.toks) (fun _ _ q=>SR _ q) (SX _) (w5 s.heap I.big)
 refine wpAny_Dict_any rfl rfl (by simp) (by simp) (a2b (aP (n a _ c _ _ h (q _ o)) fun u G ⟨x,d,i,B,z⟩=>aP (w a G c d _ i z) fun R O ⟨y,K,j,E,e,b,M,l,m,A⟩=>a2n ?_))
 subst l
 obtain rfl:u=S2 b:=B
 unfold storeAll
 refine SG (SG (Dd (by omega) j e (fun p r=>nomatch r) m (by rw [T3];simp) E fun N g _=>SU (SU ?_)))
 exact ⟨.ref s.heap.objs.size,_,g,rfl,A⟩
theorem NA {n:Nat}(hr:Room n X.A)(Y:QE X k mk)(hv:QE X v mv):QE X (.Dict [some k] [v] pos) (n9 mk mv):=⟨b6 (Nz (eY hr) Y.h hv.h) (by
 rintro σ H Q ⟨π,L,h,d,μ',R,E,a,kc⟩ p Z
 obtain ⟨⟨x,c⟩,O,a⟩:=SF.mp a
 obtain ⟨⟨y,e⟩,U,a⟩:=SF.mp a
 obtain ⟨q,N,q1⟩:=R.alloc (c:=.dT []) (o:=aW p []) Z ⟨[],rfl,rfl,.nil,.nil⟩
 refine ⟨_,L,_,x,c,N,E.mono q,O,fun z v1 H1 m R2 i1=>⟨z,L,c,y,e,R2,(E.mono q).mono m,U,fun g K M r A i2=>?_⟩⟩
 dsimp only at a
 split at a
 ·rename_i hc
  obtain ⟨l,u,a⟩:=SS.mp a
  cases a
  have i:h.length<e.length:=(SN.mp hc).1
  have w:(h++[C.dT []]).length<=c.length:=m.le
  have j:g h.length=p:=by rw [r.pi h.length (by simp at w;omega),m.pi h.length (by simp),q1]
  obtain ⟨ps,s,T⟩:=eE A hc
  cases T
  obtain ⟨b,rfl,I⟩:=nZ (i1.mono r) u
  obtain ⟨G,B⟩:=A.put (a:=h.length) (c:=.dT [(l,y)]) (o:=aW _ [(l,b,K)]) i s (.inr (.inr ⟨_,rfl⟩)) (by
   have o:IsTs X.K g e.length M [(l,b,K)] [(l,y)]:=.cons ⟨rfl,I,i2⟩ .nil
   exact ⟨_,rfl,o.to.1,o.to.2.1,o.to.2.2⟩)
  rw [j] at s G B
  refine ⟨s,b,l,rfl,I,kc g _ _ (((q.trans m).trans r).trans G) B ?_⟩
  rw [<- j]
  exact .loc (by rw [Wj];exact i)
 ·cases a)⟩
end
end L3
namespace L3
open PySem L2 PySem.W PyProof.Rows
section
variable {P:Tj}{w:TH}{A:Tv}{E:SK->SM->Prop}{s:SM}
noncomputable def Dp (h:Uj)(b:Addr)(k:List Int):Prop:=∃ xs:List SK,a2L h b xs.toArray/\Wr xs k
theorem Dr {bs:List Addr}{ks:List (List Int)}(K:0<bs.length)(r:ks.length=bs.length)(key:∀ (j:Nat)(b:Addr),bs[j]? = some b->Dp s.heap b (ks.getD j [])/\ks.getD j []≠[]):kP P w A (bs.map S2) (fun i j=>HT.lexLt (ks.getD i []) (ks.getD j [])) s:=by
 have l:∃ fs:List SK,fs.length=bs.length/\KatTups s.heap (bs.map S2) fs/\∀ v∈fs,∃ i t,v=XR i t:=by
  clear K
  induction bs generalizing ks with
  | nil=>exact ⟨[],rfl,.nil,fun v a=>nomatch a⟩
  | cons b bs Q=>
   match ks,r with
   | k::ks,r=>
    obtain ⟨fs,u,m,p⟩:=Q (ks:=ks) (by simpa using r) fun j c hc=>by simpa using key (j+1) c (by simpa using hc)
    obtain ⟨⟨xs,⟨o,e,c,n,d⟩,g⟩,h⟩:=key 0 b rfl
    simp only [List.getD_cons_zero] at g h
    cases g with
    | nil=>exact absurd rfl h
    | @cons i x T R M=>
     refine ⟨XR i x::fs,by simp [u],.cons e c d (by simp) m,fun v a=>?_⟩
     rcases To.mp a with rfl|a
     ·exact ⟨i,x,rfl⟩
     ·exact p v a
 obtain ⟨fs,u,m,p⟩:=l
 unfold kP
 refine kat_kind (T:=.type "int") m ?_ (fun v a=>?_) rfl ⟨rfl,fun i j C g q L=>?_⟩
 ·omega
 ·obtain ⟨i,t,rfl⟩:=p v a
  exact .now
 ·rw [SQ] at g q
  obtain ⟨⟨xa,⟨oa,B,U,Y,y⟩,N⟩,_⟩:=key i bs[i] (SO g)
  obtain ⟨⟨xb,⟨ob,G,X,Z,z⟩,O⟩,_⟩:=key j bs[j] (SO q)
  have H:(bs.map S2).getD i .none=.ref bs[i]:=by simp [TY,g]
  have I:(bs.map S2).getD j .none=.ref bs[j]:=by simp [TY,q]
  rw [H,I]
  exact kat_lt B y G z (Ci 0 N O L)
end
end L3
namespace L3
open PySem L2
noncomputable def oA (b:Hm):D->Bool
 | .loc a=>match b[a]? with|some (.dT _)=>true|_=>false
 | _=>false
noncomputable def mI (f:D->List D->Hm->Option (D×Hm))(a:ME)(b:MA):ME:=fun ρ c=>(a ρ c).bind fun p=>match oA p.2 p.1 with
 | true=>(b ρ p.2).bind fun q=>f p.1 q.1 q.2
 | false=>none
noncomputable def xC (K:SJ)(x:V)(H:Hp):Prop:=∃ a ps,x=.ref a/\H a=some (aW a ps)/\cC K H ps
theorem NC {K:SJ}{π:Nat->Addr}{H:Hp}{b:Hm}{v:V}{x:D}(R:Rp K π H b)(h:IsD K π b.length H v x)(e:oA b x=true):xC K v H:=by
 cases h with
 | @loc a i=>
  simp only [oA] at e
  split at e
  ·rename_i j d
   obtain ⟨g,c,T⟩:=eE R d
   exact ⟨_,g,rfl,c,T.keys⟩
  ·cases e
 | _=>cases e
section
variable {X:Cx}{e o:Expr}{mo:ME}{to:TE}{t:TA}{apos cpos:UY}{es:List Expr}{ms:MA}{n:Nat}{r:V->List V->Hp->VK->Prop}{f:D->List D->Hm->Option (D×Hm)}{name:Str}{id:String}
theorem ND (slot:Slot "dict" name id) (w:a1h (.builtin id)=pure (.type "method_descriptor")) (O:j6 X id r)(R:PE X o to)(M:PA X (e::es) t)(i:VN o name X.env (eval o X.env)=eval o X.env)
  (m:((Wg cpos (TU (e::es) X.env)).all (fun x=>!x.1)&&(a0t cpos (YQ [] X.env)).all (fun x=>x.1.isSome)&&decide ((e::es).length+([]:List WN).length+(if ([]:List WN).isEmpty then 0 else 1)<30))=true)
  (j:(apos.endLine == cpos.line)=true)(T:TU (e::es) X.env=(false,eval e X.env)::TU es X.env)(c:(Wg cpos (TU es X.env)).any (·.1)=false) :
  PE X (.Call (.Attribute o name apos) (e::es) [] cpos) (fun l H Q=>to l H fun x p=>xC X.K x p/\t l p fun q u=>r x q u Q):=by
 intro d s l H Q I h
 refine a1g i m j rfl (aP (R d s l H _ I h) fun v s1 ⟨x,p,y,Z,ty,U⟩=>?_)
 obtain ⟨a,ps,rfl,G,N⟩:=ty
 obtain rfl:v=S2 a:=Z
 obtain ⟨lo,hl,q,ep,g,_⟩:=jO y G N
 refine ⟨"dict",id,VX,slot,w,g.ty,fun b E=>?_,?_⟩
 ·cases E
  obtain ⟨z,K,L,_⟩:=g
  exact ⟨z,K,L.2.1⟩
 have A:=M cpos d s1 l p _ y U
 rw [T] at A ⊢
 refine Vi (by show (false||(Wg cpos (TU es X.env)).any (·.1))=false;rw [c]<;>rfl) (a0A ?_)
 exact aP A fun us s2 ⟨q,u,B,r2,Y⟩=>O d s2 l u (.ref a) q _ us Q B rfl r2 Y
theorem NF {K:SJ}(z:iJ K f r):∀ σ H Q,tM K (mI f mo ms) σ H Q->tM K mo σ H fun x g=>xC K x g/\d6 K ms σ g fun vs h=>r x vs h Q:=by
 rintro σ H Q ⟨L,v,I,d,i,R,E,a,k⟩
 obtain ⟨⟨x,b⟩,w,a⟩:=SF.mp a
 dsimp only at a
 split at a
 ·rename_i A
  obtain ⟨⟨u,c⟩,y,a⟩:=SF.mp a
  refine ⟨L,v,I,x,b,R,E,w,fun j G g p m s=>⟨NC m s A,j,v,b,u,c,m,E.mono p,y,fun l vs h q R2 B=>?_⟩⟩
  exact z l h c x u d i G vs Q R2 (s.mono q) B a (k.after (p.trans q))
 ·cases a
theorem NG (slot:Slot "dict" name id) (c:a1h (.builtin id)=pure (.type "method_descriptor")) (i:j6 X id r)(g:iJ X.K f r)
  (l:QE X o mo)(d:QA X (e::es) ms n)(m:fI o=true)(h:(apos.endLine == cpos.line)=true)(j:(e::es).length<30):QE X (.Call (.Attribute o name apos) (e::es) [] cpos) (mI f mo ms):=by
 have b:=d.s
 have a:=b
 rw [Up,S0] at a
 exact ⟨b6 (ND slot c i l.h d.h (iK m) (Cf b j) h (gQ a.1) (lT a.2)) (NF g)⟩
end
end L3
namespace L3
open PySem L2
section
variable {P:Tj}{w:TH}{K:Type} [DecidableEq K] {knd:a3Y P w K}{A:Tv}{E:SK->SM->Prop}{s:SM}{d a:Addr}{k:K}{xs:List (K×Addr×SK)}
end
end L3
namespace L3
open PySem L2
section
variable {P:Tj}{w:TH}{A:Tv}{E:SK->SM->Prop}{s:SM}
theorem NH {G:String}{d:Addr}{es:Array T6}{ep:Nat}{bs:List Addr}{Q:Array T6->SM->Prop}(g:RawD s.heap d es ep)(n:es.toList.map (·.key)=bs.map S2)(H:∀ b∈bs,s.TypeIs (.ref b) "tuple")
  (B:(es.toList.map (·.hash)).Nodup)(q:Q es s):Tn (Tr P w) A (YI G d) Q E s:=by
 obtain ⟨z,p,I,r⟩:=id g
 unfold YI
 refine SG (Ud p r (SG ?_))
 rw [<- Array.forIn_toList]
 refine ZW _ (fun rest _ c=>c=s/\∀ e∈rest,e∈es.toList) _ (fun e rest b c ⟨h,j⟩=>?_) (fun b c ⟨h,_⟩=>?_) _ _ ⟨rfl,fun e i=>i⟩
 ·subst h
  have i:=j e (Td ..)
  have v:e.key∈bs.map S2:=by rw [<- n];exact Ts.mpr ⟨e,i,rfl⟩
  obtain ⟨a,u,o⟩:=Ts.mp v
  have quiet:∀ {Q:Bool->SM->Prop},Q false c->Tn (Tr P w) A (Zt e.key) Q E c:=fun {Q} q=>by
   rw [<- o]
   unfold Zt
   exact SG (YB (H a u) PySem.F.slot_tuple_eq.lookup (SU q))
  refine SG (quiet ?_)
  have one:((es.filter (·.hash == e.hash)).size>1)=False:=by
   refine eq_false fun z=>?_
   have K:1<(es.toList.filter fun x=>x.hash == e.hash).length:=by
    have l:(es.filter (·.hash == e.hash)).toList=es.toList.filter fun x=>x.hash == e.hash:=Array.toList_filter ..
    have m:=congrArg Ua l
    simp only [VC] at m
    omega
   have l8:(es.toList.filter fun x=>x.hash == e.hash).length=(es.toList.map (·.hash)).count e.hash:=by
    rw [List.count,List.countP_map,<- List.countP_eq_length_filter];rfl
   have:=List.nodup_iff_count.mp B e.hash
   omega
  simp only [U6,if_true,one,if_false]
  exact SU ⟨rfl,fun x y=>j x (S3 _ y)⟩
 ·subst h;exact SU q
end
theorem Ds:∀ (ps:bD)(ws:List SK),ps.length=ws.length->(YV u6 ps ws).map (·.hash)=ps.map fun p=>Tb.hashT p.1
 | [],_,_=>by simp
 | p::ps,[],h=>by cases h
 | p::ps,u::ws,h=>by
  rw [TB,S5,S5,Ds ps ws (by simpa using h)]
  rfl
theorem NI {es:Array T6}{bs:List Addr}(c:bs≠[])(a:es.toList.map (·.key)=bs.map S2):(es.all fun e=>(keyPart e.key).isSome)=false:=by
 rw [<- Array.all_toList]
 generalize es.toList=l at a
 cases bs with
 | nil=>exact absurd rfl c
 | cons b bs=>
  cases l with
  | nil=>cases a
  | cons e l=>
   rw [S5,S5,a0G] at a
   rw [Up,a.1]
   rfl
theorem NJ {es:Array T6}{bs:List Addr}(a:bs≠[])(c:es.toList.map (·.key)=bs.map S2):es.isEmpty=false:=by
 have b:=congrArg Ua c
 simp only [SQ,VC] at b
 have:bs.length≠0:=fun z=>a (Vc.mp z)
 rw [Array.isEmpty]
 exact decide_eq_false (by omega)
noncomputable def Dt (K:SJ):List V->Hp->VK->Prop:=fun xs H Q=>∃ a ps,xs=[V.ref a]/\H a=some (aW a ps)/\cC K H ps/\(ps.map fun p=>Tb.hashT p.1).Nodup/\∀ l,H l=none->Q (.ref l) (aI H l (aW l ps))
section
variable {X:Cx}
theorem NK:CallR X (.type "dict") (Dt X.K):=by
 intro a4b s σ H xs us Q I r h
 obtain ⟨a,d,rfl,ha,hk,nd,q⟩:=h
 obtain ⟨u,rfl,ru⟩:=fU r
 cases ru
 have hn:H s.heap.objs.size=none:=I.hok.fresh (SX _)
 obtain ⟨⟨n,U,lo,x,o,c,y,i,w,E,L,h5⟩,_⟩:=(show ObjOk X.prog X.w H s.heap a (aW a d) from I.hok a _ ha)
 obtain ⟨_,_,es',ep',g,G⟩:=jO I ha hk
 obtain ⟨z,Y,g2,Z⟩:=id g
 rw [i] at Y
 cases Y
 rw [E] at Z
 cases Z
 have T:c.size=d.length:=by
  have:=congrArg Ua G
  simpa using this
 have O:(c.toList.map (·.hash)).Nodup:=by
  have:c.toList.map (·.hash)=d.map fun p=>Tb.hashT p.1:=by rw [L];exact Ds d n (by rw [<- U.length,SQ])
  rw [this];exact nd
 refine a0r (Q₁:=fun A j=>A=.ref s.heap.objs.size/\j = { s with heap:=s.heap.push { cls:=.type "dict",data:=.dict #[] } }) F.kt_called_dict (F.kt_typeCall_dict_1 _) F.entry_dict_init (a2Q _ ⟨rfl,rfl⟩) ?_
 rintro A j ⟨rfl,rfl⟩
 have v:({ s with heap:=s.heap.push { cls:=.type "dict",data:=.dict #[] } }:SM).heap.get? s.heap.objs.size=some { cls:=.type "dict",data:=.dict #[] }:=Te _ rfl
 have ty:({ s with heap:=s.heap.push { cls:=.type "dict",data:=.dict #[] } }:SM).TypeIs (.ref s.heap.objs.size) "dict":=⟨_,v,rfl⟩
 have ga:RawD (s.heap.push { cls:=.type "dict",data:=.dict #[] }) a c y:=g.stay fun o e=>SR _ e
 refine ⟨ty,F.args_dict_init_2 _ _,?_⟩
 unfold Builtin.«dict.__init__»
 refine SG ?_
 unfold YZ
 refine SG (U9 ty (SU ?_))
 show Tn _ _ (WA "dict.__init__" s.heap.objs.size (.ref a) [] .none) _ _ _
 unfold WA
 refine SG (Zu (T:="dict") ⟨_,SR _ i,w.1⟩ ?_)
 rw [if_neg (by decide)]
 refine SG ?_
 unfold a3H a3E
 have B:({ s with heap:=s.heap.push { cls:=.type "dict",data:=.dict #[] } }:SM).TypeIs (.ref a) "dict":=⟨_,SR _ i,w.1⟩
 refine SG (SG (XI B isSubtype_dict_dict ?_))
 simp only [US,S9,if_false]
 refine SG (YB B F.slot_dict_iter.lookup (SU ?_))
 simp only [beq_self_eq_true,if_true]
 refine SG (SU ?_)
 unfold a3G
 have M:(s.heap.objs.size == a)=false:=beq_eq_false_iff_ne.mpr (UM (Tp (S6 i)))
 rw [if_neg (by rw [M];exact TC)]
 unfold UW
 rw [if_neg (by rw [lo];exact TC)]
 have l:=SR { cls:=.type "dict",data:=.dict #[] } i
 refine SG (SU (SG (Ud l E ?_)))
 have big:(s.heap.objs.size == Ui)=false:=beq_eq_false_iff_ne.mpr (UM (Tp I.big))
 by_cases m:d=[]
 ·have z:c = #[]:=Array.eq_empty_of_size_eq_zero (by rw [T,m];rfl)
  subst z
  have fe:(decide ((#[]:Array T6).size<=8)&&(#[]:Array T6).all fun e=>(keyPart e.key).isSome)=true:=by simp
  simp only [fe,US,S9,if_false]
  refine SG (VZ l E ?_)
  refine SG (Ud l E ?_)
  have fr:∀ g:Nat->PUnit->a0L (ForInStep PUnit),(forIn [:(#[]:Array T6).size] a2U g:a0L PUnit)=pure a2U:=fun g=>by simp
  rw [fr]
  refine SG (SU (SU ?_))
  refine SG (SU (SU ?_))
  refine ⟨rfl,.ref s.heap.objs.size,_,I.laid (t':=s.toks) (a:=s.heap.objs.size) (o:=aW s.heap.objs.size d) (fun b u e=>SR _ e) (SX _) ⟨⟨n,U,big,x,_,#[],0,v,⟨rfl,rfl,rfl⟩,rfl,L,h5⟩,⟨_,v⟩,?_⟩,rfl,q _ hn⟩
  rintro k1 k2 ⟨n,r,R,x,o,c,y,i,w⟩ N
  exact ⟨n,r,R,x,o,c,y,N o i,w⟩
 have few:=NI (bs:=d.map (·.2.1)) (fun z=>m (a0R.mp z)) (by rw [G,TM];rfl)
 simp only [few,a2i,U6,if_true]
 refine SG (Ud v rfl ?_)
 simp only [Array.isEmpty_empty,if_true]
 have hes:c.size<=S8:=by omega
 have K:=NJ (bs:=d.map (·.2.1)) (fun z=>m (a0R.mp z)) (by rw [G,TM];rfl)
 refine SG (NH (bs:=d.map (·.2.1)) ga (by rw [G,TM];rfl) (fun b hb=>?_) O ?_)
 ·obtain ⟨p,hp,rfl⟩:=Ts.mp hb
  obtain ⟨its,rx,⟨ot,e1,e2,_⟩,_⟩:=I.tuple (hk p hp)
  exact ⟨ot,SR _ e1,e2⟩
 simp only [K,U6,if_true]
 refine SG (wpAny_updateDictKeysTo v rfl (SU ?_) (by omega))
 have gN:=Vm (Obj.mapDictKeys fun _=>c) v (a1c (Yz (o:={ cls:=.type "dict",data:=.dict #[] }) rfl _))
 refine SG (SU (SU ?_))
 refine ⟨rfl,.ref s.heap.objs.size,_,I.laid (t':=s.toks) (a:=s.heap.objs.size) (o:=aW s.heap.objs.size d) (fun b u e=>?_) (SX _) ⟨⟨n,U,big,x,_,c,1,gN,?_,rfl,L,h5⟩,⟨_,gN⟩,?_⟩,rfl,q _ hn⟩
 ·rw [UX _ _ (UM (Tp (S6 e)))]
  exact SR _ e
 ·exact a2V ⟨rfl,rfl,rfl⟩ _
 ·rintro k1 k2 ⟨n,r,R,x,o,c,y,i,w⟩ N
  exact ⟨n,r,R,x,o,c,y,N o i,w⟩
end
end L3
namespace L3
open PySem L2
noncomputable abbrev pU:=List (List Int×Addr×SK)
inductive Hits (A:Tv)(s:SM)(ys:pU):pU->Bool->Prop
 | nil:Hits A s ys [] true
 | miss {x:List Int×Addr×SK}{r:pU}:Xr ys x.1=none->Hits A s ys (x::r) false
 | hit {x:List Int×Addr×SK}{p:Addr×SK}{r:pU}{e b:Bool}:Xr ys x.1=some p->ZA A s x.2.2 p.2 e->Hits A s ys r b->Hits A s ys (x::r) (e&&b)
section
variable {P:Tj}{w:TH}{A:Tv}{E:SK->SM->Prop}{s:SM}{a b:Addr}{xs ys:pU}{r:Bool}
theorem Du {nm:String}{Q:Bool->SM->Prop}(hu:(Va (V1 P w)).room A)(la:(a == Ui)=false)(lb:(b == Ui)=false)(da:s.heap.DictOfH (Va (V1 P w)) a xs)(db:s.heap.DictOfH (Va (V1 P w)) b ys)
  (n:xs.length=ys.length->Hits A s ys xs r)(q:Q (xs.length == ys.length&&r) s):Tn (Tr P w) A (Zd nm a b) Q E s:=by
 obtain ⟨oa,d,ep,u,_,v,T,L,na⟩:=da
 obtain ⟨ob,fs,fp,G,_,R,B,M,Y⟩:=db
 have Z:=a0e T
 have sb:=a0e B
 unfold Zd UW
 rw [if_neg (by rw [la];exact TC),if_neg (by rw [lb];exact TC)]
 refine SG (SU (SG (SU (SG (Ud u v ?_)))))
 dsimp only
 refine SG (Ud G R ?_)
 by_cases m:d.size=fs.size
 ·have X:xs.length=ys.length:=by omega
  have N:Q r s:=by simpa [X] using q
  have hh:=n X
  rw [if_neg (by rw [m];simp)]
  refine SG (VZ u v (SG ?_))
  rw [a2f]
  simp only [a2e,Y6,Nat.add_sub_cancel,Nat.div_one]
  refine ZW _ (fun rest c O=>O=s/\c=(none,())/\∃ i,rest=XD i (d.size - i)/\i<=d.size/\Hits A s ys (xs.drop i) r) _ ?_ ?_ _ _ ⟨rfl,rfl,0,by simp,Um _,hh⟩
  ·rintro x rest c O ⟨rfl,rfl,i,l,hi,h⟩
   have I:i<d.size:=a1S fun z=>by rw [Nat.sub_eq_zero_of_le z] at l;cases l
   have e0:d.size - i=(d.size - (i+1))+1:=by omega
   rw [e0,Xj] at l
   injection l with hx hrest
   subst hx
   have g:x<xs.length:=by omega
   rw [UZ g] at h
   have ex:xs[x]? = some xs[x]:=SO g
   refine SG (Ud u v ?_)
   rw [a3V T x,ex,T9]
   dsimp only
   have hk:=L xs[x] (Vo g)
   refine SG (Uc (SG (a2a (k:=xs[x].1) (a:=xs[x].2.1) hu hk G R B M Y (fun K=>?_) fun j p U=>?_)))
   ·have o:=a2F K
    have er:r=false:=by
     cases h with
     | miss _=>rfl
     | hit e _ _=>rw [o] at e;cases e
    subst er
    refine SU ?_
    simp only [U6,if_true]
    exact SU (SU N)
   ·have o:=atKey_of_get Y U
    refine SG (Ud G R ?_)
    rw [a3V B j,U,T9]
    dsimp only
    generalize hxs:xs[x]=y at h o
    cases h with
    | miss e=>rw [o] at e;cases e
    | @hit _ p' _ e' b' e h2 h3=>
     rw [o] at e
     cases e
     refine Uc (h2 P w _ _ ?_)
     cases e' with
     | false=>
      simp only [U6,if_true]
      exact SU (SU N)
     | true=>
      simp only [US,S9,if_false]
      refine SG (VZ u v ?_)
      rw [if_neg (by simp)]
      refine SU ⟨rfl,rfl,x+1,hrest,I,?_⟩
      simpa using h3
  ·rintro c O ⟨rfl,rfl,i,l,hi,h⟩
   have H:i=d.size:=by
    rcases Wi i d.size with z|z
    ·rw [show d.size - i=(d.size - (i+1))+1 by omega,Xj] at l;cases l
    ·omega
   refine SU ?_
   rw [H,Z,List.drop_length] at h
   cases h
   exact N
 ·rw [if_pos (by simpa using m)]
  have:(xs.length == ys.length)=false:=by rw [<- Z,<- sb];simpa using m
  rw [this,Yv] at q
  exact SG (WI (SU q))
theorem NL {Q:SK->SM->Prop}(g:(Va (V1 P w)).room A.in1)(h:A.units<UT)(i:(a == Ui)=false)(j:(b == Ui)=false)(d:s.heap.DictOfH (Va (V1 P w)) a xs)(e:s.heap.DictOfH (Va (V1 P w)) b ys)
  (c:xs.length=ys.length->Hits A.in1 s ys xs r)(q:Q (.bool (xs.length == ys.length&&r)) s):Tn (Tr P w) A (Uq .Eq (.ref a) (.ref b)) Q E s:=by
 refine a0k (op:=.Eq) d.typeIs e.typeIs a0g (UG a0g d.typeIs PySem.F.entry_dict_eq ?_ (PySem.F.args_dict_eq_2 _ _)) h
 show Tn _ _ (Wl "__eq__" ⟨[.ref a,.ref b],[]⟩ >>= _) _ _ s
 refine SG ?_
 unfold Wl
 refine SG (U9 d.typeIs (SU (SG (XI (T:="dict") e.typeIs Z9 ?_))))
 simp only [US,S9,if_false]
 exact SG (SU (SG (SU (SG (Du g i j d e c (SU ⟨_,rfl,(fun x=>nomatch x),by simpa using q⟩))))))
theorem NM {Q:SK->SM->Prop}(g:(Va (V1 P w)).room A.in1)(h:A.units<UT)(i:(a == Ui)=false)(j:(b == Ui)=false)(d:s.heap.DictOfH (Va (V1 P w)) a xs)(e:s.heap.DictOfH (Va (V1 P w)) b ys)
  (c:xs.length=ys.length->Hits A.in1 s ys xs r)(q:Q (.bool (!(xs.length == ys.length&&r))) s):Tn (Tr P w) A (Uq .NotEq (.ref a) (.ref b)) Q E s:=by
 refine a0k (op:=.NotEq) d.typeIs e.typeIs a0f (UG a0f d.typeIs PySem.F.entry_dict_ne ?_ (PySem.F.args_dict_ne_2 _ _)) h
 show Tn _ _ (Wl "__ne__" ⟨[.ref a,.ref b],[]⟩ >>= _) _ _ s
 refine SG ?_
 unfold Wl
 refine SG (U9 d.typeIs (SU (SG (XI (T:="dict") e.typeIs Z9 ?_))))
 simp only [US,S9,if_false]
 exact SG (SU (SG (SU (SG (Du g i j d e c (SU ⟨_,rfl,(fun x=>nomatch x),by simpa using q⟩))))))
end
noncomputable def pV (c:Hm)(a:List (List Int×D)):List (List Int×D)->Option Bool
 | []=>some true
 | (k,d)::r=>match b7 a k with
  | none=>some false
  | some y=>(c9 8 c d y).bind fun e=>(pV c a r).map fun b=>e&&b
noncomputable def fK (ne:Bool):D->D->Hm->Option (D×Hm)
 | .loc a,.loc b,μ=>match μ[a]?,μ[b]? with
  | some (.dT kvs),some (.dT kws)=>if kvs.length=kws.length then (pV μ kws kvs).map fun e=>(.bl (if ne then !e else e),μ) else some (.bl ne,μ)
  | _,_=>none
 | _,_,_=>none
noncomputable def Dv (K:SJ)(ne:Bool):R2:=fun x y H Q=>∃ π d a b ps qs kvs c e,Rp K π H d/\x=.ref (π a)/\y=.ref (π b)/\H (π a)=some (aW (π a) ps)/\H (π b)=some (aW (π b) qs)/\IsTs K π d.length H ps kvs/\IsTs K π d.length H qs c /\
 (kvs.length=c.length->pV d c kvs=some e)/\Q (.bl (if ne then !(kvs.length == c.length&&e) else (kvs.length == c.length&&e))) H
theorem sL {K:SJ}{ne:Bool}:cF K (fK ne) (Dv K ne):=by
 intro h H p x y d v w A Q R s u a k
 unfold fK at a
 split at a
 ·split at a
  ·rename_i b c hc i
   cases s
   cases u
   obtain ⟨n,l,T⟩:=eE R hc
   obtain ⟨o,m,j⟩:=eE R i
   split at a
   ·rename_i g
    obtain ⟨e,r,a⟩:=SS.mp a
    cases a
    refine ⟨h,p,_,_,n,o,b,c,e,R,rfl,rfl,l,m,T,j,fun _=>r,?_⟩
    rw [g,beq_self_eq_true,Bool.true_and]
    exact k h _ H .refl R (.bl _)
   ·rename_i g
    cases a
    refine ⟨h,p,_,_,n,o,b,c,true,R,rfl,rfl,l,m,T,j,fun z=>absurd z g,?_⟩
    have:(b.length == c.length)=false:=by simpa using g
    rw [this]
    have q:(if ne=true then !(false&&true) else (false&&true))=ne:=by cases ne<;>rfl
    rw [q]
    exact k h _ H .refl R (.bl _)
  ·cases a
 ·cases a
theorem Dw {X:Cx}{a4b:List (Addr×Vu)}{σ:St}{H:Hp}{s:SM}{π:Nat->Addr}{n:Hm}{A:Tv}(I:Inv X a4b σ H s)(R:Rp X.K π H n)(x:A.units+8<UT){qs:bD}{i:List (List Int×D)}{c:List SK}(o:IsTs X.K π n.length H qs i)(z:Vals (qs.map (·.2.2)) c) :
  ∀ {ps:bD}{kvs:List (List Int×D)}{ws:List SK}{e:Bool},IsTs X.K π n.length H ps kvs->Vals (ps.map (·.2.2)) ws->pV n i kvs=some e->Hits A s (bA qs c) (bA ps ws) e
 | _,_,_,_,.nil,.nil,h=>by cases h;exact .nil
 | _,_,_,_,.cons (a:=p) (b:=q) h t,.cons (b:=u) ru tu,g=>by
  obtain ⟨k,d⟩:=q
  have w:p.1=k:=h.1
  have a:=mE z p.1
  unfold bA
  rw [TB]
  simp only [pV] at g
  split at g
  ·rename_i m
   cases g
   refine .miss ?_
   rcases o.val p.1 with ⟨j,b⟩|⟨v,E,j,b,B⟩
   ·rw [j] at a
    cases l:Xr (bA qs c) p.1 with
    | none=>exact l
    | some y=>rw [l] at a;exact a.elim
   ·rw [w] at b;rw [m] at b;cases b
  ·rename_i y m
   obtain ⟨L,G,g⟩:=SF.mp g
   obtain ⟨K,l,g⟩:=SS.mp g
   subst g
   rcases o.val p.1 with ⟨j,b⟩|⟨v,E,j,b,B⟩
   ·rw [w] at b;rw [m] at b;cases b
   ·rw [w] at b;rw [m] at b
    cases b
    rw [j] at a
    cases r:Xr (bA qs c) p.1 with
    | none=>rw [r] at a;exact a.elim
    | some M=>
     rw [r] at a
     exact .hit (x:=(p.1,p.2.1,u)) r (vH I R 8 x ru a h.2.2 B G) (Dw I R x o z t tu l)
section
variable {X:Cx}{a b:Expr}{ma mb:ME}{pos:UY}{k:Nat}
theorem sM (ne:Bool)(hu:X.A.units+16<UT):OpR X (Uq (if ne then .NotEq else .Eq)) (Dv X.K ne):=by
 intro U s σ H x y v u Q I rx ry h
 obtain ⟨O,μ,i,j,n,o,l,m,e,R,rfl,rfl,Y,Z,T,g,hh,q⟩:=h
 obtain rfl:v=S2 (O i):=rx
 obtain rfl:u=S2 (O j):=ry
 obtain ⟨G,hl,p,r,B⟩:=fJ I (.of Y) T.keys
 obtain ⟨K,hl',d,N,E⟩:=fJ I (.of Z) g.keys
 have L:(bA n p).length=l.length:=by
  have w:=congrArg Ua (iN r)
  have A:=congrArg Ua T.to.1
  simp only [SQ] at w A
  omega
 have M:(bA o d).length=m.length:=by
  have w:=congrArg Ua (iN N)
  have A:=congrArg Ua g.to.1
  simp only [SQ] at w A
  omega
 have c:(bA n p).length=(bA o d).length->Hits X.A.in1 s (bA o d) (bA n p) e:=fun z=>Dw I R (by rw [lO];omega) g N T r (hh (by omega))
 cases ne with
 | false=>exact NL (mF (by omega)) (by omega) G K B E c ⟨.bl _,H,I,rfl,by rw [L,M];exact q⟩
 | true=>exact NM (mF (by omega)) (by omega) G K B E c ⟨.bl _,H,I,rfl,by rw [L,M];exact q⟩
theorem NN (e:Room k X.A)(c:QE X a ma)(d:QE X b mb):QE X (.Compare a [.Eq] [b] pos) (aB (fK false) ma mb):=⟨eU (sM false (by have:=e.un;omega)) sL c.h d.h (dO _)⟩
theorem NO (e:Room k X.A)(c:QE X a ma)(d:QE X b mb):QE X (.Compare a [.NotEq] [b] pos) (aB (fK true) ma mb):=⟨eU (sM true (by have:=e.un;omega)) sL c.h d.h (dO _)⟩
theorem NP (e:Room k X.A)(c:QE X a ma)(d:QE X b mb):QT X (.Compare a [.Eq] [b] pos) (aU (aB (fK false) ma mb)):=⟨eV (sM false (by have:=e.un;omega)) sL c.h d.h (dO _)⟩
theorem NQ (e:Room k X.A)(c:QE X a ma)(d:QE X b mb):QT X (.Compare a [.NotEq] [b] pos) (aU (aB (fK true) ma mb)):=⟨eV (sM true (by have:=e.un;omega)) sL c.h d.h (dO _)⟩
end
end L3
namespace L3
open PySem L2
theorem Dx {K b:Type} [DecidableEq K] {k:K}:∀ {xs:List (K×b)}{j:Nat}{p:b},(xs.map (·.1)).Nodup->xs[j]? = some (k,p)->xs.eraseIdx j=xs.filter fun x=>!decide (x.1=k)
 | [],j,p,_,h=>by simp at h
 | x::xs,0,p,hn,h=>by
  obtain rfl:x=(k,p):=by simpa using h
  rw [S5,TX] at hn
  rw [List.eraseIdx_cons_zero,Vx (by simp),List.filter_eq_self.mpr]
  intro y c
  have:y.1≠k:=fun e=>hn.1 (e ▸ a0Q (f:=(·.1)) c)
  simp [this]
 | x::xs,j+1,p,hn,h=>by
  rw [S5,TX] at hn
  have a:xs[j]? = some (k,p):=by simpa using h
  have:x.1≠k:=fun e=>hn.1 (e ▸ a0Q (f:=(·.1)) (Th a))
  rw [WX,Vv (by simp [this]),Dx hn.2 a]
theorem Dy {b c:Type}(f:b->c):∀ (l:List b)(j:Nat),(l.map f).eraseIdx j=(l.eraseIdx j).map f
 | [],_=>rfl
 | _::_,0=>rfl
 | a::l,j+1=>by rw [S5,WX,WX,S5,Dy f l j]
noncomputable def mJ (ps:bD)(k:List Int):bD:=ps.filter fun p=>!decide (p.1=k)
noncomputable def kS (kvs:List (List Int×D))(k:List Int):List (List Int×D):=kvs.filter fun p=>!decide (p.1=k)
theorem Dz {k:List Int}:∀ {ps:bD}{ws:List SK},Vals (ps.map (·.2.2)) ws->∃ a,Vals ((mJ ps k).map (·.2.2)) a/\((bA ps ws).filter fun x=>!decide (x.1=k))=bA (mJ ps k) a
 | [],_,.nil=>⟨[],.nil,by simp [bA]⟩
 | p::ps,_,.cons (b:=w) r t=>by
  obtain ⟨a,b,c⟩:=Dz (ps:=ps) t
  unfold mJ bA at *
  by_cases e:p.1=k
  ·refine ⟨a,?_,?_⟩
   ·rw [Vx (by simp [e])];exact b
   ·rw [Vx (by simp [e]),TB,Vx (by simp [e])];exact c
  ·refine ⟨w::a,?_,?_⟩
   ·rw [Vv (by simp [e])];exact .cons r b
   ·rw [Vv (by simp [e]),TB,Vv (by simp [e]),TB,c]
theorem IsTs.pop {K:SJ}{π:Nat->Addr}{n:Nat}{H:Hp}(k:List Int):∀ {ps:bD}{kvs:List (List Int×D)},IsTs K π n H ps kvs->IsTs K π n H (mJ ps k) (kS kvs k)
 | _,_,.nil=>.nil
 | p::ps,q::kvs,.cons e t=>by
  have a:=IsTs.pop k t
  unfold mJ kS at *
  by_cases h:p.1=k
  ·rw [Vx (by simp [h]),Vx (by simp [<- e.1,h])];exact a
  ·rw [Vv (by simp [h]),Vv (by simp [<- e.1,h])];exact .cons e a
section
variable {P:Tj}{w:TH}{K:Type} [DecidableEq K] {knd:a3Y P w K}
theorem NR (knd:a3Y P w K)(d a:Addr):a2K P w (Builtin.«dict.pop» ⟨[.ref d,.ref a],[]⟩) (fun A R s=>knd.room A.in1/\∃ k xs p,knd.is s.heap k a/\s.heap.DictOfH knd d xs/\xs.length<=S8/\Xr xs k=some p /\
   ∀ i,i.DictOfH knd d (xs.filter fun x=>!decide (x.1=k))->WB d s.heap i->R (.ok (.ret p.2)) { s with heap:=i,toks:=s.toks+knd.draws k }):=
 .of_wp fun A R s ⟨B,k,xs,p,v,y,I,r,q⟩=>by
  obtain ⟨o,h,E,b,hc,hd,e,c,g⟩:=id y
  have G:h.size=xs.length:=a0e e
  have z:0<xs.length:=by
   cases xs with
   | nil=>simp [Xr] at r
   | cons=>simp
  unfold Builtin.«dict.pop»
  refine SG ?_
  unfold a3I
  refine SG (U9 y.typeIs (SU ?_))
  show Tn _ _ (dictEntries d >>= _) _ _ s
  refine SG (Ud b hd (SG (SU ?_)))
  have m:h.isEmpty=false:=by
   rw [Array.isEmpty_eq_false_iff_exists_mem.mpr]
   exact ⟨h[0]'(by omega),Array.getElem_mem _⟩
  rw [m]
  show Tn _ _ (Zs d (.ref a) >>= _) _ _ s
  refine SG ?_
  unfold Zs
  refine Uc (SG (knd.pyHash B v (SG (a2a (s:={ s with toks:=s.toks+knd.draws k }) B v b hd e c g (fun n=>?_) fun j L l=>?_))))
  ·exact absurd (a2F n) (by rw [r];simp)
  ·have u:=atKey_of_get g l
   rw [r] at u
   cases u
   refine SG (Ud (s:={ s with toks:=s.toks+knd.draws k }) b hd ?_)
   rw [a3V e j,l]
   refine SG (wpAny_updateDictKeys (hz:=by omega) (s:={ s with toks:=s.toks+knd.draws k }) b hd (SU ?_))
   refine SG (a1M (SU ⟨_,rfl,?_⟩))
   refine q _ ⟨_,_,E+1,Vm _ b (a1c (Yz hd _)),hc.mapDictKeys _,Yz hd _,?_,fun x H=>?_,?_⟩ (Wn ..)
   ·rw [<- Dx g l,Y0,e,Dy]
   ·exact knd.keeps (c x ((T4.mp H).1)) b hd (Wn ..)
   ·exact (WH.map _).nodup g
end
noncomputable def kT:D->List D->Hm->Option (D×Hm)
 | .loc a,[y],μ=>match μ[a]? with
  | some (.dT kvs)=>(dC y).bind fun k=>(b7 kvs k).map fun d=>(d,μ.set a (.dT (kS kvs k)))
  | _=>none
 | _,_,_=>none
noncomputable def DA (K:SJ):V->List V->Hp->VK->Prop:=fun x vs H Q=>∃ a b ps k v,x=.ref a/\vs=[.ref b]/\H a=some (aW a ps)/\cC K H ps/\SqT K H b (k.map V.int)/\dZ ps k=some v/\Q v (aI H a (aW a (mJ ps k)))
theorem NS {K:SJ}:iJ K kT (DA K):=by
 intro z H I x G d y v E Q R s h a k
 unfold kT at a
 split at a
 ·split at a
  ·rename_i i hc
   obtain ⟨c,q,a⟩:=SF.mp a
   obtain ⟨A,e,a⟩:=SS.mp a
   cases a
   cases s with
   | loc g=>
    cases h with
    | cons u t=>
     cases t
     obtain ⟨n,l,T⟩:=eE R hc
     obtain ⟨b,rfl,r⟩:=nZ u q
     rcases T.val c with ⟨o,j⟩|⟨v,B,o,j,w⟩
     ·rw [j] at e;cases e
     ·rw [j] at e
      cases e
      obtain ⟨m,p⟩:=R.put (c:=.dT (kS i c)) (o:=aW _ (mJ n c)) g l (.inr (.inr ⟨_,rfl⟩)) ⟨_,rfl,(T.pop c).to⟩
      exact ⟨_,b,n,c,v,rfl,rfl,l,T.keys,r,o,k z _ _ m p (w.mono m)⟩
  ·cases a
 ·cases a
theorem NT {X:Cx}(L:X.A.units+1<UT):j6 X "dict.pop" (DA X.K):=by
 intro n s σ H x vs v Z Q I U T h
 obtain ⟨a,b,l,k,z,rfl,rfl,e,B,y,M,q⟩:=h
 cases U
 cases T with
 | cons R t=>
  cases t
  rename_i u
  obtain rfl:u=S2 b:=R
  obtain ⟨K,E,m,r,d⟩:=fJ I (.of e) B
  have N:(bA l m).length<=S8:=by
   have:=congrArg Ua (iN r)
   rw [SQ,SQ] at this
   omega
  have c:=mE r k
  rw [M] at c
  cases i:Xr (bA l m) k with
  | none=>rw [i] at c;exact c.elim
  | some p=>
   rw [i] at c
   refine X5 a0a d.typeIs PySem.F.entry_dict_pop (PySem.F.args_dict_pop_2 _ _) (NR (Va (V1 X.prog X.w)) a b) ⟨mF L,k,_,p,kM I y,d,N,i,fun w g j=>?_⟩
   obtain ⟨Y,O,o⟩:=Dz (k:=k) r
   rw [o] at g
   have A:∃ q,w.get? a=some q:=let ⟨q,_,_,G,_⟩:=g;⟨q,G⟩
   exact ⟨z,_,q8 I (by rw [e];exact Xh) j A (sD K (TQ (UA _ _) E) O g),c,q⟩
end L3
namespace L3
open PySem L2
noncomputable abbrev xD (_:Nat):Prop:=True
section
variable {X:Cx}{a4b:List (Addr×Vu)}{σ:St}{H H':Hp}{s:SM}{h':Uj}
theorem DB {t':Nat}(I:Inv X a4b σ H s)(k:∀ b u,s.heap.get? b=some u->h'.get? b=some u)(a:∀ b,b<s.heap.objs.size->H' b=H b)(new:∀ b o,s.heap.objs.size<=b->H' b=some o->ObjOk X.prog X.w H' h' b o) :
  Inv X a4b σ H' { s with heap:=h',toks:=t' }:=by
 have lt:∀ b u,H b=some u->b<s.heap.objs.size:=fun b u e=>a1S fun z=>by rw [I.hok.fresh z] at e;cases e
 have same:∀ b u,H b=some u->H' b=some u:=fun b u e=>by rw [a b (lt b u e)];exact e
 refine I.un ⟨fun b u q _ _ _=>k b u q,fun b u q _ _ _=>⟨u.slots,k b u q⟩,fun b u q n _=>by rw [a b (S6 q)];exact n,fun b u q _=>⟨u,k b u q⟩,fun b g q=>same b _ q,fun b u g q=>same b _ q,fun b h q=>⟨#[],by rw [same b _ q];simp⟩⟩ fun b u e=>?_
 by_cases d:b<s.heap.objs.size
 ·rw [a b d] at e
  exact (I.hok b u e).stay (fun c v _ q=>k c v q) (fun c q=>same c _ q) fun c g q=>same c _ q
 ·exact new b u (a1T d) e
noncomputable def cV (H:Hp):List Addr->bD->Hp
 | a::as,p::ps=>cV (aI H a (.tup [.ref p.2.1,p.2.2])) as ps
 | _,_=>H
theorem iP:∀ {as:List Addr}{ps:bD}{H:Hp}{b:Addr},b∉as->cV H as ps b=H b
 | [],_,_,_,_=>by simp [cV]
 | a::as,[],_,_,_=>rfl
 | a::as,p::ps,H,b,h=>by
  rw [To,not_or] at h
  show cV (aI H a _) as ps b=H b
  rw [iP h.2,bO h.1]
theorem oB:∀ {as:List Addr}{ps:bD}{H:Hp}{i:Nat}{a:Addr}{p:List Int×Addr×V},as.Nodup->as[i]? = some a->ps[i]? = some p->cV H as ps a=some (.tup [.ref p.2.1,p.2.2])
 | [],_,_,_,_,_,_,h,_=>by simp at h
 | _::_,[],_,_,_,_,_,_,h=>by simp at h
 | x::as,y::ps,H,0,a,p,nd,h1,h2=>by
  obtain rfl:x=a:=by simpa using h1
  obtain rfl:y=p:=by simpa using h2
  rw [TX] at nd
  show cV (aI H x _) as ps x=_
  rw [iP nd.1,cR]
 | x::as,y::ps,H,i+1,a,p,nd,h1,h2=>by
  rw [TX] at nd
  exact oB (as:=as) (ps:=ps) (i:=i) nd.2 (by simpa using h1) (by simpa using h2)
noncomputable def pW (ps:bD):List Nat:=bU (fun i j=>HT.lexLt ((ps.map (·.1)).getD i []) ((ps.map (·.1)).getD j [])) ps.length
noncomputable def dP (as:List Addr)(ps:bD):List V:=(pW ps).map fun i=>V.ref (as.getD i 0)
theorem NU (hc:X.calm=true)(hun:X.A.units+64<UT)(I:Inv X a4b σ H s){d r:Addr}{ps:bD}{Q:VK}(e:H d=some (aW d ps))(hk:cC X.K H ps)(h64:xD ps.length)(hv:s.heap.IsItemsView r d)
  (k:∀ (as:List Addr)(L l:Addr),as.length=ps.length->(l::L::as).Nodup->(∀ a∈l::L::as,H a=none)->Q (.ref l) (aI (aI (cV H as ps) L (.lst (dP as ps))) l (.tup (dP as ps)))) :
  Tn (Tr X.prog X.w) X.A (call (.builtin "sorted") [.ref r]) (fun v s'=>Tn (Tr X.prog X.w) X.A (call (.type "tuple") [v]) (EP X a4b σ Q) X.xe s') X.xe s:=by
 obtain ⟨lo,hl,ws,rv,z,es,ep,z1,z2,z3,z4,z5,z6⟩:=fJ I (.of e) hk
 have hwl:ws.length=ps.length:=by
  have:=rv.length
  rw [SQ] at this
  exact this.symm
 have hxl:(bA ps ws).length=ps.length:=by unfold bA;rw [a0S,hwl,a2W]
 have m:es.size=ps.length:=by rw [<- VC,z4,SQ,hxl]
 have nd:(ps.map (·.1)).Nodup:=by rw [iN rv] at z6;exact z6
 have M:∀ (j:Nat)(q:T6),es[j]? = some q->∃ p u,ps[j]? = some p/\ws[j]? = some u/\q.key=.ref p.2.1/\q.val=u:=fun j q h=>by
  rw [<- Ul,z4,Tx] at h
  obtain ⟨x,w,rfl⟩:=SS.mp h
  unfold bA at w
  rw [a0w] at w
  cases A:ps[j]? with
  | none=>rw [A] at w;simp at w
  | some p=>
   cases hw:ws[j]? with
   | none=>rw [A,hw] at w;simp at w
   | some u=>
    rw [A,hw] at w
    have:(p.1,p.2.1,u)=x:=by simpa using w
    subst this
    exact ⟨p,u,rfl,rfl,rfl,rfl⟩
 refine Nw wX [] (ks:=ps.map (·.1)) (an:=fun i j=>HT.lexLt ((ps.map (·.1)).getD i []) ((ps.map (·.1)).getD j [])) rfl (by rw [SQ,m]) nd (I.ok.hd hc) hv ⟨z,z1,z2,z3⟩ (by omega) (fun h22 Y K as kp U G=>?_) (fun Y K as L q kp U G hL nL gL=>?_)
 ·have I3:Inv X a4b σ H { s with heap:=Y,toks:=K }:=I.kept (t':=K) kp
  refine Nv (A:=X.A.in1.in1) (s:={ s with heap:=Y,toks:=K }) (bs:=ps.map (·.2.1)) (ks:=ps.map (·.1)) (by show X.A.units+1+1<UT;omega) G (by omega) U (by rw [SQ,m]) (by rw [SQ,m]) (fun j q y=>?_) nd
  obtain ⟨p,u,E,p2,p3,p4⟩:=M j q y
  have n:j<ps.length:=(SN.mp E).1
  have g:(ps.map (·.2.1)).getD j 0=p.2.1:=by simp [TY,E]
  have ek:(ps.map (·.1)).getD j []=p.1:=by simp [TY,E]
  rw [g,ek]
  have sq:=hk p (Th E)
  refine ⟨p3,kM I3 sq,?_⟩
  obtain ⟨xs,rx,t,_⟩:=I3.tuple sq
  exact ⟨xs,t,Ma rx⟩
 ·rw [m] at gL U
  have B:as.Nodup:=G.up.imp fun h=>Tp h
  have hin:∀ i∈pW ps,i<ps.length:=fun i hi=>TV.mp ((dX _ _).mem_iff.mp hi)
  have T:(pW ps).length=ps.length:=by
   have:=(dX (fun i j=>HT.lexLt ((ps.map (·.1)).getD i []) ((ps.map (·.1)).getD j [])) ps.length).length_eq
   rw [YW] at this
   exact this
  have nLa:L∉as:=fun h=>nL L h rfl
  have I1:Inv X a4b σ (aI (cV H as ps) L (.lst (dP as ps))) { s with heap:=Y,toks:=K }:=by
   refine DB (t':=K) I kp (fun b Z=>?_) fun b o Z g=>?_
   ·rw [bO (Tp (TF Z hL)),iP fun h=>a2X Z (G.over b h)]
   ·by_cases O:b=L
    ·subst O
     rw [cR] at g
     cases g
     refine ⟨by unfold dP;rw [SQ,T];exact hl,(pW ps).map fun i=>S2 (as.getD i 0),q,?_,gL⟩
     unfold dP
     exact xB fun i _=>rfl
    ·rw [bO O] at g
     by_cases R:b∈as
     ·obtain ⟨j,y⟩:=VJ.mp R
      have n:j<ps.length:=by
       have:=(SN.mp y).1
       omega
      have A:ps[j]? = some ps[j]:=SO n
      rw [oB B y A] at g
      cases g
      obtain ⟨x,x1,x2⟩:=G.prs j _ y
      obtain ⟨p,u,E,p2,p3,p4⟩:=M j x x1
      rw [A] at E
      cases E
      obtain ⟨u',g1,g2⟩:=rv.get (i:=j) (x:=ps[j].2.2) (by rw [Tx,A];rfl)
      rw [p2] at g1
      cases g1
      rw [p3,p4] at x2
      exact ⟨by show (2:Nat)<=S8;decide,[.ref ps[j].2.1,u],.cons rfl (.cons g2 .nil),_,x2,rfl,0,rfl,rfl⟩
     ·rw [iP R,I.hok.fresh Z] at g
      cases g
  refine A5 a4b _ σ _ [.ref L] [.ref L] Q I1 (.cons rfl .nil) ⟨L,dP as ps,rfl,.inl ⟨.inl (.inl cR),fun l c=>?_⟩⟩
  have lL:l≠L:=fun h=>by rw [h,cR] at c;cases c
  rw [bO lL] at c
  have la:l∉as:=fun h=>by
   obtain ⟨j,y⟩:=VJ.mp h
   have n:j<ps.length:=by
    have:=(SN.mp y).1
    omega
   rw [oB B y (SO n)] at c
   cases c
  rw [iP la] at c
  refine k as L l U ?_ fun a N=>?_
  ·rw [TX,TX]
   exact ⟨fun h=>(To.mp h).elim lL la,nLa,B⟩
  ·rcases To.mp N with rfl|N
   ·exact c
   rcases To.mp N with rfl|N
   ·exact I.hok.fresh hL
   ·exact I.hok.fresh (Xc (G.over a N))
end
noncomputable def iQ (k:List Int×D):D:=.tup [.tup (k.1.map D.int),k.2]
noncomputable def sN:D->Hm->Option (D×Hm)
 | .loc a,μ=>match μ[a]? with
  | some (.dT kvs)=>if xD kvs.length then some (.tup ((kR kvs).map iQ),μ) else none
  | _=>none
 | _,_=>none
noncomputable def oC (m:ME):ME:=fun ρ a=>(m ρ a).bind fun r=>sN r.1 r.2
noncomputable def DC (K:SJ):V->Hp->VK->Prop:=fun x H Q=>∃ a ps,x=.ref a/\H a=some (aW a ps)/\cC K H ps/\xD ps.length /\
 ∀ (as:List Addr)(L l:Addr),as.length=ps.length->(l::L::as).Nodup->(∀ a∈l::L::as,H a=none)->Q (.ref l) (aI (aI (cV H as ps) L (.lst (dP as ps))) l (.tup (dP as ps)))
section
variable {X:Cx}{o:Expr}{to:TE}{apos cpos p p2 pos pos2:UY}
theorem NV (hc:X.calm=true)(y:X.A.units+64<UT)(u:X.mg "sorted" = none) (w:X.mg "tuple" = none) (n:Gl X "sorted") (r:Gl X "tuple") (T:PE X o to)
  (c:VN o "items" X.env (eval o X.env)=eval o X.env) (d:(apos.endLine == cpos.line)=true) :
  PE X (.Call (.Name "tuple" p) [.Call (.Name "sorted" p2) [.Call (.Attribute o "items" apos) [] [] cpos] [] pos2] [] pos) (fun j H Q=>to j H fun x l=>DC X.K x l Q):=by
 intro i s j H Q I h
 refine Ve (iA I r w W2 ?_)
 refine U5 ?_ rfl rfl
 refine V9 ?_
 refine Ve (iA I n u VY ?_)
 refine WR ?_ rfl rfl
 refine V9 ?_
 refine Wf c d (aP (T i s j H _ I h) fun v A ⟨x,l,B,Z,a,ps,N,e,E,m,q⟩=>?_)
 subst N
 obtain rfl:v=S2 a:=Z
 obtain ⟨Y,hl,M,L,g,he⟩:=jO B e E
 refine ⟨"dict","dict.items",VX,WK,ZO,g.ty,fun b K=>?_,Vi rfl (WD ?_)⟩
 ·cases K
  obtain ⟨z,O,R,_⟩:=g
  exact ⟨z,O,R.2.1⟩
 refine X5 WK g.ty ZD (Zn _) (Dm a Y) ⟨⟨M,L,g⟩,?_⟩
 refine Wo ?_
 have G:Inv X i j l { A with heap:=A.heap.push { cls:=.type "dict_items",data:=.fields #[.ref a] } }:=B.kept (t':=A.toks) fun b o e=>SR _ e
 refine aP (NU hc y G e E m ⟨_,Te _ rfl,rfl,rfl⟩ q) fun v s' U=>Wo U
end
theorem xE {K:SJ}{π:Nat->Addr}{c:Hm}:∀ {as:List Addr}{ps:bD}{H:Hp},Rp K π H c->as.Nodup->(∀ a∈as,H a=none)->Ext π c.length H π c.length (cV H as ps)/\Rp K π (cV H as ps) c
 | [],_,H,R,_,_=>by simp only [cV];exact ⟨.refl,R⟩
 | a::as,[],H,R,_,_=>⟨.refl,R⟩
 | a::as,p::ps,H,R,nd,hf=>by
  rw [TX] at nd
  obtain ⟨g,e⟩:=R.fresh (o:=.tup [.ref p.2.1,p.2.2]) (hf a (Td ..))
  obtain ⟨h,R2⟩:=xE (as:=as) (ps:=ps) e nd.2 fun b d=>by
   rw [bO (fun w:b=a=>nd.1 (w ▸ d))]
   exact hf b (S3 _ d)
  exact ⟨g.trans h,R2⟩
theorem NW {K:SJ}{Y:ME}:∀ σ H Q,tM K (oC Y) σ H Q->tM K Y σ H fun x n=>DC K x n Q:=by
 rintro σ H Q ⟨π,ρ,μ,d,o,R,E,g,k⟩
 obtain ⟨⟨x,B⟩,h1,g⟩:=SF.mp g
 refine ⟨π,ρ,μ,x,B,R,E,h1,fun h v1 n e1 G i1=>?_⟩
 have k1:=k.after e1
 dsimp only at g
 unfold sN at g
 split at g
 ·split at g
  ·rename_i b hc
   split at g
   ·rename_i hb
    cases g
    cases i1
    obtain ⟨c,e2,T⟩:=eE G hc
    have X:c.length=b.length:=by
     have:=congrArg Ua T.to.1
     simpa using this
    refine ⟨_,c,rfl,e2,T.keys,by rw [X];exact hb,fun e L l al m v=>?_⟩
    rw [TX,TX] at m
    obtain ⟨I,R3⟩:=xE (ps:=c) G m.2.2 fun a ha=>v a (S3 _ (S3 _ ha))
    have hL:cV n e c L=none:=by rw [iP m.2.1];exact v L (S3 _ (Td ..))
    obtain ⟨M,R4⟩:=R3.fresh (o:=.lst (dP e c)) hL
    have hl:aI (cV n e c) L (.lst (dP e c)) l=none:=by
     rw [bO (fun w:l=L=>m.1 (by rw [w];exact Td ..)),iP fun w=>m.1 (S3 _ w)]
     exact v l (Td ..)
    obtain ⟨N,R5⟩:=R4.fresh (o:=.tup (dP e c)) hl
    refine k1 h _ _ ((I.trans M).trans N) R5 (.tup (.of cR) ?_)
    have z:c.map (·.1)=b.map (·.1):=T.to.1
    have A:∀ p:List Nat,(∀ i∈p,i<b.length)->IsDs K h o.length (aI (aI (cV n e c) L (.lst (dP e c))) l (.tup (dP e c))) (p.map fun i=>V.ref (e.getD i 0)) (p.map (iQ ∘ fun i=>b.getD i ([],.non))):=fun p r=>by
     induction p with
     | nil=>exact .nil
     | cons i p ih=>
      have s:=r i (Td ..)
      have q:e[i]? = some (e.getD i 0):=by simp [TY,show i<e.length by omega]
      have y:c[i]? = some c[i]:=SO (by omega)
      have hik:b[i]? = some b[i]:=SO s
      have O:b.getD i ([],.non)=b[i]:=by simp [TY,s]
      have ep:c.getD i ([],0,.non)=c[i]:=by simp [TY,show i<c.length by omega]
      have Z:=xA T ([],0,.non) ([],.non) i (by omega)
      rw [ep,O] at Z
      obtain ⟨q1,q2,q3⟩:=Z
      refine .cons ?_ (ih fun j hj=>r j (S3 _ hj))
      have u:aI (aI (cV n e c) L (.lst (dP e c))) l (.tup (dP e c)) (e.getD i 0)=some (.tup [.ref c[i].2.1,c[i].2.2]):=by
       have g:=Th q
       rw [bO (fun w:e.getD i 0=l=>m.1 (by rw [<- w];exact S3 _ g)),bO (fun w:e.getD i 0=L=>m.2.1 (by rw [<- w];exact g))]
       exact oB m.2.2 q y
      show IsD K h o.length _ (.ref (e.getD i 0)) (iQ (b.getD i ([],.non)))
      rw [O]
      have U:=(I.trans M).trans N
      have ik:IsD K h o.length n (.ref c[i].2.1) (.tup (b[i].1.map D.int)):=by
       rw [<- q1]
       exact .tup q2 (sA _)
      exact .tup (.of u) (.cons (ik.mono U) (.cons (q3.mono U) .nil))
    have ey:dP e c=(bU (fun i j=>HT.lexLt ((b.map (·.1)).getD i []) ((b.map (·.1)).getD j [])) b.length).map fun i=>V.ref (e.getD i 0):=by
     unfold dP pW
     rw [z,X]
    have fin:=A (bU (fun i j=>HT.lexLt ((b.map (·.1)).getD i []) ((b.map (·.1)).getD j [])) b.length) fun i s=>TV.mp ((dX _ _).mem_iff.mp s)
    rw [<- ey] at fin
    unfold kR
    rw [TM]
    exact fin
   ·cases g
  ·cases g
 ·cases g
theorem NX {X:Cx}{o:Expr}{j:ME}{a b p q pos c:UY}(hc:X.calm=true)(i:X.A.units+64<UT)(g:X.mg "sorted" = none) (h:X.mg "tuple" = none) (d:Gl X "sorted") (e:Gl X "tuple") (m:QE X o j)(n:fI o=true)(l:(a.endLine == b.line)=true) :
  QE X (.Call (.Name "tuple" p) [.Call (.Name "sorted" q) [.Call (.Attribute o "items" a) [] [] b] [] c] [] pos) (oC j):=
 ⟨b6 (NV hc i g h d e m.h (iK n) l) NW⟩
end L3
namespace L3
open PySem L2 PySem.W PyProof.Rows
section
variable {P:Tj}{w:TH}{A:Tv}{E:SK->SM->Prop}{s:SM}
theorem NY {h:Type}{lt:h->h->Bool}(O:Ord1 lt)(d:h){ks:List h}{l:Addr}{us:List SK}{Q:SK->SM->Prop}(m:ks.length=us.length)(r:ks.Nodup)(u:us.Nodup)(hz:us.length<=S8)(n:s.heap.IsList l us.toArray)
  (H:2<=us.length->∀ c:Uj,(∀ b o,s.heap.get? b=some o->c.get? b=some o)->kP P w A.in1.in1 us (fun i j=>lt (ks.getD i d) (ks.getD j d)) { s with heap:=c })
  (q:Q (.ref (s.heap.objs.size+1)) { s with heap:=sortedAll s.heap us ((bU (fun i j=>lt (ks.getD i d) (ks.getD j d)) us.length).map fun i=>us.getD i UK).toArray }):Tn (Tr P w) A (call (.builtin "sorted") [.ref l]) Q E s:=by
 refine X2 a1P a1j a1l (a1m _) ?_
 unfold YN
 refine SG (m:=a2r "sorted" 1 1 _) (SU (SG (collect_list n (SG (Yh ?_ (by omega))) (by omega))))
 have z:((s.heap.push (UH "list" #[] 0)).update s.heap.objs.size (UD (·++us.toArray))).objs.size=s.heap.objs.size+1:=by rw [a1L,size_push']
 have g:(((s.heap.push (UH "list" #[] 0)).update s.heap.objs.size (UD (·++us.toArray))).push (UH "list" us.toArray 0)).get? (s.heap.objs.size+1)=some (UH "list" us.toArray 0):=z ▸ Te _ rfl
 show Tn _ _ _ _ _ ⟨((s.heap.push (UH "list" #[] 0)).update s.heap.objs.size (UD (·++us.toArray))).push (UH "list" us.toArray 0),s.gens,s.drawn,s.toks,s.os⟩
 rw [z]
 by_cases a:2<=us.length
 ·refine SG (Uc (UG Xm ⟨_,g,rfl⟩ W5 (w9 O d m r u a hz g (fun c p=>H a c fun b o e=>p b o ?_ ?_) ⟨_,rfl,?_⟩) (Xs _)))
  ·exact Tp (Y7 (S6 e))
  ·exact SR _ ((UX _ _ (Vr (S6 e))).trans (SR _ e))
  ·exact SU ⟨_,rfl,q⟩
 ·refine SG (Uc (UG Xm ⟨_,g,rfl⟩ W5 (wJ (us:=us) (by omega) g ⟨_,rfl,?_⟩) (Xs _)))
  refine SU ⟨_,rfl,?_⟩
  match us,a,q with
  | [],_,q=>rw [UO,r8] at q;exact q
  | [b],_,q=>rw [VL,wK] at q;exact q
  | _::_::_,a,_=>simp at a
end
noncomputable abbrev PrsV (K:SJ)(H:Hp):List V->List (List Int)->Prop:=V6 fun v t=>∃ a b y,v=V.ref a/\SqT K H a [V.ref b,y]/\SqT K H b (t.map V.int)
theorem PrsV.get {K:SJ}{H:Hp}:∀ {vs:List V}{c:List (List Int)}{i:Nat},PrsV K H vs c->i<vs.length->∃ a b y,vs[i]? = some (V.ref a)/\SqT K H a [V.ref b,y]/\SqT K H b ((c.getD i []).map V.int)
 | _,_,_,.nil,h=>by simp at h
 | _,_,0,.cons ⟨a,b,y,e,q,q2⟩ _,_=>⟨a,b,y,by rw [e];rfl,q,q2⟩
 | _,_,i+1,.cons _ t,h=>by
  obtain ⟨a,b,y,e,q⟩:=PrsV.get (i:=i) t (by simpa using h)
  exact ⟨a,b,y,by simpa using e,q⟩
end L3
namespace L3
open PySem L2 PySem.W PyProof.Rows
section
variable {P:Tj}{w:TH}{A:Tv}{E:SK->SM->Prop}{s:SM}
theorem NZ {T:String}{r d:Addr}{H:Uj->Prop}{es:Array T6}{Q:SK->SM->Prop}{bs:List Addr}{ks:List (List Int)}(K:a3X P w T r d es.size (fun i v=>∃ e,es[i]? = some e/\v=e.key) H)(X:A.handled=none)(z:H s.heap)(I:es.toList.map (·.key)=bs.map S2)(hz:es.size<=S8)(M:ks.length=bs.length)(nd:ks.Nodup)(B:bs.Nodup)
  (key:∀ (j:Nat)(b:Addr),bs[j]? = some b->Dp s.heap b (ks.getD j [])/\ks.getD j []≠[])
  (q:∀ (h' u:Uj)(tk:Nat)(e:Nat),(∀ b o,s.heap.get? b=some o->h'.get? b=some o)->(∀ b o,h'.get? b=some o->u.get? b=some o)->u.get? h'.objs.size=some (UH "list" ((bU (fun i j=>HT.lexLt (ks.getD i []) (ks.getD j [])) es.size).map fun i=>S2 (bs.getD i 0)).toArray e)->Q (.ref h'.objs.size) { s with heap:=u,toks:=tk }) :
  Tn (Tr P w) A (call (.builtin "sorted") [.ref r]) Q E s:=by
 have g:bs.length=es.size:=by
  have:=congrArg Ua I
  simpa using this.symm
 refine X2 a1P a1j a1l (a1m _) ?_
 unfold YN
 refine SG (m:=a2r "sorted" 1 1 _) (SU (SG (kdu_collect (A:=A.in1) K X z hz fun h' tk c O a=>?_)))
 have R:c.toList=bs.map S2:=by
  rw [<- I]
  refine Vk fun i=>?_
  rw [Tx,Ul,Ul]
  cases N:c[i]? with
  | some v=>
   obtain ⟨e,z1,z2⟩:=a.2 i v N
   rw [z1,z2];rfl
  | none=>
   have:c.size<=i:=by simpa using N
   rw [W4 (by rw [<- a.1];exact this)];rfl
 rw [R]
 have G:(bs.map S2).length=es.size:=by rw [SQ,g]
 refine SG (Yh ?_ (by rw [G];omega))
 have nu:(bs.map S2).Nodup:=by
  unfold XY
  rw [TZ]
  exact B.imp fun h e=>h (by cases e;rfl)
 have m:(h'.push (UH "list" (bs.map S2).toArray 0)).get? h'.objs.size=some (UH "list" (bs.map S2).toArray 0):=Te _ rfl
 have fin:∀ l:List SK,l=((bU (fun i j=>HT.lexLt (ks.getD i []) (ks.getD j [])) es.size).map fun i=>S2 (bs.getD i 0))->Q (.ref h'.objs.size) { s with heap:=Yx (h'.push (UH "list" (bs.map S2).toArray 0)) h'.objs.size (bs.map S2) l.toArray,toks:=tk }:=by
  rintro l rfl
  obtain ⟨e,U⟩:=sortedHeap_at (h:=h'.push (UH "list" (bs.map S2).toArray 0)) (out:=((bU (fun i j=>HT.lexLt (ks.getD i []) (ks.getD j [])) es.size).map fun i=>S2 (bs.getD i 0)).toArray) m
  refine q h' _ tk e O (fun b o x=>?_) U
  rw [a3N (Tp (S6 x)) (by rw [XZ];exact Y7 (S6 x))]
  exact SR _ x
 by_cases L:2<=es.size
 ·refine SG (Uc (UG Xm (s:={ s with heap:=h'.push (UH "list" (bs.map S2).toArray 0),toks:=tk }) ⟨_,m,rfl⟩ W5 (w9 wX [] (ks:=ks) (by rw [G,M,g]) nd nu (by omega) (by omega) m (fun u Z=>?_) ⟨_,rfl,?_⟩) (Xs _)))
  ·refine Dr (by omega) M fun j b Y=>?_
   obtain ⟨⟨xs,⟨o,o1,o2⟩,n⟩,y⟩:=key j b Y
   have p:=O _ _ o1
   exact ⟨⟨xs,⟨o,Z b o (Tp (S6 p)) (SR _ p),o2⟩,n⟩,y⟩
  ·refine SU ⟨_,rfl,fin _ ?_⟩
   rw [G]
   refine UP fun i n=>?_
   have n:i<bs.length:=by
    have:=TV.mp ((dX _ es.size).mem_iff.mp n)
    omega
   simp [TY,n]
 ·refine SG (Uc (UG Xm (s:={ s with heap:=h'.push (UH "list" (bs.map S2).toArray 0),toks:=tk }) ⟨_,m,rfl⟩ W5 (wJ (by omega) m ⟨_,rfl,?_⟩) (Xs _)))
  refine SU ⟨_,rfl,fin (bs.map S2) ?_⟩
  match bs,g with
  | [],e=>rw [<- e];show []=(bU _ 0).map _;rw [r8];rfl
  | [b],e=>rw [<- e];show [S2 b]=(bU _ 1).map _;rw [wK];rfl
  | _::_::_,e=>rw [<- e] at L;simp at L
theorem DD (d:Addr)(hd:(d == Ui)=false):a2K P w (Builtin.«dict.keys» ⟨[.ref d],[]⟩) (fun _ R s=>(∃ es ep,RawD s.heap d es ep) /\
   R (.ok (.ret (.ref s.heap.objs.size))) { s with heap:=s.heap.push { cls:=.type "dict_keys",data:=.fields #[.ref d] } }):=
 .of_wp fun A R s ⟨⟨es,ep,g⟩,h⟩=>by
  unfold Builtin.«dict.keys»
  refine SG ?_
  unfold ZK
  refine SG (U9 g.ty ?_)
  show Tn _ _ (pure d) _ _ s
  refine SU ?_
  show Tn _ _ (UW d >>= _) _ _ s
  unfold UW
  rw [if_neg (by rw [hd];exact TC)]
  refine SG (SU ?_)
  exact SG (UR (SU ⟨_,rfl,h⟩))
theorem N0 {v d:Addr}{es:Array T6}{ep:Nat}{Q:SK->SM->Prop}(h:KdlKeysView s.heap v d)(g:RawD s.heap d es ep)
  (j:Q (.ref s.heap.objs.size) { s with heap:=s.heap.push { cls:=.type "dict_keyiterator",data:=.fields #[.ref d,.int 0 0,.int es.size 0,.int ep 0] } }) :
  Tn (Tr P w) A (ZX (.ref v)) Q E s:=by
 obtain ⟨m,e,l,c⟩:=id h
 obtain ⟨o,i,hc,a⟩:=id g
 refine Zv h.typeIs a2o (UG a2o h.typeIs kdl_entry_keys_iter ?_ (kdl_args_keys_iter _))
 unfold Builtin.«dict_keys.__iter__»
 refine SG (SU ?_)
 refine SG ?_
 unfold Ys
 refine SG (XT e c (x:=.ref d) rfl (SU ?_))
 refine SG ?_
 unfold Ye
 refine SG (Ud i a ?_)
 refine SG (VZ i a ?_)
 have b:VQ "dict_keyiterator" = false:=by decide
 simp only [b,S9,if_false]
 refine UR (SU ⟨_,rfl,"dict_keyiterator",_,⟨_,Te _ rfl,rfl⟩,PySem.F.slot_dict_keyiterator_next.lookup,?_⟩)
 simpa [WU] using j
theorem DE {r d:Addr}{es:Array T6}{ep:Nat}:a3X P w "dict_keys" r d es.size (fun i v=>∃ e,es[i]? = some e/\v=e.key) (fun h=>KdlKeysView h r d/\RawD h d es ep) where
 type:=fun _ g=>g.1.typeIs
 there:=fun _ g=>⟨let ⟨_,a,_⟩:=g.1;S6 a,g.2.lt⟩
 keep:=fun _ _ g c=>⟨let ⟨o,a,x⟩:=g.1;⟨o,c r (.inl rfl) o a,x⟩,g.2.stay fun o e=>c d (.inr rfl) o e⟩
 notList:=by decide
 notTuple:=by decide
 hint:=fun _ _ _ _ g b=>kdl_hint_keys g.1.typeIs b
 iter:=fun _ _ j g=>⟨_,_,(fun _ _ b=>N0 g.1 g.2 b),C3 j (Tp g.2.lt) es ep,⟨⟨_,Te _ rfl,rfl,rfl⟩,g.2.stay fun o e=>SR _ e⟩⟩
theorem N1 {r d:Addr}{es:Array T6}{ep:Nat}{Q:SK->SM->Prop}(L:A.handled=none)(v:s.heap.IsItemsView r d)(g:RawD s.heap d es ep)(M:es.size<=S8)
  (H:∀ (h':Uj)(tk c:Nat)(as:List Addr),(∀ b o,s.heap.get? b=some o->h'.get? b=some o)->h'.get? s.heap.objs.size=some (UH "list" (as.map S2).toArray c)->as.length=es.size->PrsAt es s.heap.objs.size h' as->Q (.ref s.heap.objs.size) { s with heap:=h',toks:=tk }) :
  Tn (Tr P w) A (call (.type "list") [.ref r]) Q E s:=by
 refine a0r (Q₁:=fun m i=>m=.ref s.heap.objs.size/\i = { s with heap:=s.heap.push { cls:=.type "list",data:=.seq #[] } }) PySem.F.called_list (PySem.F.typeCall_list_1 _) PySem.F.entry_list_init
  (code_list_new _ ⟨rfl,rfl⟩) fun m i l=>?_
 obtain ⟨rfl,rfl⟩:=l
 have n:(s.heap.push { cls:=.type "list",data:=.seq #[] }).get? s.heap.objs.size=some { cls:=.type "list",data:=.seq #[] }:=Te _ rfl
 have N:r<s.heap.objs.size:=let ⟨_,p,_⟩:=v;S6 p
 have z:=g.lt
 refine ⟨⟨_,n,rfl⟩,PySem.F.args_list_init_2 _ _,?_⟩
 show Tn _ _ (do let h <- Zc (.ref s.heap.objs.size);a3D (.ref s.heap.objs.size) (fun _=>#[]);letGo h.toList.reverse;V7 (.ref s.heap.objs.size) (.ref r) .none) _ _ _
 refine SG ?_
 unfold Zc
 refine SG (wpAny_seqItems n rfl (SU ?_))
 show Tn _ _ (a2O s.heap.objs.size (fun _=>#[]) >>= fun _=>letGo (#[]:Array SK).toList.reverse >>= fun _=>V7 (.ref s.heap.objs.size) (.ref r) .none) _ _ _
 refine SG (YA n rfl ?_)
 have j:=Vm (UD (fun _=>(#[]:Array SK))) n rfl
 have eK:∀ b o,b≠s.heap.objs.size->(s.heap.push { cls:=.type "list",data:=.seq #[] }).get? b=some o->((s.heap.push { cls:=.type "list",data:=.seq #[] }).update s.heap.objs.size (UD (fun _=>(#[]:Array SK)))).get? b=some o:=
  fun b o K e=>(UX _ _ (UM K)).trans e
 have h:∀ b o,s.heap.get? b=some o->((s.heap.push { cls:=.type "list",data:=.seq #[] }).update s.heap.objs.size (UD (fun _=>(#[]:Array SK)))).get? b=some o:=fun b o e=>eK b o (Tp (S6 e)) (SR _ e)
 have q:((s.heap.push { cls:=.type "list",data:=.seq #[] }).update s.heap.objs.size (UD (fun _=>(#[]:Array SK)))).objs.size=s.heap.objs.size+1:=by rw [a1L,XZ]
 refine SG (a1M ?_)
 refine Dk (A:=A.in1) (s:={ s with heap:=(s.heap.push { cls:=.type "list",data:=.seq #[] }).update s.heap.objs.size (UD (fun _=>(#[]:Array SK))) }) L (let ⟨o,p,x⟩:=v;⟨o,h _ _ p,x⟩) (g.stay fun o e=>h _ _ e) (Vr N) (Tp z) j M (fun h' tk y c as O R T u U=>?_)
 refine ⟨rfl,H h' tk c as (fun b o e=>O b o (Tp (S6 e)) (h b o e)) ?_ T ⟨u.up,fun a I=>?_,u.prs⟩⟩
 ·rw [R,<- U,Array.toArray_toList]
 ·have B:_<a:=u.over a I
  have G:s.heap.objs.size+1<a:=q ▸ B
  exact a1D G
end
section
variable {X:Cx}{a4b:List (Addr×Vu)}{σ:L2.St}{H:Hp}{s:SM}
noncomputable def sO (K:SJ):List V->Hp->VK->Prop:=fun xs H Q=>∃ a ps,xs=[V.ref a]/\H a=some (aW a ps)/\cC K H ps/\(∀ p∈ps,p.1≠[])/\∀ l,H l=none->Q (.ref l) (aI H l (.lst ((iO ps).map fun p=>V.ref p.2.1)))
theorem DF (I:L2.Inv X a4b σ H s){a:Addr}{ps:bD}(e:H a=some (aW a ps))(c:cC X.K H ps):(ps.map (·.1)).Nodup/\(ps.map (·.2.1)).Nodup:=by
 obtain ⟨p,o,q,l,z,n,m,r,u,v,w,A,g⟩:=fJ I (.of e) c
 have b:(ps.map (·.1)).Nodup:=by rw [iN l] at g;exact g
 refine ⟨b,?_⟩
 unfold XY at b ⊢
 rw [TZ] at b ⊢
 refine VH (fun {x y} i j h e=>h ?_) b
 have d:=c x i
 rw [e] at d
 exact Cp I d (c y j)
theorem DG {T:String}{r a:Addr}{z:Uj->Prop}{es:Array T6}{ps:bD}{Q:VK}(hc:X.calm=true)(I:L2.Inv X a4b σ H s)(g:ps.length<=S8)(A:es.toList.map (·.key)=ps.map fun p=>S2 p.2.1)(K:a3X X.prog X.w T r a es.size (fun i v=>∃ e,es[i]? = some e/\v=e.key) z)(u:z s.heap)
  (O:cC X.K H ps)(E:(ps.map (·.1)).Nodup/\(ps.map (·.2.1)).Nodup)(o:∀ p∈ps,p.1≠[])(q:∀ l,H l=none->Q (.ref l) (aI H l (.lst ((iO ps).map fun p=>V.ref p.2.1)))):Tn (Tr X.prog X.w) X.A (call (.builtin "sorted") [.ref r]) (EP X a4b σ Q) X.xe s:=by
 have R:es.size=ps.length:=by
  have:=congrArg Ua A
  simpa using this
 have M:∀ {j:Nat}{b:Addr},(ps.map (·.2.1))[j]? = some b->∃ p∈ps,ps[j]? = some p/\p.2.1=b:=fun {j b} c=>by
  rw [Tx] at c
  obtain ⟨p,d,L⟩:=SS.mp c
  exact ⟨p,Th d,d,L⟩
 refine NZ (bs:=ps.map (·.2.1)) (ks:=ps.map (·.1)) K (I.ok.hd hc) u (by rw [A,TM];rfl) (by omega) (by simp) E.1 E.2 (fun j b c=>?_) fun h N x e Y Z k3=>?_
 ·obtain ⟨p,B,d,rfl⟩:=M c
  have G:(ps.map (·.1)).getD j []=p.1:=by simp [TY,d]
  rw [G]
  obtain ⟨w,rx,t,_⟩:=I.tuple (O p B)
  exact ⟨⟨w,t,uX rx⟩,o p B⟩
 ·have y:Inv X a4b σ H { s with heap:=h,toks:=x }:=I.kept (t':=x) Y
  refine ⟨.ref h.objs.size,_,y.laid (t':=x) (h':=N) (a:=h.objs.size) (o:=.lst ((iO ps).map fun p=>V.ref p.2.1)) Z (SX _) ?_,rfl,q _ (y.hok.fresh (SX _))⟩
  have n:(iO ps).length=ps.length:=sortT_perm.length_eq
  refine ⟨by rw [SQ,n];exact g,_,e,?_,k3⟩
  unfold iO
  rw [R,TM]
  have:∀ l:List Nat,(∀ i∈l,i<ps.length)->Vals (l.map ((fun p:List Int×Addr×V=>V.ref p.2.1) ∘ fun i=>ps.getD i ([],0,.non))) (l.map fun i=>S2 ((ps.map (·.2.1)).getD i 0)):=fun l g=>by
   induction l with
   | nil=>exact .nil
   | cons i l U=>
    refine .cons ?_ (U fun j c=>g j (S3 _ c))
    have m:=g i (Td ..)
    show S2 _=S2 _
    simp [TY,m]
  exact this _ fun i m=>TV.mp ((dX _ ps.length).mem_iff.mp m)
theorem N2 (hc:X.calm=true):CallR X (.builtin "sorted") (sO X.K):=by
 intro a4b s σ H v p Q I r h
 obtain ⟨a,o,rfl,d,b,c,q⟩:=h
 obtain ⟨u,rfl,l⟩:=fU r
 cases l
 obtain ⟨j,i,n,m,g,e⟩:=jO I d b
 exact DG hc I i e (C4 j) g b (DF I d b) c q
noncomputable def kU:MF:=fun ds b=>match ds with
 | [.loc a]=>match b[a]? with
  | some (.dT kvs)=>if (∀ p∈kvs,p.1≠[]) then some (.loc b.length,b++[.lst ((kR kvs).map fun k=>D.tup (k.1.map D.int))]) else none
  | _=>none
 | _=>none
theorem DH {K:SJ}:dW K kU (sO K):=by
 intro B H A y d v x Q R i a k
 unfold kU at a
 split at a
 ·split at a
  ·rename_i b u
   split at a
   ·rename_i m
    cases a
    cases i with
    | cons i t=>
     cases t
     cases i
     obtain ⟨c,j,T⟩:=eE R u
     obtain ⟨w,g⟩:=Nx T
     refine ⟨_,c,rfl,j,T.keys,fun p o z=>?_,fun l n=>?_⟩
     ·have:p.1∈b.map (·.1):=by rw [<- T.to.1];exact Ts.mpr ⟨p,o,rfl⟩
      obtain ⟨q,r,e⟩:=Ts.mp this
      exact m q r (e.trans z)
     ·obtain ⟨h,R2,_⟩:=R.alloc (c:=.lst ((kR b).map fun k:List Int×D=>D.tup (k.1.map D.int))) (o:=.lst ((iO c).map fun p:List Int×Addr×V=>V.ref p.2.1)) n g.to.2.1
      exact k _ _ _ h R2 fY
   ·cases a
  ·cases a
 ·cases a
noncomputable def mK (m:ME):ME:=fun ρ a=>(m ρ a).bind fun r=>kU [r.1] r.2
theorem N3 {o:Expr}{to:TE}{c d p pos:UY}(hc:X.calm=true)(u:X.mg "sorted" = none) (n:Gl X "sorted") (R:PE X o to)
  (i:VN o "keys" X.env (eval o X.env)=eval o X.env) (j:(c.endLine == d.line)=true) :
  PE X (.Call (.Name "sorted" p) [.Call (.Attribute o "keys" c) [] [] d] [] pos) (fun σ H Q=>to σ H fun x l=>sO X.K [x] l Q):=by
 intro a4b s σ H Q I h
 refine Ve (iA I n u VY ?_)
 refine WR ?_ rfl rfl
 refine V9 ?_
 refine Wf i j (aP (R a4b s σ H _ I h) fun v y ⟨x,l,m,U,a,Y,K,e,r,w,q⟩=>?_)
 cases K
 obtain rfl:v=S2 a:=U
 obtain ⟨T,O,G,A,g,N⟩:=jO m e r
 refine ⟨"dict","dict.keys",VX,WV,Z1,g.ty,fun b E=>?_,Vi rfl (WD ?_)⟩
 ·cases E
  obtain ⟨z,L,M,_⟩:=g
  exact ⟨z,L,M.2.1⟩
 refine X5 WV g.ty ZQ (ZE _) (DD a T) ⟨⟨G,A,g⟩,?_⟩
 refine Wo ?_
 have B:Inv X a4b σ l { y with heap:=y.heap.push { cls:=.type "dict_keys",data:=.fields #[.ref a] } }:=m.kept (t':=y.toks) fun b o e=>SR _ e
 exact DG hc B O N (DE (ep:=A)) ⟨⟨_,Te _ rfl,rfl,rfl⟩,g.stay fun o e=>SR _ e⟩ r (DF m e r) w q
theorem N4 {K:SJ}{h:ME}:∀ σ H Q,tM K (mK h) σ H Q->tM K h σ H fun x b=>sO K [x] b Q:=by
 rintro σ H Q ⟨p,q,o,d,e,R,E,c,k⟩
 obtain ⟨⟨x,a⟩,l,c⟩:=SF.mp c
 refine ⟨p,q,o,x,a,R,E,l,fun g n b j i m=>?_⟩
 exact DH g b a [x] d e [n] Q i (.cons m .nil) c (k.after j)
theorem N5 {o:Expr}{e:ME}{a b p pos:UY}(hc:X.calm=true)(d:X.mg "sorted" = none) (c:Gl X "sorted") (h:QE X o e)(i:fI o=true)(g:(a.endLine == b.line)=true) :
  QE X (.Call (.Name "sorted" p) [.Call (.Attribute o "keys" a) [] [] b] [] pos) (mK e):=
 ⟨b6 (N3 hc d c h.h (iK i) g) N4⟩
noncomputable def DI:D->Hm->Option (D×Hm)
 | .loc a,μ=>match μ[a]? with
  | some (.dT kvs)=>some (.loc μ.length,μ++[.lst (kvs.map iQ)])
  | _=>none
 | _,_=>none
noncomputable def xF (m:ME):ME:=fun ρ a=>(m ρ a).bind fun r=>DI r.1 r.2
noncomputable def DJ (K:SJ):V->Hp->VK->Prop:=fun x H Q=>∃ a ps,x=.ref a/\H a=some (aW a ps)/\cC K H ps /\
 ∀ (as:List Addr)(L:Addr),as.length=ps.length->(L::as).Nodup->(∀ a∈L::as,H a=none)->Q (.ref L) (aI (cV H as ps) L (.lst (as.map V.ref)))
theorem DK:∀ as:List Addr,Vals (as.map V.ref) (as.map S2)
 | []=>.nil
 | a::as=>.cons rfl (DK as)
theorem N6 {d r:Addr}{ps:bD}{Q:VK}(hc:X.calm=true)(I:L2.Inv X a4b σ H s)(e:H d=some (aW d ps))(hk:cC X.K H ps)(hv:s.heap.IsItemsView r d)
  (k:∀ (as:List Addr)(L:Addr),as.length=ps.length->(L::as).Nodup->(∀ a∈L::as,H a=none)->Q (.ref L) (aI (cV H as ps) L (.lst (as.map V.ref)))) :
  Tn (Tr X.prog X.w) X.A (call (.type "list") [.ref r]) (EP X a4b σ Q) X.xe s:=by
 obtain ⟨lo,hl,y,Z,z,T,ep,z1,z2,z3,z4,z5,z6⟩:=fJ I (.of e) hk
 have N:y.length=ps.length:=by
  have:=Z.length
  rw [SQ] at this
  exact this.symm
 have O:(bA ps y).length=ps.length:=by unfold bA;rw [a0S,N,a2W]
 have G:T.size=ps.length:=by rw [<- VC,z4,SQ,O]
 have B:∀ (j:Nat)(l:T6),T[j]? = some l->∃ p u,ps[j]? = some p/\y[j]? = some u/\l.key=.ref p.2.1/\l.val=u:=fun j l h=>by
  rw [<- Ul,z4,Tx] at h
  obtain ⟨x,c,rfl⟩:=SS.mp h
  unfold bA at c
  rw [a0w] at c
  cases i:ps[j]? with
  | none=>rw [i] at c;simp at c
  | some p=>
   cases hw:y[j]? with
   | none=>rw [i,hw] at c;simp at c
   | some u=>
    rw [i,hw] at c
    have:(p.1,p.2.1,u)=x:=by simpa using c
    subst this
    exact ⟨p,u,rfl,rfl,rfl,rfl⟩
 refine N1 (I.ok.hd hc) hv ⟨z,z1,z2,z3⟩ (by omega) fun h3 tk l as kp gL A v=>?_
 rw [G] at A
 have q:as.Nodup:=v.up.imp fun h=>Tp h
 have R:s.heap.objs.size∉as:=fun h=>Vj _ (v.over _ h)
 have hf:∀ a∈s.heap.objs.size::as,H a=none:=fun a E=>by
  rcases To.mp E with rfl|E
  ·exact I.hok.fresh (SX _)
  ·exact I.hok.fresh (Xc (v.over a E))
 refine ⟨.ref s.heap.objs.size,_,?_,rfl,k as s.heap.objs.size A (TX.mpr ⟨R,q⟩) hf⟩
 refine DB (t':=tk) I kp (fun b w=>?_) fun b o w g=>?_
 ·rw [bO (Tp w),iP fun h=>a2X w (v.over b h)]
 ·by_cases m:b=s.heap.objs.size
  ·subst m
   rw [cR] at g
   cases g
   exact ⟨by rw [SQ,A];exact hl,as.map S2,l,DK as,gL⟩
  ·rw [bO m] at g
   by_cases n:b∈as
   ·obtain ⟨j,K⟩:=VJ.mp n
    have M:j<ps.length:=by
     have:=(SN.mp K).1
     omega
    have i:ps[j]? = some ps[j]:=SO M
    rw [oB q K i] at g
    cases g
    obtain ⟨x,x1,x2⟩:=v.prs j _ K
    obtain ⟨p,u,Y,p2,p3,p4⟩:=B j x x1
    rw [i] at Y
    cases Y
    obtain ⟨u',U,g2⟩:=Z.get (i:=j) (x:=ps[j].2.2) (by rw [Tx,i];rfl)
    rw [p2] at U
    cases U
    rw [p3,p4] at x2
    exact ⟨by show (2:Nat)<=S8;decide,[.ref ps[j].2.1,u],.cons rfl (.cons g2 .nil),_,x2,rfl,0,rfl,rfl⟩
   ·rw [iP n,I.hok.fresh w] at g
    cases g
theorem N7 {o:Expr}{to:TE}{c d p pos:UY}(hc:X.calm=true)(n:X.mg "list" = none) (m:Gl X "list") (M:PE X o to)
  (i:VN o "items" X.env (eval o X.env)=eval o X.env) (j:(c.endLine == d.line)=true) :
  PE X (.Call (.Name "list" p) [.Call (.Attribute o "items" c) [] [] d] [] pos) (fun σ H Q=>to σ H fun x l=>DJ X.K x l Q):=by
 intro a4b s σ H Q I h
 refine Ve (iA I m n V8 ?_)
 refine U5 ?_ rfl rfl
 refine V9 ?_
 refine Wf i j (aP (M a4b s σ H _ I h) fun v r ⟨x,l,u,O,a,U,G,e,w,q⟩=>?_)
 subst G
 obtain rfl:v=S2 a:=O
 obtain ⟨N,T,E,B,g,R⟩:=jO u e w
 refine ⟨"dict","dict.items",VX,WK,ZO,g.ty,fun b A=>?_,Vi rfl (WD ?_)⟩
 ·cases A
  obtain ⟨z,K,L,_⟩:=g
  exact ⟨z,K,L.2.1⟩
 refine X5 WK g.ty ZD (Zn _) (Dm a N) ⟨⟨E,B,g⟩,?_⟩
 refine Wo ?_
 have y:Inv X a4b σ l { r with heap:=r.heap.push { cls:=.type "dict_items",data:=.fields #[.ref a] } }:=u.kept (t':=r.toks) fun b o e=>SR _ e
 exact N6 hc y e w ⟨_,Te _ rfl,rfl,rfl⟩ q
theorem N8 {K:SJ}{G:ME}:∀ σ H Q,tM K (xF G) σ H Q->tM K G σ H fun x n=>DJ K x n Q:=by
 rintro σ H Q ⟨π,ρ,μ,d,μ',R,E,l,k⟩
 obtain ⟨⟨x,g⟩,h1,l⟩:=SF.mp l
 refine ⟨π,ρ,μ,x,g,R,E,h1,fun m v1 n O z i1=>?_⟩
 have k1:=k.after O
 dsimp only at l
 unfold DI at l
 split at l
 ·split at l
  ·rename_i b hc
   cases l
   cases i1
   obtain ⟨e,U,T⟩:=eE z hc
   have el:e.length=b.length:=by
    have:=congrArg Ua T.to.1
    simpa using this
   refine ⟨_,e,rfl,U,T.keys,fun c L al r B=>?_⟩
   rw [TX] at r
   obtain ⟨u,M⟩:=xE (ps:=e) z r.2 fun a ha=>B a (S3 _ ha)
   have hL:cV n c e L=none:=by rw [iP r.1];exact B L (Td ..)
   have p:IsDs K m g.length (cV n c e) (c.map V.ref) (b.map iQ):=by
    have y:∀ o:List Nat,(∀ i∈o,i<b.length)->IsDs K m g.length (cV n c e) (o.map fun i=>V.ref (c.getD i 0)) (o.map fun i=>iQ (b.getD i ([],.non))):=fun o q=>by
     induction o with
     | nil=>exact .nil
     | cons i o ih=>
      have h:=q i (Td ..)
      have v:c[i]? = some (c.getD i 0):=by simp [TY,show i<c.length by omega]
      have w:e[i]? = some e[i]:=SO (by omega)
      have A:b.getD i ([],.non)=b[i]:=by simp [TY,h]
      have ep:e.getD i ([],0,.non)=e[i]:=by simp [TY,show i<e.length by omega]
      have I:=xA T ([],0,.non) ([],.non) i (by omega)
      rw [ep,A] at I
      obtain ⟨q1,q2,q3⟩:=I
      refine .cons ?_ (ih fun j hj=>q j (S3 _ hj))
      show IsD K m g.length _ (.ref (c.getD i 0)) (iQ (b.getD i ([],.non)))
      rw [A]
      have ik:IsD K m g.length n (.ref e[i].2.1) (.tup (b[i].1.map D.int)):=by
       rw [<- q1]
       exact .tup q2 (sA _)
      exact .tup (.of (oB r.2 v w)) (.cons (ik.mono u) (.cons (q3.mono u) .nil))
    have:=y (Tz b.length) fun i h=>TV.mp h
    have Z:(Tz b.length).map (fun i=>V.ref (c.getD i 0))=c.map V.ref:=by
     apply Vk
     intro i
     rw [Tx,Tx]
     by_cases h:i<b.length
     ·rw [XN h,SO (show i<c.length by omega)]
      simp [TY,show i<c.length by omega]
     ·rw [Ue (by simp;omega),Ue (by omega)]
      rfl
    have e6:(Tz b.length).map (fun i=>iQ (b.getD i ([],.non)))=b.map iQ:=by
     apply Vk
     intro i
     rw [Tx,Tx]
     by_cases h:i<b.length
     ·rw [XN h,SO h]
      simp [TY,h]
     ·rw [Ue (by simp;omega),Ue (by omega)]
      rfl
    rw [Z,e6] at this
    exact this
   obtain ⟨Y,N,_⟩:=M.alloc (c:=.lst (b.map iQ)) (o:=.lst (c.map V.ref)) hL p
   exact k1 _ _ _ (u.trans Y) N fY
  ·cases l
 ·cases l
theorem N9 {o:Expr}{e:ME}{a b p pos:UY}(hc:X.calm=true)(d:X.mg "list" = none) (c:Gl X "list") (h:QE X o e)(i:fI o=true)(g:(a.endLine == b.line)=true) :
  QE X (.Call (.Name "list" p) [.Call (.Attribute o "items" a) [] [] b] [] pos) (xF e):=
 ⟨b6 (N7 hc d c h.h (iK i) g) N8⟩
noncomputable def xG:MF:=fun ds b=>match ds with
 | [x]=>(wN b x).bind fun c=>(wM c).bind fun a=>if a.Nodup/\∀ t∈a,t≠[] then some (.loc b.length,b++[.lst ((bU (nR a) a.length).map fun i=>c.getD i .non)]) else none
 | _=>none
noncomputable def DL (K:SJ):List V->Hp->VK->Prop:=fun xs H Q=>∃ q ws ks,xs=[V.ref q]/\SqL K H q ws/\TupsV K H ws ks/\ks.Nodup/\(∀ t∈ks,t≠[])/\∀ l,H l=none->Q (.ref l) (aI H l (.lst ((bU (nR ks) ws.length).map fun i=>ws.getD i .non)))
theorem Oa {K:SJ}:dW K xG (DL K):=by
 intro y H x w d u v Q R i a k
 unfold xG at a
 split at a
 ·obtain ⟨r,m,a⟩:=SF.mp a
  obtain ⟨c,n,a⟩:=SF.mp a
  split at a
  ·rename_i h
   cases a
   cases i with
   | cons i t=>
    cases t
    obtain ⟨p,e,rfl,q,hd⟩:=Mf R i m
    have b:=hd
    rw [Ct n] at b
    have o:e.length=c.length:=by
     have:=b.length
     rw [SQ] at this
     exact this
    refine ⟨p,e,c,rfl,q,Cv b,h.1,h.2,fun l g=>?_⟩
    obtain ⟨j,R2,_⟩:=R.alloc (c:=.lst ((bU (nR c) c.length).map fun i=>r.getD i .non)) (o:=.lst ((bU (nR c) e.length).map fun i=>e.getD i .non)) g (by
     show IsDs _ _ _ _ _ _
     rw [o]
     exact Cy hd _)
    exact k _ _ _ j R2 fY
  ·cases a
 ·cases a
theorem Ob:CallR X (.builtin "sorted") (DL X.K):=by
 intro a4b s σ H xs us Q I r h
 obtain ⟨q,m,g,rfl,hq,T,v,x,k⟩:=h
 obtain ⟨u,rfl,ru⟩:=fU r
 cases ru
 obtain ⟨c,A,pl,hz⟩:=I.list hq
 have o:=A.length
 have R:g.length=m.length:=T.length.symm
 have y:∃ d:List Addr,c=d.map S2:=by
  clear hz pl v x k hq I o R
  induction T generalizing c with
  | nil=>cases A;exact ⟨[],rfl⟩
  | cons h _ U=>
   cases A with
   | cons r1 r2=>
    obtain ⟨d,e⟩:=U _ r2
    obtain ⟨a,rfl,_⟩:=h
    cases r1
    exact ⟨a::d,by rw [e];rfl⟩
 obtain ⟨d,B⟩:=y
 have hal:d.length=c.length:=by rw [B,SQ]
 have pr:∀ i,i<d.length->SqT X.K H (d.getD i 0) ((g.getD i []).map V.int):=fun i n=>by
  obtain ⟨a,ea,sa⟩:=Me A T (SO (show i<c.length by omega))
  have:d.getD i 0=a:=by
   subst B
   simp only [List.getElem_map] at ea
   cases ea
   simp [TY,n]
  rw [this]
  exact sa
 have Y:d.Nodup:=by
  refine TN.mpr fun i j n p M e=>?_
  have h1:=pr i n
  have f1:=pr j p
  have E:d.getD i 0=d[i]:=by simp [TY,n]
  have G:d.getD j 0=d[j]:=by simp [TY,p]
  rw [E] at h1
  rw [G,<- e] at f1
  have hk:=Cp I h1 f1
  have K:g.getD i []=g[i]:=by simp [TY,show i<g.length by omega]
  have L:g.getD j []=g[j]:=by simp [TY,show j<g.length by omega]
  rw [K,L] at hk
  exact (TN.mp v) i j (by omega) (by omega) M hk
 have Z:c.Nodup:=by
  rw [B]
  unfold XY
  rw [TZ]
  exact Y.imp fun h e=>h (by cases e;rfl)
 refine NY wX [] (ks:=g) (by omega) v Z (by omega) pl.isList (fun h22 h3 kp=>?_) ?_
 ·have I3:Inv X a4b σ H { s with heap:=h3,toks:=s.toks }:=I.kept (t':=s.toks) kp
  rw [B]
  refine Dr (A:=X.A.in1.in1) (s:={ s with heap:=h3 }) (by omega) (by omega) fun j b p=>?_
  have O:j<d.length:=(SN.mp p).1
  have eb:d.getD j 0=b:=by simp [TY,p]
  have:=pr j O
  rw [eb] at this
  obtain ⟨xs,rx,t,_⟩:=I3.tuple this
  refine ⟨⟨xs,t,uX rx⟩,x _ ?_⟩
  rw [Tt,SO (show j<g.length by omega)]
  exact Vo _
 ·obtain ⟨e,he⟩:=a3o s.heap c ((bU (fun i j=>HT.lexLt (g.getD i []) (g.getD j [])) c.length).map fun i=>c.getD i UK).toArray
  refine ⟨.ref (s.heap.objs.size+1),_,I.laid (t':=s.toks) (a:=s.heap.objs.size+1) (o:=.lst ((bU (nR g) m.length).map fun i=>m.getD i .non)) (fun b ob z=>a3n z) (Zo _) ?_,rfl,k _ (I.hok.fresh (Zo _))⟩
  refine ⟨?_,_,e,?_,he⟩
  ·rw [SQ,(dX _ _).length_eq,YW]
   exact hz
  ·rw [<- o]
   have N:∀ i∈bU (nR g) m.length,i<m.length:=fun i n=>TV.mp ((dX _ _).mem_iff.mp n)
   have w:∀ l:List Nat,(∀ i∈l,i<m.length)->Vals (l.map fun i=>m.getD i .non) (l.map fun i=>c.getD i UK):=fun l=>by
    induction l with
    | nil=>intro _;exact .nil
    | cons i l U=>
     intro hl
     refine .cons ?_ (U fun j p=>hl j (S3 _ p))
     have n:=hl i (Td ..)
     obtain ⟨u,K,L⟩:=A.get (SO n)
     have E:m.getD i .non=m[i]:=by simp [TY,n]
     have G:c.getD i UK=u:=by simp [TY,K]
     show RelV (m.getD i .non) (c.getD i UK)
     rw [E,G]
     exact L
   exact w _ N
end
end L3
namespace L3
open PySem L2 PySem.W PyProof.Rows
section
variable {X:Cx}{a4b:List (Addr×Vu)}{σ:L2.St}{H:Hp}{s:SM}
theorem Oc {T:String}{r a:Addr}{g:Uj->Prop}{es:Array T6}{ps:bD}{Q:VK}(hc:X.calm=true)(I:L2.Inv X a4b σ H s)(x:ps.length<=S8)(h:es.toList.map (·.key)=ps.map fun p=>S2 p.2.1)(K:a3X X.prog X.w T r a es.size (fun i v=>∃ e,es[i]? = some e/\v=e.key) g)(d:g s.heap)
  (q:∀ l,H l=none->Q (.ref l) (aI H l (.lst (ps.map fun p=>V.ref p.2.1)))):Tn (Tr X.prog X.w) X.A (call (.type "list") [.ref r]) (EP X a4b σ Q) X.xe s:=by
 have B:es.size=ps.length:=by
  have:=congrArg Ua h
  simpa using this
 refine a0N K (I.ok.hd hc) d (by omega) fun A z b m y w c=>?_
 refine ⟨.ref s.heap.objs.size,_,I.laid (t':=z) (a:=s.heap.objs.size) (o:=.lst (ps.map fun p=>V.ref p.2.1)) y (SX _) ?_,rfl,q _ (I.hok.fresh (SX _))⟩
 refine ⟨by rw [SQ];exact x,b.toList,m,?_,by simpa using w⟩
 have n:b.toList=ps.map fun p=>S2 p.2.1:=by
  rw [<- h]
  refine Vk fun i=>?_
  rw [Tx,Ul,Ul]
  cases j:b[i]? with
  | some v=>
   obtain ⟨e,o,u⟩:=c.2 i v j
   rw [o,u];rfl
  | none=>
   have:b.size<=i:=by simpa using j
   rw [W4 (by rw [<- c.1];exact this)];rfl
 rw [n]
 exact w8 ps
noncomputable def sP:D->Hm->Option (D×Hm)
 | .loc a,μ=>match μ[a]? with
  | some (.dT kvs)=>some (.loc μ.length,μ++[.lst (kvs.map fun k=>D.tup (k.1.map D.int))])
  | _=>none
 | _,_=>none
noncomputable def oD (m:ME):ME:=fun ρ a=>(m ρ a).bind fun r=>sP r.1 r.2
theorem Od {o:Expr}{to:TE}{c d p pos:UY}(hc:X.calm=true)(n:X.mg "list" = none) (m:Gl X "list") (O:PE X o to)
  (i:VN o "keys" X.env (eval o X.env)=eval o X.env) (j:(c.endLine == d.line)=true) :
  PE X (.Call (.Name "list" p) [.Call (.Attribute o "keys" c) [] [] d] [] pos) (fun σ H Q=>to σ H fun x l=>sF X.K [x] l Q):=by
 intro a4b s σ H Q I h
 refine Ve (iA I m n V8 ?_)
 refine U5 ?_ rfl rfl
 refine V9 ?_
 refine Wf i j (aP (O a4b s σ H _ I h) fun v r ⟨x,l,u,T,a,U,E,e,M,q⟩=>?_)
 cases E
 obtain rfl:v=S2 a:=T
 obtain ⟨R,N,B,w,g,L⟩:=jO u e M
 refine ⟨"dict","dict.keys",VX,WV,Z1,g.ty,fun b A=>?_,Vi rfl (WD ?_)⟩
 ·cases A
  obtain ⟨z,G,K,_⟩:=g
  exact ⟨z,G,K.2.1⟩
 refine X5 WV g.ty ZQ (ZE _) (DD a R) ⟨⟨B,w,g⟩,?_⟩
 refine Wo ?_
 have y:Inv X a4b σ l { r with heap:=r.heap.push { cls:=.type "dict_keys",data:=.fields #[.ref a] } }:=u.kept (t':=r.toks) fun b o e=>SR _ e
 exact Oc hc y N L (DE (ep:=w)) ⟨⟨_,Te _ rfl,rfl,rfl⟩,g.stay fun o e=>SR _ e⟩ q
theorem Oe {K:SJ}{i:ME}:∀ σ H Q,tM K (oD i) σ H Q->tM K i σ H fun x g=>sF K [x] g Q:=by
 rintro σ H Q ⟨y,A,v,d,w,R,E,a,k⟩
 obtain ⟨⟨x,e⟩,b,a⟩:=SF.mp a
 refine ⟨y,A,v,x,e,R,E,b,fun z B g m h r=>?_⟩
 have u:=k.after m
 dsimp only at a
 unfold sP at a
 split at a
 ·split at a
  ·rename_i c q
   cases a
   cases r
   obtain ⟨j,b,T⟩:=eE h q
   refine ⟨_,j,rfl,b,T.keys,fun l o=>?_⟩
   obtain ⟨n,R2,_⟩:=h.alloc (c:=.lst (c.map fun k:List Int×D=>D.tup (k.1.map D.int))) (o:=.lst (j.map fun p:List Int×Addr×V=>V.ref p.2.1)) o T.to.2.1
   exact u _ _ _ n R2 fY
  ·cases a
 ·cases a
theorem Og {o:Expr}{e:ME}{a b p pos:UY}(hc:X.calm=true)(d:X.mg "list" = none) (c:Gl X "list") (h:QE X o e)(i:fI o=true)(g:(a.endLine == b.line)=true) :
  QE X (.Call (.Name "list" p) [.Call (.Attribute o "keys" a) [] [] b] [] pos) (oD e):=
 ⟨b6 (Od hc d c h.h (iK i) g) Oe⟩
end
end L3
namespace L3
open PySem L2
structure Sig where
 fn:List (Str×Nat)
 con:List (Str×D)
 tab:List (Str×List (aF×D))
 no:List Str
 dIt:List Str
 dEq:List Str
 dMe:List Str
structure Cs where
 N:List Str
 ks:List (Str×V2)
noncomputable def mL (x:Str):List Str->Option Nat
 | []=>none
 | y::r=>if x=y then some 0 else (mL x r).map (·+1)
theorem pX {x:Str}:∀ {N:List Str}{i:Nat},mL x N=some i->N[i]? = some x
 | [],_,h=>by cases h
 | y::r,i,h=>by
  unfold mL at h
  split at h
  ·rename_i e;cases h;subst e;rfl
  ·obtain ⟨j,a,b⟩:=SS.mp h
   subst b
   have:=pX a
   simpa using this
noncomputable def glob (c:Cs)(x:Str):Bool:=decide (c.ks.lookup x=some .globalImplicit)&&!(x == ("__debug__":Str))
noncomputable def lJ (c:Cs)(x:Str):Bool:=(decide (c.ks.lookup x=some .local)||decide (c.ks.lookup x=some .cell)||decide (c.ks.lookup x=some .free))&&!(x == ("__debug__":Str))&&!(x == ("__classdict__":Str))
noncomputable def mM (c:Cs)(x:Str):Bool:=decide (c.ks.lookup x=some .local)||decide (c.ks.lookup x=some .cell)
noncomputable def xH (x:Str):Option String:=
 if x = "int" then some "int" else if x = "bool" then some "bool" else if x = "str" then some "str" else if x = "list" then some "list" else if x = "tuple" then some "tuple" else if x = "dict" then some "dict" else none
theorem Oh {x:Str}{n:String}(h:xH x=some n):U4 x=some (.type n)/\x ≠ "__name__":=by
 unfold xH at h
 split at h
 ·rename_i e;subst e;cases h;exact ⟨a1r,by decide⟩
 split at h
 ·rename_i e;subst e;cases h;exact ⟨a1s,by decide⟩
 split at h
 ·rename_i e;subst e;cases h;exact ⟨a1p,by decide⟩
 split at h
 ·rename_i e;subst e;cases h;exact ⟨V8,by decide⟩
 split at h
 ·rename_i e;subst e;cases h;exact ⟨W2,by decide⟩
 split at h
 ·rename_i e;subst e;cases h;exact ⟨W9,by decide⟩
 ·cases h
noncomputable def xI (S:Sig)(c:Cs)(x:Str):ME:=
 if lJ c x=true then (match mL x c.N with|some i=>aA i|none=>bJ)
 else if glob c x=true then (match S.con.lookup x with
  | some d=>mC d
  | none=>if S.no.contains x=true then (match xH x with|some n=>mC (.ty n)|none=>bJ) else bJ)
 else bJ
noncomputable def fL (r:Expr->ME):List Expr->MA
 | []=>aD
 | e::es=>aC (r e) (fL r es)
noncomputable def sQ (op:BoolOp):List ME->ME
 | []=>bJ
 | [m]=>m
 | m::r=>match op with
  | .And=>iD m (sQ op r)
  | .Or=>vB m (sQ op r)
noncomputable def sR (op:BoolOp):List MT->MT
 | []=>lX
 | [m]=>m
 | m::r=>match op with
  | .And=>m9 m (sR op r)
  | .Or=>u9 m (sR op r)
noncomputable def DM (op:a0u)(a b:ME):ME:=match op with
 | .Add=>aB bV a b
 | .Sub=>aB cA a b
 | .Mult=>aB bZ a b
 | .FloorDiv=>aB cS a b
 | .Mod=>aB bG a b
 | .Pow=>aB nD a b
 | _=>bJ
noncomputable def kW (op:W3)(ns:Bool)(a b:ME):ME:=match op with
 | .Eq=>aB (bE false) a b
 | .NotEq=>aB (bE true) a b
 | .Lt=>aB gP a b
 | .LtE=>aB vQ a b
 | .Gt=>aB pG a b
 | .GtE=>aB vT a b
 | .In=>if ns=true then aB (cB false) a b else bJ
 | .NotIn=>if ns=true then aB (cB true) a b else bJ
 | _=>bJ
noncomputable def xJ (r:Expr->ME):List (Option Expr)->List Expr->Option (List (ME×ME))
 | [],[]=>some []
 | some k::ks,v::vs=>(xJ r ks vs).map fun t=>(r k,r v)::t
 | _,_=>none
noncomputable def xK (r:Expr->ME):Option Expr->MO
 | none=>pE
 | some e=>iE (r e)
noncomputable def c6:MF:=fun ds b=>match ds with
 | [.loc a]=>match b[a]? with
  | some (.lst xs)=>some (.int xs.length,b)
  | some (.dK kvs)=>some (.int kvs.length,b)
  | some (.st ks)=>some (.int ks.length,b)
  | some (.dT kvs)=>some (.int kvs.length,b)
  | _=>none
 | _=>pI ds b
noncomputable def xM:MF:=fun ds a=>match ds with
 | [x]=>(bN a x).map fun b=>(.tup b,a)
 | _=>none
theorem Oi {K:SJ}:dW K xM (fun xs H Q=>∃ p b,xs=[.ref p]/\((SqL K H p b/\∀ l,H l=none->Q (.ref l) (aI H l (.tup b)))\/(SqT K H p b/\Q (.ref p) H))):=by
 intro g H r xs d n o Q R i a k
 unfold xM at a
 split at a
 ·obtain ⟨b,h,j⟩:=SS.mp a
  cases j
  cases i with
  | cons i t=>
   cases t
   obtain ⟨p,e,rfl,q,hd⟩:=pJ R i h
   refine ⟨p,e,rfl,?_⟩
   rcases q with q|q
   ·refine .inl ⟨q,fun l m=>?_⟩
    obtain ⟨c,R2⟩:=R.fresh (o:=.tup e) m
    exact k g _ _ c R2 (.tup (.of cR) (hd.mono c))
   ·exact .inr ⟨q,k g _ H .refl R (.tup q hd)⟩
 ·cases a
noncomputable def xN:MF:=fun ds b=>match ds with
 | [.loc a]=>match b[a]? with
  | some (.dT kvs)=>some (.loc b.length,b++[.lst (kvs.map fun k=>D.tup (k.1.map D.int))])
  | _=>rN [.loc a] b
 | ds=>rN ds b
theorem Oj {K:SJ}:dW K xN (fun xs H Q=>(∃ p g,xs=[.ref p]/\(SqL K H p g\/SqT K H p g)/\∀ l,H l=none->Q (.ref l) (aI H l (.lst g)))\/sF K xs H Q):=by
 intro n H m xs d c j Q R i b k
 unfold xN at b
 split at b
 ·rename_i a
  split at b
  ·rename_i e s
   cases b
   cases i with
   | cons i t=>
    cases t
    cases i
    obtain ⟨h,q,T⟩:=eE R s
    refine .inr ⟨_,h,rfl,q,T.keys,fun l r=>?_⟩
    obtain ⟨o,R2,_⟩:=R.alloc (c:=.lst (e.map fun k:List Int×D=>D.tup (k.1.map D.int))) (o:=.lst (h.map fun p:List Int×Addr×V=>V.ref p.2.1)) r T.to.2.1
    exact k _ _ _ o R2 fY
  ·exact .inl (BS n H m _ d c j Q R i b k)
 ·exact .inl (BS n H m _ d c j Q R i b k)
noncomputable def xO (x:Str):Option MF:=
 if x = "len" then some c6
 else if x = "list" then some xN
 else if x = "tuple" then some xM
 else none
noncomputable def Ol (K:SJ):List V->Hp->VK->Prop:=fun xs H Q=>vX K xs H Q\/(∃ a kvs,xs=[V.ref a]/\H a=some (.dK kvs)/\Q (.int kvs.length) H)\/(∃ a L,xs=[V.ref a]/\H a=some (rC a L)/\Q (.int L.length) H)\/C6 K xs H Q
theorem Om {K:SJ}:dW K c6 (Ol K):=by
 intro j H n r d h m Q R i b k
 unfold c6 at b
 split at b
 ·rename_i a
  split at b
  ·rename_i s c
   refine .inl (BR j H n _ d h m Q R i ?_ k)
   simp only [pI,bN,c]
   exact b
  ·rename_i g c
   cases b
   cases i with
   | cons i t=>
    cases t
    cases i
    obtain ⟨q,e,l,_⟩:=R.dK a g c
    refine .inr (.inl ⟨_,q,rfl,e,?_⟩)
    have:=congrArg Ua l
    rw [SQ,SQ] at this
    rw [this]
    exact k j _ H .refl R (.int _)
  ·rename_i o c
   cases b
   cases i with
   | cons i t=>
    cases t
    cases i
    obtain ⟨L,e,l,_⟩:=R.st a o c
    have:=congrArg Ua l
    rw [SQ] at this
    refine .inr (.inr (.inl ⟨_,L,rfl,e,?_⟩))
    rw [this]
    exact k j _ H .refl R (.int _)
  ·rename_i g c
   cases b
   cases i with
   | cons i t=>
    cases t
    cases i
    obtain ⟨p,e,T⟩:=eE R c
    have:=congrArg Ua T.to.1
    rw [SQ,SQ] at this
    refine .inr (.inr (.inr ⟨_,p,rfl,e,T.keys,?_⟩))
    rw [this]
    exact k j _ H .refl R (.int _)
  ·cases b
 ·exact .inl (BR j H n _ d h m Q R i b k)
theorem Oo {X:Cx}{x:Str}{f:MF}(a:X.calm=true)(b:X.A.units+64<UT)(h:xO x=some f):∃ v r,U4 x=some v/\((∃ id,v=.builtin id)\/∃ T,v=.type T)/\CallR X v r/\dW X.K f r/\x ≠ "__name__":=by
 unfold xO at h
 split at h
 ·rename_i e;subst e;cases h;exact ⟨_,_,a1q,.inl ⟨_,rfl⟩,call_lenM.or (call_lenD.or (call_lenT.or M8)),Om,by decide⟩
 split at h
 ·rename_i e;subst e;cases h;exact ⟨_,_,V8,.inr ⟨_,rfl⟩,call_list_of.or (M9 a),Oj,by decide⟩
 split at h
 ·rename_i e;subst e;cases h;exact ⟨_,_,W2,.inr ⟨_,rfl⟩,A5,Oi,by decide⟩
 ·cases h
noncomputable def xP (x:Str):Option MF:=
 if x = "dict" then some mH else
 xO x
theorem Oq {X:Cx}{x:Str}{f:MF}(a:X.calm=true)(b:X.A.units+64<UT)(h:xP x=some f):∃ v r,U4 x=some v/\((∃ id,v=.builtin id)\/∃ T,v=.type T)/\CallR X v r/\dW X.K f r/\x ≠ "__name__":=by
 unfold xP at h
 split at h
 ·rename_i e;subst e;cases h;exact ⟨_,_,W9,.inr ⟨_,rfl⟩,Nm a b,Nn,by decide⟩
 exact Oo a b h
noncomputable def DN (m:Str)(n:Nat):Option (D->List D->Hm->Option (D×Hm)):=
 if n=1 then (if m = "append" then some kJ
  else if m = "extend" then some nP
  else none)
 else if n=0 then (
  if m = "pop" then some lZ else
  none)
 else none
noncomputable def jP:MF:=fun ds b=>match ds with
 | [.loc a]=>match b[a]? with
  | some (.dT kvs)=>if (kvs.map fun p=>Tb.hashT p.1).Nodup then some (.loc b.length,b++[.dT kvs]) else none
  | _=>none
 | _=>none
theorem Ot {K:SJ}:dW K jP (Dt K):=by
 intro u H s r d o q Q R i a k
 unfold jP at a
 split at a
 ·split at a
  ·rename_i b n
   split at a
   ·rename_i j
    cases a
    cases i with
    | cons i t=>
     cases t
     cases i
     obtain ⟨c,h,T⟩:=eE R n
     have g:=T.to.1
     refine ⟨_,c,rfl,h,T.keys,?_,fun l m=>?_⟩
     ·have:(c.map fun p=>Tb.hashT p.1)=b.map fun p=>Tb.hashT p.1:=by
       have:=congrArg (a2h Tb.hashT) g
       simpa [TM,Function.comp_def] using this
      rw [this];exact j
     ·obtain ⟨e,R2,_⟩:=R.alloc (c:=.dT b) (o:=aW l c) m ⟨c,rfl,T.to⟩
      exact k _ _ _ e R2 fY
   ·cases a
  ·cases a
 ·cases a
noncomputable def DO (S:Sig):Expr->List Expr->Option (Bool×Expr)
 | .Name x _,[.Name y p]=>if S.dMe.contains y=true then (if x = "sorted" then some (true,.Name y p) else if x = "dict" then some (false,.Name y p) else none) else none
 | _,_=>none
noncomputable def DP (S:Sig)(o:Expr)(m:Str)(n:Nat):Option (D->List D->Hm->Option (D×Hm)):=
 if m = "pop"/\n=1 then (match o with|.Name x _=>if S.dMe.contains x=true then some kT else none|_=>none) else
 none
noncomputable def DQ (S:Sig):Expr->Bool
 | .Name x _=>S.dEq.contains x
 | .Dict [] [] _=>S.dEq.contains "{}"
 | _=>false
noncomputable def oE (op:W3)(a b:ME):ME:=match op with
 | .Eq=>aB (fK false) a b
 | .NotEq=>aB (fK true) a b
 | _=>bJ
noncomputable def xQ (S:Sig)(F:Str->MF)(r:Expr->ME)(c:Cs)(f:Expr)(args:List Expr)(a:UY):ME:=match f with
 | .Name x _=>if glob c x&&args.all cX then (match S.fn.lookup x with
   | some n=>if args.length=n then aL (F x) (fL r args) else bJ
   | none=>if S.no.contains x&&!args.isEmpty then (match xP x with|some g=>aL g (fL r args)|none=>bJ) else bJ)
  else bJ
 | .Attribute o m apos=>if fI o&&(apos.endLine == a.line)&&args.all cX then (
   match DP S o m args.length with
   | some g=>mI g (r o) (fL r args)
   | none=>
   match DN m args.length with
   | some g=>f9 g (r o) (fL r args)
   | none=>
    bJ)
  else bJ
 | _=>bJ
noncomputable def xR:Expr->Option (Expr×List Expr)
 | .Call f as [] _=>some (f,as)
 | _=>none
theorem Ou {e f:Expr}{as:List Expr}(h:xR e=some (f,as)):∃ pos,e=.Call f as [] pos:=by
 unfold xR at h
 split at h
 ·cases h;exact ⟨_,rfl⟩
 ·cases h
noncomputable def oF:Expr->Option Str
 | .Name x _=>some x
 | _=>none
theorem xS {e:Expr}{x:Str}(h:oF e=some x):∃ p,e=.Name x p:=by
 unfold oF at h
 split at h
 ·cases h;exact ⟨_,rfl⟩
 ·cases h
noncomputable def o1:List Expr->Option Expr
 | [e]=>some e
 | _=>none
theorem xT {l:List Expr}{e:Expr}(h:o1 l=some e):l=[e]:=by
 unfold o1 at h
 split at h
 ·cases h;rfl
 ·cases h
noncomputable def DR (f:Expr)(args:List Expr):Option (Str×Str×Expr):=(oF f).bind fun x=>(o1 args).bind fun a=>(xR a).bind fun g=>(oF g.1).bind fun y=>(o1 g.2).map fun e=>(x,y,e)
theorem Ov {f:Expr}{args:List Expr}{x y:Str}{e:Expr}(h:DR f args=some (x,y,e)):∃ p c pos,f=.Name x p/\args=[.Call (.Name y c) [e] [] pos]:=by
 obtain ⟨n,d,h⟩:=SF.mp h
 obtain ⟨a,i,h⟩:=SF.mp h
 obtain ⟨g,j,h⟩:=SF.mp h
 obtain ⟨o,b,h⟩:=SF.mp h
 obtain ⟨m,l,h⟩:=SS.mp h
 cases h
 obtain ⟨p,rfl⟩:=xS d
 obtain ⟨pos,rfl⟩:=Ou j
 obtain ⟨c,b⟩:=xS b
 exact ⟨p,c,pos,rfl,by rw [xT i,b,xT l]⟩
noncomputable def xU (S:Sig)(F:Str->MF)(r:Expr->ME)(c:Cs)(f:Expr)(args:List Expr)(a:UY):ME:=
 xQ S F r c f args a
noncomputable def sS:Expr->Option (Expr×UY×UY)
 | .Call g [] [] cpos=>match g with
  | .Attribute o m apos=>if m = "items" then some (o,apos,cpos) else none
  | _=>none
 | _=>none
theorem DS {e o:Expr}{a b:UY}(h:sS e=some (o,a,b)):e=.Call (.Attribute o "items" a) [] [] b:=by
 unfold sS at h
 split at h
 ·split at h
  ·split at h
   ·rename_i c;cases h;rw [c]
   ·cases h
  ·cases h
 ·cases h
noncomputable def Ox (f:Expr)(args:List Expr):Option (Expr×UY×UY):=(DR f args).bind fun t=>if t.1 = "tuple"/\t.2.1 = "sorted" then sS t.2.2 else none
noncomputable def sT:Expr->Option (Expr×UY×UY)
 | .Call g [] [] cpos=>match g with
  | .Attribute o m apos=>if m = "keys" then some (o,apos,cpos) else none
  | _=>none
 | _=>none
theorem DT {e o:Expr}{a b:UY}(h:sT e=some (o,a,b)):e=.Call (.Attribute o "keys" a) [] [] b:=by
 unfold sT at h
 split at h
 ·split at h
  ·split at h
   ·rename_i c;cases h;rw [c]
   ·cases h
  ·cases h
 ·cases h
noncomputable def pY (f:Expr)(args:List Expr):Option (Str×Expr):=(oF f).bind fun x=>(o1 args).map fun e=>(x,e)
theorem sU {f:Expr}{args:List Expr}{x:Str}{e:Expr}(h:pY f args=some (x,e)):∃ p,f=.Name x p/\args=[e]:=by
 obtain ⟨d,b,h⟩:=SF.mp h
 obtain ⟨a,c,h⟩:=SS.mp h
 cases h
 obtain ⟨p,rfl⟩:=xS b
 exact ⟨p,rfl,xT c⟩
noncomputable def Oy (f:Expr)(args:List Expr):Option (Expr×UY×UY):=(pY f args).bind fun t=>if t.1 = "sorted" then sT t.2 else none
noncomputable def Oz (f:Expr)(args:List Expr):Option (Expr×UY×UY):=(pY f args).bind fun t=>if t.1 = "list" then sS t.2 else none
noncomputable def OA (f:Expr)(args:List Expr):Option (Expr×UY×UY):=(pY f args).bind fun t=>if t.1 = "list" then sT t.2 else none
noncomputable def OB (S:Sig)(f:Expr)(args:List Expr):Option (Bool×Expr):=(pY f args).bind fun t=>if t.1 = "sorted"/\S.dMe.contains "#T" = true then some ((match oF t.2 with|some y=>S.dMe.contains y|none=>false),t.2) else none
noncomputable def xV (S:Sig)(F:Str->MF)(r:Expr->ME)(c:Cs)(f:Expr)(args:List Expr)(a:UY):ME:=
 match Ox f args with
 | some q=>if glob c "sorted" && glob c "tuple" && S.no.contains "sorted" && S.no.contains "tuple" && fI q.1&&(q.2.1.endLine == q.2.2.line) then oC (r q.1) else bJ
 | none=>
 match Oy f args with
 | some q=>if glob c "sorted" && S.no.contains "sorted" && fI q.1&&(q.2.1.endLine == q.2.2.line) then mK (r q.1) else bJ
 | none=>
 match Oz f args with
 | some q=>if glob c "list" && S.no.contains "list" && fI q.1&&(q.2.1.endLine == q.2.2.line) then xF (r q.1) else bJ
 | none=>
 match OA f args with
 | some q=>if glob c "list" && S.no.contains "list" && fI q.1&&(q.2.1.endLine == q.2.2.line) then oD (r q.1) else bJ
 | none=>
 match OB S f args with
 | some q=>if glob c "sorted" && S.no.contains "sorted" && cX q.2 then (match q.1 with|true=>aL kU (fL r [q.2])|false=>aL xG (fL r [q.2])) else bJ
 | none=>
 match DO S f args with
 | some (true,e)=>bJ
 | some (false,e)=>if glob c "dict" && S.no.contains "dict" then aL jP (fL r [e]) else bJ
 | none=>
 xU S F r c f args a
noncomputable def pZ (c:Cs)(scope:Wh)(xs:List Str):Bool:=
 (scope.names.all fun y=>decide (y.2≠.cell))&&decide (scope.kind=.function)&&(scope.names.all fun y=>decide (y.2≠.local)||decide (scope.names.lookup y.1=some .local)) &&
 (xs.all fun x=>decide (scope.names.lookup x=some .local))&&decide xs.Nodup&&(scope.names.all fun y=>decide (y.2≠.free)||decide (c.ks.lookup y.1=some .cell)||decide (c.ks.lookup y.1=some .free)) &&
 (scope.names.all fun y=>decide (y.2≠.local)||!(bH xs c.N).contains y.1)&&decide (bH xs c.N).Nodup&&(c.N.all fun y=>!xs.contains y||decide (scope.names.lookup (nE y)=none))
noncomputable def qC (c:Cs)(scope:Wh)(xs:List Str):Cs:=
 ⟨bH xs c.N++xs,scope.names.map fun (n,k)=>if (k == Vz&&c.ks.lookup n == some .cell) then (n,VP) else (n,k)⟩
noncomputable def DU (r:Expr->MT):List Expr->MT
 | []=>lQ
 | [t]=>r t
 | _=>lX
noncomputable def xW (S:Sig)(c:Cs):Expr->Option (List Expr)
 | .Call (.Name x _) args [] _=>if x = "range" then (if glob c x&&S.no.contains x&&args.all cX then some args else none) else none
 | _=>none
noncomputable def sV (S:Sig)(r:Expr->ME)(c:Cs)(e:Expr):MI:=match xW S c e with
 | some [a]=>iH (fL r [a])
 | some [a,b]=>kI (fL r [a,b])
 | some _=>wC
 | none=>cY (r e)
noncomputable def xY (S:Sig)(c:Cs):Expr->Option Expr
 | .Call (.Name x _) [a] [] _=>if x = "enumerate" then (if glob c x&&S.no.contains x&&cX a then some a else none) else none
 | _=>none
noncomputable def xZ (S:Sig)(r:Expr->ME)(c:Cs)(e:Expr):MI:=match xY S c e with
 | some _=>wC
 | none=>sV S r c e
noncomputable def yA (S:Sig)(r:Expr->ME)(c:Cs)(e:Expr):MI:=xZ S r c e
noncomputable def yB:Expr->Option (List Str)
 | .Name x _=>some [x]
 | .Tuple es _ _=>es.mapM fun e=>match e with|.Name x _=>some x|_=>none
 | _=>none
noncomputable def yC:Expr->Nat->BD
 | .Tuple ..,n=>BP n
 | _,_=>pH
noncomputable def sW (S:Sig)(r:Expr->ME)(c:Cs)(tg e:Expr):MI:=match tg with
 | .Tuple ..=>yA S r c e
 | _=>sV S r c e
noncomputable def qD (b:MI)(d:Cs->Expr->ME)(e:Cs->Expr->MT)(c:Cs)(elt tg iter:Expr)(ifs:List Expr)(scope:Wh):ME:=match yB tg with
 | some a=>if pZ c scope a&&d9 iter then nK (yC tg a.length) b (DU (e (qC c scope a)) ifs) (d (qC c scope a) elt) else bJ
 | none=>bJ
noncomputable def sX (S:Sig)(a:Cs->Expr->ME)(b:Cs->Expr->MT)(c:Cs)(elt tg iter:Expr)(ifs:List Expr)(scope:Wh):ME:=
 qD (sW S (a c) c tg iter) a b c elt tg iter ifs scope
noncomputable def DV:Const->ME
 | .int i=>mC (.int i)
 | .bool b=>mC (.bl b)
 | .str s=>mC (.str s)
 | .none=>mC .non
 | _=>bJ
noncomputable def DW (m:ME):UnaryOp->ME
 | .USub=>nI m
 | .Not=>vC m
 | _=>bJ
noncomputable def yD (S:Sig)(r:Expr->ME)(a:Expr):List W3->List Expr->ME
 | [op],[b]=>if DQ S b then oE op (r a) (r b) else kW op (d9 b) (r a) (r b)
 | [op,op'],[b,b']=>(match jM op,jM op' with
  | some p,some q=>jL (eW p) (eW q) (r a) (r b) (r b')
  | _,_=>bJ)
 | _,_=>bJ
noncomputable def yE (r:Expr->ME)(keys:List (Option Expr))(a:List Expr):ME:=match xJ r keys a with
 | some b=>if !keys.isEmpty&&decide (keys.length<=15) then kD b else bJ
 | none=>bJ
noncomputable def yF (r:Expr->ME):List (Option Expr)->List Expr->ME
 | [],[]=>jN
 | [some k],[v]=>n9 (r k) (r v)
 | keys,values=>yE r keys values
noncomputable def yG (S:Sig)(r:Expr->ME)(c:Cs)(a b:Expr):ME:=match b with
 | .Slice lo hi none _=>iF (r a) (xK r lo) (xK r hi)
 | b=>if lU b then aB aN (r a) (r b) else bJ
noncomputable def yH (r:Expr->ME)(es:List Expr):ME:=if es.all cX then bW (fL r es) else bJ
noncomputable def yI (r:Expr->ME)(es:List Expr):ME:=if es.all cX then cQ (fL r es) else bJ
noncomputable def yJ (S:Sig)(F:Str->MF)(r:Expr->ME)(c:Cs)(f:Expr)(args:List Expr)(a:UY):List WN->ME
 | []=>xV S F r c f args a
 | _=>bJ
noncomputable def yK (S:Sig)(a:Cs->Expr->ME)(b:Cs->Expr->MT)(c:Cs)(elt:Expr)(scope:Wh):List Comprehension->ME
 | [⟨tg,iter,ifs,0⟩]=>sX S a b c elt tg iter ifs scope
 | _=>bJ
noncomputable def DX (S:Sig)(F:Str->MF)(d:Cs->Expr->ME)(e:Cs->Expr->MT)(c:Cs):Expr->ME
 | .Name x _=>xI S c x
 | .Constant v _ _=>DV v
 | .BinOp a op b _=>DM op (d c a) (d c b)
 | .UnaryOp op a _=>DW (d c a) op
 | .Compare a ops bs _=>yD S (d c) a ops bs
 | .BoolOp op vs _=>sQ op (vs.map (d c))
 | .IfExp t a b _=>lN (e c t) (d c a) (d c b)
 | .Tuple es _ _=>yH (d c) es
 | .List es _=>yI (d c) es
 | .Dict keys values _=>yF (d c) keys values
 | .Subscript a b _=>yG S (d c) c a b
 | .Call f args kws cpos=>yJ S F (d c) c f args cpos kws
 | .ListComp elt gs scope _=>yK S d e c elt scope gs
 | _=>bJ
noncomputable def qE (r:Expr->ME)(e:Expr):MT:=if v8 e then kL (r e) else lX
noncomputable def yL (S:Sig)(r:Expr->ME)(a:Expr)(ops:List W3)(bs:List Expr)(p:UY):MT:=match ops,bs with
 | [op],[b]=>if DQ S b then aU (oE op (r a) (r b)) else aU (kW op (d9 b) (r a) (r b))
 | [op,op'],[b,b']=>(match jM op,jM op' with
  | some p,some q=>aU (jL (eW p) (eW q) (r a) (r b) (r b'))
  | _,_=>lX)
 | ops,bs=>qE r (.Compare a ops bs p)
noncomputable def OC (r:Expr->ME)(t:MT)(a:Expr)(p:UY):UnaryOp->MT
 | .Not=>t
 | op=>qE r (.UnaryOp op a p)
noncomputable def DY (S:Sig)(b:Cs->Expr->ME)(d:Cs->Expr->MT)(c:Cs):Expr->MT
 | .BoolOp op vs _=>sR op (vs.map (d c))
 | .UnaryOp op a p=>OC (b c) (vA (d c a)) a p op
 | .Compare a ops bs p=>yL S (b c) a ops bs p
 | e=>qE (b c) e
noncomputable def tr (S:Sig)(F:Str->MF):Nat->(Cs->Expr->ME)×(Cs->Expr->MT)
 | 0=>(fun _ _=>bJ,fun _ _=>lX)
 | n+1=>(DX S F (tr S F n).1 (tr S F n).2,DY S (tr S F n).1 (tr S F n).2)
structure Okx (S:Sig)(F:Str->MF)(k:Nat)(c:Cs)(X:Cx):Prop where
 N:X.N=c.N
 nd:X.N.Nodup
 ks:X.env.scope.names=c.ks
 kind:X.env.scope.kind=.function
 calm:X.calm=true
 room:Room k X.A
 never:Z2 (Tr X.prog X.w) X.A X.env X.xe
 fn:∀ x n,S.fn.lookup x=some n->∃ (f:Addr)(fd:VA)(ps:List Str),FnOk X.prog X.w X.K X.mg X.base eS k f fd ps (iB X.K n (F x))/\X.mg x=some (.ref f)/\Vf X.K (.ref f)=true/\Binds X.K fd ps []
 con:∀ x d,S.con.lookup x=some d->∃ v u,X.mg x=some u/\RelV v u/\∀ π n H,IsD X.K π n H v d
 tab:∀ x kvs,S.tab.lookup x=some kvs->TabOk X x kvs
 no:∀ x,S.no.contains x=true->X.mg x=none
section
variable {S:Sig}{F:Str->MF}{k:Nat}{c:Cs}{X:Cx}
theorem Okx.gl (O:Okx S F k c X){x:Str}(h:glob c x=true):Gl X x/\(x == ("__debug__":Str))=false:=by
 unfold glob at h
 rw [S0] at h
 refine ⟨?_,by simpa using h.2⟩
 show X.env.scope.names.lookup x=_
 rw [O.ks]
 exact of_decide_eq_true h.1
theorem Okx.vis (O:Okx S F k c X){x:Str}(h:lJ c x=true):oW X.env.scope x/\(x == ("__debug__":Str))=false/\(x == ("__classdict__":Str))=false:=by
 unfold lJ at h
 rw [S0,S0,WO,WO] at h
 obtain ⟨⟨a,b⟩,d⟩:=h
 refine ⟨?_,by simpa using b,by simpa using d⟩
 unfold oW
 rw [O.ks]
 rcases a with (a|a)|a
 ·exact .inl (of_decide_eq_true a)
 ·exact .inr (.inl (of_decide_eq_true a))
 ·exact .inr (.inr (of_decide_eq_true a))
theorem OD (O:Okx S F k c X)(x:Str)(pos:UY):QE X (.Name x pos) (xI S c x):=by
 unfold xI
 split
 ·rename_i h
  obtain ⟨a,b,j⟩:=O.vis h
  split
  ·rename_i i l
   exact Ku i (by rw [O.N];exact pX l) a b j
  ·exact bP
 split
 ·rename_i h
  obtain ⟨a,b⟩:=O.gl h
  split
  ·rename_i d hd
   obtain ⟨v,u,m,r,i⟩:=O.con x d hd
   exact ⟨m7 (Gm a m r b) i⟩
  ·split
   ·rename_i o
    split
    ·rename_i n p
     obtain ⟨e,g⟩:=Oh p
     exact Lc (O.no x o) e a g b
    ·exact bP
   ·exact bP
 ·exact bP
theorem iR {r:Expr->ME}(a:∀ e,QE X e (r e)):∀ (es:List Expr),es.all cX=true->QA X es (fL r es) es.length
 | [],_=>K2
 | e::es,h=>by
  rw [Up,S0] at h
  exact K3 (a e) (iR a es h.2) h.1
theorem DZ {r:Expr->ME}(a:∀ e,QE X e (r e))(op:BoolOp)(pos:UY):∀ (vs:List Expr),QE X (.BoolOp op vs pos) (sQ op (vs.map r))
 | []=>bP
 | [e]=>KY (a e)
 | e::d::es=>by
  have b:=DZ a op pos (d::es)
  cases op with
  | And=>exact KZ (a e) b
  | Or=>exact K0 (a e) b
theorem D0 {r:Expr->MT}(a:∀ e,QT X e (r e))(op:BoolOp)(pos:UY):∀ (vs:List Expr),QW X (.BoolOp op vs pos) (sR op (vs.map r))
 | []=>LU
 | [e]=>by
  cases op with
  | And=>exact Lo (a e)
  | Or=>exact Lp (a e)
 | e::d::es=>by
  have b:=D0 a op pos (d::es)
  cases op with
  | And=>exact Lq (a e) b
  | Or=>exact Lr (a e) b
theorem OE {a b:Expr}{g h:ME}(d:QE X a g)(e:QE X b h)(op:a0u)(pos:UY):QE X (.BinOp a op b pos) (DM op g h):=by
 cases op with
 | Add=>exact KA d e
 | Sub=>exact KG d e
 | Mult=>exact KH d e
 | FloorDiv=>exact KI d e
 | Mod=>exact KJ d e
 | Pow=>exact KL d e
 | _=>exact bP
theorem OF (O:Okx S F k c X){a b:Expr}{g i:ME}(d:QE X a g)(e:QE X b i)(op:W3)(pos:UY):QE X (.Compare a [op] [b] pos) (kW op (d9 b) g i):=by
 cases op with
 | Eq=>exact KP O.room d e
 | NotEq=>exact KQ O.room d e
 | Lt=>exact KR d e
 | LtE=>exact KS d e
 | Gt=>exact KU d e
 | GtE=>exact KW d e
 | In=>
  simp only [kW]
  split
  ·rename_i h;exact Nb O.room d e h
  ·exact bP
 | NotIn=>
  simp only [kW]
  split
  ·rename_i h;exact Nc O.room d e h
  ·exact bP
 | _=>exact bP
theorem yM {e:Expr}:QT X e (aU bJ):=⟨fun a4b s σ H Q I h=>by
 obtain ⟨i,j,g,d,b,R,E,a,k⟩:=h
 cases a⟩
theorem OG (O:Okx S F k c X){a b:Expr}{g i:ME}(d:QE X a g)(e:QE X b i)(op:W3)(pos:UY):QT X (.Compare a [op] [b] pos) (aU (kW op (d9 b) g i)):=by
 cases op with
 | Eq=>exact Lg O.room d e
 | NotEq=>exact Lh O.room d e
 | Lt=>exact Li d e
 | LtE=>exact Lj d e
 | Gt=>exact Lk d e
 | GtE=>exact Ll d e
 | In=>
  simp only [kW]
  split
  ·rename_i h;exact Nd O.room d e h
  ·exact yM
 | NotIn=>
  simp only [kW]
  split
  ·rename_i h;exact Nf O.room d e h
  ·exact yM
 | _=>exact yM
theorem D1 {r:Expr->ME}(b:∀ e,QE X e (r e))(pos:UY):∀ (ks:List (Option Expr))(vs:List Expr)(a:List (ME×ME)),xJ r ks vs=some a->QP X pos ks vs a
 | [],[],a,h=>by cases h;exact Ld
 | some k::ks,v::vs,a,h=>by
  obtain ⟨t,d,g⟩:=SS.mp h
  subst g
  exact Le (b k) (b v) (D1 b pos ks vs t d)
 | none::ks,vs,a,h=>by cases vs<;>cases h
 | some k::ks,[],a,h=>by cases h
 | [],v::vs,a,h=>by cases h
theorem D2 {r:Expr->ME}(a:∀ e,QE X e (r e)):∀ o:Option Expr,QO X o (xK r o)
 | none=>K8
 | some e=>K9 (a e)
theorem OH (O:Okx S F k c X){r:Expr->ME}(l:∀ e,QE X e (r e))(f:Expr)(args:List Expr)(h:UY):QE X (.Call f args [] h) (xQ S F r c f args h):=by
 unfold xQ
 split
 ·rename_i x p
  split
  ·rename_i j
   rw [S0] at j
   obtain ⟨u,w⟩:=O.gl j.1
   have i:=iR l args j.2
   split
   ·rename_i n B
    split
    ·rename_i b
     obtain ⟨R,U,Y,E,a,M,A⟩:=O.fn x n B
     subst b
     cases args with
     | nil=>exact L6 E O.room a M A u w
     | cons e s=>exact Lb E O.room a M A i u w
    ·exact bP
   ·split
    ·rename_i d
     rw [S0] at d
     split
     ·rename_i g A
      obtain ⟨v,Z,H,N,I,K,L⟩:=Oq (X:=X) O.calm O.room.units A
      cases args with
      | nil=>exact absurd d.2 (by simp)
      | cons e s=>
       rcases N with ⟨id,rfl⟩|⟨T,rfl⟩
       ·exact v7 I K (O.no x d.1) H i u L w
       ·exact BZ I K (O.no x d.1) H i u L w
     ·exact bP
    ·exact bP
  ·exact bP
 ·rename_i o m G
  split
  ·rename_i j
   rw [S0,S0] at j
   obtain ⟨⟨y,z⟩,Q⟩:=j
   have i:=iR l args Q
   split
   ·rename_i g a
    unfold DP at a
    split at a
    ·rename_i b
     obtain ⟨rfl,b⟩:=b
     split at a
     ·split at a
      ·cases a
       cases args with
       | nil=>cases b
       | cons e s=>exact NG a0a PySem.F.type_dict_pop (NT (by have:=O.room.units;omega)) NS (l _) i y z (by rw [b];decide)
      ·cases a
     ·cases a
    cases a
   split
   ·rename_i g a
    unfold DN at a
    split at a
    ·rename_i b
     cases args with
     | nil=>cases b
     | cons e s=>
      have B:(e::s).length<30:=by rw [b];decide
      split at a
      ·rename_i q;subst q;cases a
       exact Cg PySem.F.slot_list_append PySem.F.type_list_append Ba LZ (l o) i y z B
      split at a
      ·rename_i q;subst q;cases a
       exact Cg PySem.F.slot_list_extend PySem.F.type_list_extend II L0 (l o) i y z B
      ·cases a
    split at a
    ·rename_i b
     cases args with
     | cons e s=>cases b
     | nil=>
      split at a
      ·rename_i q;subst q;cases a
       exact LX PySem.F.slot_list_pop PySem.F.type_list_pop IJ L1 (l o) y z
      cases a
    ·cases a
   ·skip
    ·exact bP
  ·exact bP
 ·exact bP
theorem OI (O:Okx S F k c X){r:Expr->ME}(b:∀ e,QE X e (r e))(f:Expr)(args:List Expr)(a:UY):QE X (.Call f args [] a) (xU S F r c f args a):=by
 unfold xU
 exact OH O b f args a
theorem sY (O:Okx S F k c X){scope:Wh}{xs:List Str}(h:pZ c scope xs=true):CompSt X.env.scope X.N scope xs/\xs.Nodup:=by
 unfold pZ at h
 rw [S0,S0] at h
 obtain ⟨⟨h,b⟩,p⟩:=h
 have b:=of_decide_eq_true b
 have d:∀ y∈c.N,xs.contains y=true->scope.names.lookup (nE y)=none:=fun y a hc=>by
  have:=Vp.mp p y a
  rw [hc] at this
  simpa using this
 simp only [S0,Vp,decide_eq_true_eq,WO,Ws,List.contains_eq_mem,decide_eq_false_iff_not] at h
 obtain ⟨⟨⟨⟨⟨⟨g,i⟩,j⟩,l⟩,o⟩,m⟩,n⟩:=h
 refine ⟨⟨g,i,fun y a e=>(j y a).resolve_left (fun z=>z e),l,fun y a q=>?_,fun y a e=>?_,O.nd,by rw [O.N];exact b,by rw [O.N];exact d⟩,o⟩
 ·rw [O.ks]
  rcases m y a with (z|z)|z
  ·exact absurd q z
  ·exact .inl z
  ·exact .inr z
 ·rw [O.N]
  have:=(n y a).resolve_left (fun z=>z e)
  exact this
theorem D3 {N xs:List Str}(h:N.Nodup)(d:xs.Nodup)(g:∀ x∈xs,x∉N):(N++xs).Nodup:=by
 rw [VT]
 exact ⟨h,d,fun a i b j e=>by subst e;exact g _ j i⟩
theorem Okx.comp (O:Okx S F k c X){scope:Wh}{xs:List Str}(h:pZ c scope xs=true){d:List (Str×Addr)}{C:Addr}{s₀:SM}{H₀:Hp}{e:List Addr}:Okx S F k (qC c scope xs) (cG X scope d C (bH xs X.N++xs) s₀ H₀ e):=by
 obtain ⟨St,a⟩:=sY O h
 refine ⟨show bH xs X.N++xs=bH xs c.N++xs by rw [O.N],?_,?_,?_,O.calm,O.room,a0E,O.fn,O.con,fun y b q=>⟨(O.tab y b q).ex⟩,O.no
  ⟩
 ·show (bH xs X.N++xs).Nodup
  exact D3 St.hnd a fun x g=>St.own (x,.local) (Uz (St.here x g)) rfl
 ·show (a2E scope X.env).names=(qC c scope xs).ks
  unfold a2E qC
  dsimp only
  refine UP fun y _=>?_
  obtain ⟨n,i⟩:=y
  dsimp only
  have:(X.env.scope.kind == ScopeKind.function)=true:=by rw [O.kind];rfl
  rw [this,a0d]
  show (if (i == Vz&&X.env.scope.names.lookup n == some VP)=true then _ else _)=_
  rw [O.ks]
 ·show (a2E scope X.env).kind=.function
  exact St.kind
theorem D4 {r:Expr->MT}(j:∀ e,QT X e (r e)):∀ es:List Expr,QI X es (DU r es)
 | []=>Lv
 | [t]=>Lx (j t)
 | a::b::es=>⟨fun g s p H Q I h=>by
   obtain ⟨n,o,m,d,l,R,E,i,k⟩:=h
   cases i⟩
theorem D5 (O:Okx S F k c X){e:Expr}{args:List Expr}(h:xW S c e=some args):∃ p pos,e=.Call (.Name "range" p) args [] pos/\Gl X "range"/\X.mg "range" = none/\args.all cX=true:=by
 unfold xW at h
 split at h
 ·split at h
  ·rename_i b
   subst b
   split at h
   ·rename_i a
    cases h
    rw [S0,S0] at a
    exact ⟨_,_,rfl,(O.gl a.1.1).1,O.no _ a.1.2,a.2⟩
   ·cases h
  ·cases h
 ·cases h
theorem D6 (O:Okx S F k c X){r:Expr->ME}(j:∀ e,QE X e (r e))(e:Expr):QJ X e (sV S r c e):=by
 unfold sV
 split
 ·rename_i a h
  obtain ⟨p,pos,rfl,d,g,i⟩:=D5 O h
  exact LM d g (iR j [a] i)
 ·rename_i a b h
  obtain ⟨p,pos,rfl,d,g,i⟩:=D5 O h
  exact LN d g (iR j [a,b] i)
 ·exact j_bad
 ·exact LL (j e)
theorem OJ (O:Okx S F k c X){e a:Expr}(h:xY S c e=some a):∃ p pos,e=.Call (.Name "enumerate" p) [a] [] pos/\Gl X "enumerate"/\X.mg "enumerate" = none/\cX a=true:=by
 unfold xY at h
 split at h
 ·split at h
  ·rename_i d
   subst d
   split at h
   ·rename_i b
    cases h
    rw [S0,S0] at b
    exact ⟨_,_,rfl,(O.gl b.1.1).1,O.no _ b.1.2,b.2⟩
   ·cases h
  ·cases h
 ·cases h
theorem OL (O:Okx S F k c X){r:Expr->ME}(b:∀ e,QE X e (r e))(e:Expr):QJT X e (xZ S r c e):=by
 unfold xZ
 split
 ·rename_i a h
  obtain ⟨p,pos,rfl,d,g,i⟩:=OJ O h
  exact j_bad.t
 ·exact (D6 O b e).t
theorem OM (O:Okx S F k c X){r:Expr->ME}(a:∀ e,QE X e (r e))(e:Expr):QJT X e (yA S r c e):=by
 unfold yA
 exact OL O a e
theorem yN (O:Okx S F k c X){r:Expr->ME}(a:∀ e,QE X e (r e))(tg e:Expr):PI X tg e (jF X.K (sW S r c tg e)):=by
 unfold sW
 split
 ·exact (OM O a e).h _ _ _
 ·exact (D6 O a e).h _
theorem D7 {iter:Expr}{env:YU}(h:d9 iter=true):∀ x,Xp iter env x=pure x:=by
 intro z
 cases iter<;>first|rfl|cases h
end
theorem D8 {X:Cx}(c:X.N.Nodup):∀ (es:List Expr)(xs:List Str)(n:Nat),(es.mapM fun e=>match e with|.Name x _=>some x|_=>none)=some xs->(∀ j x,xs[j]? = some x->X.N[n+j]? = some x/\X.env.scope.names.lookup x=some .local)->QGs X es (XD n xs.length)
 | [],xs,n,h,hx=>by
  cases h
  exact B0
 | e::es,xs,n,h,hx=>by
  rw [List.mapM_cons] at h
  obtain ⟨x,b,h⟩:=SF.mp h
  obtain ⟨i,d,h⟩:=SF.mp h
  cases h
  cases e with
  | Name y p=>
   cases b
   rw [Ti,Xj]
   have a:=hx 0 x rfl
   refine B1 n c (D8 c es i (n+1) d fun j z g=>?_) (by simpa using a.1) (.inl a.2) (.inr a.2)
   have:=hx (j+1) z (by simpa using g)
   rw [show n+1+j=n+(j+1) by omega]
   exact this
  | _=>cases b
theorem sZ {S:Sig}{F:Str->MF}{k:Nat}{c:Cs}{X:Cx}(O:Okx S F k c X){scope:Wh}{tg:Expr}{xs:List Str}(b:yB tg=some xs)(h:pZ c scope xs=true)(e:List (Str×Addr))(C:Addr)(s₀:SM)(H₀:Hp)(g:List Addr) :
  PG (cG X scope e C (bH xs X.N++xs) s₀ H₀ g) tg (fG X.K (gB X.N.length (yC tg xs.length)))/\∀ d n z,yC tg xs.length d n=some z->z.length=xs.length:=by
 obtain ⟨St,l⟩:=sY O h
 have o:(bH xs X.N++xs).Nodup:=D3 St.hnd l fun x b=>St.own (x,.local) (Uz (St.here x b)) rfl
 have a:∀ x∈xs,(a2E scope X.env).names.lookup x=some .local:=fun x b=>lookup_relabel_local (St.here x b)
 unfold yB at b
 split at b
 ·rename_i x p
  cases b
  refine ⟨LO (X:=cG X scope e C (bH [x] X.N++[x]) s₀ H₀ g) (by show (bH [x] X.N++[x]).length=_;rw [SV,lP];rfl) (BM (X:=cG X scope e C (bH [x] X.N++[x]) s₀ H₀ g) o (by show (bH [x] X.N++[x])[X.N.length]? = _;rw [<- lP [x] X.N];simp) (.inl (a x (by simp))) (.inr (a x (by simp)))),fun d n z m=>?_⟩
  cases m
  rfl
 ·rename_i r v pt
  refine ⟨LP (X:=cG X scope e C (bH xs X.N++xs) s₀ H₀ g) (by show (bH xs X.N++xs).length=_;rw [SV,lP]) (wA (X:=cG X scope e C (bH xs X.N++xs) s₀ H₀ g) (D8 (X:=cG X scope e C (bH xs X.N++xs) s₀ H₀ g) o r xs X.N.length b fun j x q=>⟨?_,a x (Th q)⟩) O.calm).h,fun d n z m=>?_⟩
  ·show (bH xs X.N++xs)[X.N.length+j]? = some x
   rw [Tg (by rw [lP];omega),lP,show X.N.length+j - X.N.length=j by omega]
   exact q
  ·obtain ⟨w,u,i⟩:=SF.mp m
   split at i
   ·rename_i s
    cases i
    rw [SQ];exact s
   ·cases i
 ·cases b
theorem ON (O:Okx S F k c X){r:Expr->ME}(l:∀ e,QE X e (r e))(f:Expr)(args:List Expr)(j:UY):QE X (.Call f args [] j) (xV S F r c f args j):=by
 unfold xV
 split
 ·rename_i q h
  split
  ·rename_i b
   rw [S0,S0,S0,S0,S0] at b
   obtain ⟨⟨⟨⟨⟨d,v⟩,g⟩,w⟩,st⟩,n⟩:=b
   obtain ⟨t,i,a⟩:=SF.mp h
   split at a
   ·rename_i o
    obtain ⟨p,x,pos,rfl,rfl⟩:=Ov i
    rw [o.1,o.2,DS a]
    exact NX O.calm O.room.units (O.no _ g) (O.no _ w) (O.gl d).1 (O.gl v).1 (l _) st n
   ·cases a
  ·exact bP
 split
 ·rename_i q h
  split
  ·rename_i b
   rw [S0,S0,S0] at b
   obtain ⟨⟨⟨d,g⟩,st⟩,n⟩:=b
   obtain ⟨t,i,a⟩:=SF.mp h
   split at a
   ·rename_i m
    obtain ⟨p,rfl,rfl⟩:=sU i
    rw [m,DT a]
    exact N5 O.calm (O.no _ g) (O.gl d).1 (l _) st n
   ·cases a
  ·exact bP
 split
 ·rename_i q h
  split
  ·rename_i b
   rw [S0,S0,S0] at b
   obtain ⟨⟨⟨d,g⟩,st⟩,n⟩:=b
   obtain ⟨t,i,a⟩:=SF.mp h
   split at a
   ·rename_i m
    obtain ⟨p,rfl,rfl⟩:=sU i
    rw [m,DS a]
    exact N9 O.calm (O.no _ g) (O.gl d).1 (l _) st n
   ·cases a
  ·exact bP
 split
 ·rename_i q h
  split
  ·rename_i b
   rw [S0,S0,S0] at b
   obtain ⟨⟨⟨d,g⟩,st⟩,n⟩:=b
   obtain ⟨t,i,a⟩:=SF.mp h
   split at a
   ·rename_i m
    obtain ⟨p,rfl,rfl⟩:=sU i
    rw [m,DT a]
    exact Og O.calm (O.no _ g) (O.gl d).1 (l _) st n
   ·cases a
  ·exact bP
 split
 ·rename_i q h
  split
  ·rename_i b
   rw [S0,S0] at b
   obtain ⟨⟨d,g⟩,st⟩:=b
   obtain ⟨t,i,a⟩:=SF.mp h
   split at a
   ·rename_i m
    obtain ⟨p,rfl,rfl⟩:=sU i
    cases a
    rw [m.1]
    have s:([t.2]:List Expr).all cX=true:=by rw [Up,List.all_nil,a0d];exact st
    split
    ·exact v7 (N2 O.calm) DH (O.no _ g) VY (iR l _ s) (O.gl d).1 (by decide) (O.gl d).2
    ·exact v7 Ob Oa (O.no _ g) VY (iR l _ s) (O.gl d).1 (by decide) (O.gl d).2
   ·cases a
  ·exact bP
 split
 ·exact bP
 ·rename_i e h
  split
  ·rename_i b
   rw [S0] at b
   unfold DO at h
   split at h
   ·split at h
    ·split at h
     ·cases h
     ·split at h
      ·rename_i u;subst u
       cases h
       exact BZ NK Ot (O.no _ b.2) W9 (iR l _ rfl) (O.gl b.1).1 (by decide) (O.gl b.1).2
      ·cases h
    ·cases h
   ·cases h
  ·exact bP
 exact OI O l _ _ _
theorem D9 {S:Sig}{F:Str->MF}{k:Nat}{m:Cs->Expr->ME}{n:Cs->Expr->MT}(o:∀ c X,Okx S F k c X->∀ e,QE X e (m c e))(p:∀ c X,Okx S F k c X->∀ e,QT X e (n c e))(c:Cs)(X:Cx)(O:Okx S F k c X)
  (elt tg iter:Expr)(ifs:List Expr)(scope:Wh)(pos:UY){l:MI}(r:PI X tg iter (jF X.K l)):QE X (.ListComp elt [⟨tg,iter,ifs,0⟩] scope pos) (qD l m n c elt tg iter ifs scope):=by
 unfold qD
 split
 ·rename_i w j
  split
  ·rename_i h
   rw [S0] at h
   refine ⟨fun g s v H Q I q=>?_⟩
   exact LR ((sY O h.1).1.ok I.ok) O.calm r (fun d u z=>(sZ O j h.1 [] 0 s H []).2 d u z) (fun C b a i=>(sZ O j h.1 _ C b a i).1) (fun C b a i=>(D4 (p _ _ (O.comp h.1)) _).h) (fun C b a i=>(o _ _ (O.comp h.1) _).h) (D7 h.2) g s v H Q I q
  ·exact bP
 ·exact bP
theorem OO {S:Sig}{F:Str->MF}{k:Nat}{b:Cs->Expr->ME}{d:Cs->Expr->MT}(a:∀ c X,Okx S F k c X->∀ e,QE X e (b c e))(g:∀ c X,Okx S F k c X->∀ e,QT X e (d c e))(c:Cs)(X:Cx)(O:Okx S F k c X)
  (elt tg iter:Expr)(ifs:List Expr)(scope:Wh)(pos:UY):QE X (.ListComp elt [⟨tg,iter,ifs,0⟩] scope pos) (sX S b d c elt tg iter ifs scope):=by
 unfold sX
 exact D9 a g c X O elt tg iter ifs scope pos (yN O (a c X O) tg iter)
theorem OP {X:Cx}{pos:UY}{keys:List (Option Expr)}{a:List Expr}{b:List (ME×ME)}(h:QP X pos keys a b)(d:(!keys.isEmpty)=true)(c:keys.length<=15):QE X (.Dict keys a pos) (kD b):=by
 cases keys with
 | nil=>exact absurd d (by simp)
 | cons e g=>exact Lf h c
theorem OQ {S:Sig}{F:Str->MF}{k:Nat}{c:Cs}{X:Cx}(O:Okx S F k c X){a b:Expr}{g h:ME}(d:QE X a g)(e:QE X b h)(op:W3)(pos:UY):QE X (.Compare a [op] [b] pos) (oE op g h):=by
 unfold oE
 split
 ·exact NN O.room d e
 ·exact NO O.room d e
 ·exact bP
theorem OR {S:Sig}{F:Str->MF}{k:Nat}{c:Cs}{X:Cx}(O:Okx S F k c X){a b:Expr}{g h:ME}(d:QE X a g)(e:QE X b h)(op:W3)(pos:UY):QT X (.Compare a [op] [b] pos) (aU (oE op g h)):=by
 unfold oE
 split
 ·exact NP O.room d e
 ·exact NQ O.room d e
 ·exact ⟨fun i s p H Q I q=>by
   obtain ⟨n,o,m,b,l,R,E,j,k⟩:=q
   cases j⟩
section
variable {S:Sig}{F:Str->MF}{k:Nat}{c:Cs}{X:Cx}{r:Expr->ME}
theorem OS (v:Const)(n:Nat)(p:UY):QE X (.Constant v n p) (DV v):=by
 cases v<;>first|exact Kv|exact Kw|exact Ky|exact Kz|exact bP
theorem OT (b:∀ e,QE X e (r e))(op:UnaryOp)(a:Expr)(p:UY):QE X (.UnaryOp op a p) (DW (r a) op):=by
 cases op<;>first|exact KN (b _)|exact KO (b _)|exact bP
theorem OU (O:Okx S F k c X)(b:∀ e,QE X e (r e))(a:Expr)(ops:List W3)(bs:List Expr)(p:UY):QE X (.Compare a ops bs p) (yD S r a ops bs):=by
 unfold yD
 split
 ·split
  ·exact OQ O (b _) (b _) _ _
  ·exact OF O (b _) (b _) _ _
 ·split
  ·rename_i d g
   exact MC d g (b _) (b _) (b _)
  ·exact bP
 ·exact bP
theorem OV (b:∀ e,QE X e (r e))(ks:List (Option Expr))(vs:List Expr)(p:UY):QE X (.Dict ks vs p) (yE r ks vs):=by
 unfold yE
 split
 ·rename_i d h
  split
  ·rename_i a
   rw [S0] at a
   exact OP (D1 b _ _ _ _ h) a.1 (of_decide_eq_true a.2)
  ·exact bP
 ·exact bP
theorem OW (O:Okx S F k c X)(a:∀ e,QE X e (r e))(ks:List (Option Expr))(vs:List Expr)(p:UY):QE X (.Dict ks vs p) (yF r ks vs):=by
 unfold yF
 try split
 ·exact MV
 ·exact NA O.room (a _) (a _)
 ·exact OV a _ _ _
theorem OX (O:Okx S F k c X)(d:∀ e,QE X e (r e))(a b:Expr)(p:UY):QE X (.Subscript a b p) (yG S r c a b):=by
 unfold yG
 split
 ·exact La (d _) (D2 d _) (D2 d _)
 ·split
  ·rename_i h
   ·exact Na O.room (d _) (d _) h
  ·exact bP
theorem yO (a:∀ e,QE X e (r e))(e:Expr):QT X e (qE r e):=by
 unfold qE
 split
 ·rename_i h;exact L5 (a _) h
 ·exact wD
theorem OY (O:Okx S F k c X)(b:∀ e,QE X e (r e))(a:Expr)(ops:List W3)(bs:List Expr)(p:UY):QT X (.Compare a ops bs p) (yL S r a ops bs p):=by
 unfold yL
 split
 ·split
  ·exact OR O (b _) (b _) _ _
  ·exact OG O (b _) (b _) _ _
 ·split
  ·rename_i d g
   exact MH d g (b _) (b _) (b _)
  ·exact wD
 ·exact yO b _
theorem OZ (a:∀ e,QE X e (r e))(es:List Expr)(n:Nat)(p:UY):QE X (.Tuple es n p) (yH r es):=by
 unfold yH
 split
 ·rename_i h;exact K4 (iR a _ h)
 ·exact bP
theorem O0 (a:∀ e,QE X e (r e))(es:List Expr)(p:UY):QE X (.List es p) (yI r es):=by
 unfold yI
 split
 ·rename_i h;exact K5 (iR a _ h)
 ·exact bP
theorem O1 (O:Okx S F k c X)(b:∀ e,QE X e (r e))(f:Expr)(args:List Expr)(a:List WN)(p:UY):QE X (.Call f args a p) (yJ S F r c f args p a):=by
 unfold yJ
 split
 ·exact ON O b _ _ _
 ·exact bP
end
theorem Ea {S:Sig}{F:Str->MF}{k:Nat}{m:Cs->Expr->ME}{o:Cs->Expr->MT}(y:∀ c X,Okx S F k c X->∀ e,QE X e (m c e))(z:∀ c X,Okx S F k c X->∀ e,QT X e (o c e))(c:Cs)(X:Cx)(O:Okx S F k c X) :
  (∀ e,QE X e (DX S F m o c e))/\∀ e,QT X e (DY S m o c e):=by
 have d:=y c X O
 have s:=z c X O
 constructor
 ·intro e
  cases e with
  | Name x p=>exact OD O _ _
  | Constant v n p=>exact OS v n p
  | BinOp a i b p=>exact OE (d _) (d _) _ _
  | UnaryOp i a p=>exact OT d i a p
  | Compare a g bs p=>exact OU O d a g bs p
  | BoolOp i w p=>exact DZ d _ _ _
  | IfExp t a b p=>exact K1 (s _) (d _) (d _)
  | Tuple r n p=>exact OZ d r n p
  | List r p=>exact O0 d r p
  | Dict B w p=>exact OW O d B w p
  | Subscript a b p=>exact OX O d a b p
  | Call f j u l=>exact O1 O d f j u l
  | ListComp q A h p=>
   show QE X _ (yK S m o c q h A)
   unfold yK
   split
   ·exact OO y z c X O _ _ _ _ _ _
   ·exact bP
  | _=>exact bP
 ·intro e
  cases e with
  | BoolOp i w p=>exact Lu (D0 s _ _ _)
  | UnaryOp i a p=>
   cases i
   case Not=>exact Ln (s _)
   all_goals exact yO d _
  | Compare a g bs p=>exact OY O d a g bs p
  | _=>exact yO d _
theorem yP {S:Sig}{F:Str->MF}{k:Nat}:∀ (n:Nat),(∀ c X,Okx S F k c X->∀ e,QE X e ((tr S F n).1 c e))/\∀ c X,Okx S F k c X->∀ e,QT X e ((tr S F n).2 c e)
 | 0=>⟨fun c X O e=>bP,fun c X O e=>wD⟩
 | n+1=>by
  have a:=yP (S:=S) (F:=F) (k:=k) n
  exact ⟨fun c X O e=>(Ea a.1 a.2 c X O).1 e,fun c X O e=>(Ea a.1 a.2 c X O).2 e⟩
end L3
namespace L3
open PySem L2
noncomputable def tB:MG:=fun _ _ _=>none
noncomputable def qF (c:Cs):List Expr->Option (List Nat)
 | []=>some []
 | .Name x _::r=>if mM c x then (mL x c.N).bind fun i=>(qF c r).map (i::·) else none
 | _=>none
noncomputable def yQ (c:Cs):Expr->MG
 | .Name x _=>if mM c x then (match mL x c.N with|some i=>cT i|none=>tB) else tB
 | .Tuple es _ _=>match qF c es with|some is=>eX is|none=>tB
 | _=>tB
noncomputable def mN (r:Stmt->MS):List Stmt->MS
 | []=>bS
 | [s]=>r s
 | s::t=>aK (r s) (mN r t)
noncomputable def yR (S:Sig)(E:Cs->Expr->ME)(T:Cs->Expr->MT)(c:Cs)(i:Nat):Expr->MS
 | .ListComp elt [⟨tg,iter,ifs,0⟩] scope _=>aX i (sX S E T c elt tg iter ifs scope)
 | _=>e8
noncomputable def yS (S:Sig)(E:Cs->Expr->ME)(T:Cs->Expr->MT)(c:Cs)(tg e:Expr):MS:=match tg with
 | .Name y _=>if mM c y then (match mL y c.N with
   | some i=>if jE e then aX i (E c e) else yR S E T c i e
   | none=>e8) else e8
 | .Tuple es _ _=>if wB e then (match qF c es with|some is=>kB (E c e) (eX is)|none=>e8)
   else e8
 | .Subscript o i _=>if jE e&&lU i then dD (E c o) (E c i) (E c e) else e8
 | _=>e8
noncomputable def oG:Nat:=1000000000
noncomputable def Eb (S:Sig)(E:Cs->Expr->ME)(T:Cs->Expr->MT)(c:Cs)(r:Stmt->MS):Stmt->MS
 | .Return (some e) _=>bB (E c e)
 | .Return none _=>bB (mC .non)
 | .If t a b _=>bT (T c t) (mN r a) (mN r b)
 | .Assign [tg] e _=>yS S E T c tg e
 | .Expr e _=>if jE e then gO (E c e) else e8
 | .For tg iter body [] _=>if d9 iter then dG (sW S (E c) c tg iter) (yQ c tg) (mN r body) else e8
 | .While t body [] _=>nQ oG (T c t) (mN r body)
 | .Pass _=>bS
 | _=>e8
noncomputable def yT (S:Sig)(F:Str->MF)(m:Nat)(c:Cs):Nat->Stmt->MS
 | 0=>fun _=>e8
 | n+1=>Eb S (tr S F m).1 (tr S F m).2 c (yT S F m c n)
section
variable {S:Sig}{F:Str->MF}{k:Nat}{c:Cs}{X:Cx}
theorem Okx.own (O:Okx S F k c X){x:Str}(h:mM c x=true):L2.Loc X.env.scope x:=by
 unfold mM at h
 rw [WO] at h
 unfold L2.Loc
 rw [O.ks]
 exact h.imp of_decide_eq_true of_decide_eq_true
theorem yU (O:Okx S F k c X)(a:∀ x,X.fn x=true):∀ (es:List Expr)(is:List Nat),qF c es=some is->QGs X es is
 | [],is,h=>by cases h;exact B0
 | e::es,is,h=>by
  cases e with
  | Name x p=>
   unfold qF at h
   split at h
   ·rename_i g
    obtain ⟨i,b,h⟩:=SF.mp h
    obtain ⟨j,d,h⟩:=SS.mp h
    subst h
    exact B1 i O.nd (yU O a es j d) (by rw [O.N];exact pX b) (O.own g) (.inl (a x))
   ·cases h
  | _=>cases h
theorem O2 (O:Okx S F k c X)(b:∀ x,X.fn x=true)(e:Expr):QG X e (yQ c e):=by
 unfold yQ
 split
 ·split
  ·rename_i d
   split
   ·rename_i i a
    exact LH i O.nd (by rw [O.N];exact pX a) (O.own d) (.inl (b _))
   ·exact rS fun _ _ _=>rfl
  ·exact rS fun _ _ _=>rfl
 ·split
  ·rename_i is a
   exact wA (yU O b _ is a) O.calm
  ·exact rS fun _ _ _=>rfl
 ·exact rS fun _ _ _=>rfl
theorem oH {r:Stmt->MS}(a:∀ s,QS X s (r s)):∀ b:List Stmt,QB X b (mN r b)
 | []=>Ly
 | [s]=>LA (a s)
 | s::t::ts=>Lz (a s) (oH a (t::ts))
theorem O3 {elt tg iter:Expr}{ifs:List Expr}{scope:Wh}{pos py:UY}{y:Str}{n:Nat}{env:YU} :
  ∃ b:Bool,X8 (.ListComp elt [⟨tg,iter,ifs,0⟩] scope pos) (some (.Name y py)) n env=pure b/\(b=true->env.kindOf y=some .local):=by
 refine ⟨env.blockKind == .function&&env.kindOf y == some .local&&py.line == pos.line&&!(scope.names.any fun (n,k)=>n == y&&(k == .local||k == .cell)),rfl,fun h=>?_⟩
 simp only [S0,beq_iff_eq] at h
 exact h.1.1.2
theorem O4 (O:Okx S F k c X)(B:∀ x,X.fn x=true){E:Cs->Expr->ME}{T:Cs->Expr->MT}(r:∀ c X,Okx S F k c X->∀ e,QE X e (E c e))(u:∀ c X,Okx S F k c X->∀ e,QT X e (T c e))
  {i:Nat}{y:Str}{py j:UY}(v:X.N[i]? = some y)(G:mM c y=true)(elt tg iter:Expr)(ifs:List Expr)(scope:Wh)(pos:UY){A:MI}(m:PI X tg iter (jF X.K A)):QS X (.Assign [.Name y py] (.ListComp elt [⟨tg,iter,ifs,0⟩] scope pos) j) (aX i (qD A E T c elt tg iter ifs scope)):=by
  obtain ⟨b,l,p⟩:=O3 (elt:=elt) (tg:=tg) (iter:=iter) (ifs:=ifs) (scope:=scope) (pos:=pos) (py:=py) (y:=y) (n:=j.line) (env:=X.env)
  cases b with
  | false=>exact ⟨By O.nd v (O.own G) (D9 r u c X O elt tg iter ifs scope pos m).h l (.inl (B y))⟩
  | true=>
   unfold qD
   split
   ·rename_i M w
    split
    ·rename_i h
     rw [S0] at h
     refine ⟨fun n s L H D I q=>?_⟩
     exact LS ((sY O h.1).1.ok I.ok) O.nd O.calm m (fun d K z=>(sZ O w h.1 [] 0 s H []).2 d K z) (fun C g a o=>(sZ O w h.1 _ C g a o).1) (fun C g a o=>(D4 (u _ _ (O.comp h.1)) _).h) (fun C g a o=>(r _ _ (O.comp h.1) _).h) (D7 h.2) v (p rfl) l n s L H D I q
    ·exact CS
   ·exact CS
theorem O5 (O:Okx S F k c X)(g:∀ x,X.fn x=true){E:Cs->Expr->ME}{T:Cs->Expr->MT}(b:∀ c X,Okx S F k c X->∀ e,QE X e (E c e))(d:∀ c X,Okx S F k c X->∀ e,QT X e (T c e))
  {i:Nat}{y:Str}{py a:UY}(h:X.N[i]? = some y)(j:mM c y=true)(e:Expr):QS X (.Assign [.Name y py] e a) (yR S E T c i e):=by
 unfold yR
 split
 ·exact O4 O g b d h j _ _ _ _ _ _ (yN O (b c X O) _ _)
 ·exact eC
theorem O6 (O:Okx S F k c X)(d:∀ x,X.fn x=true){E:Cs->Expr->ME}{T:Cs->Expr->MT}(b:∀ c X,Okx S F k c X->∀ e,QE X e (E c e))(m:∀ c X,Okx S F k c X->∀ e,QT X e (T c e))(tg e:Expr)(pos:UY) :
  QS X (.Assign [tg] e pos) (yS S E T c tg e):=by
 unfold yS
 split
 ·split
  ·rename_i l
   split
   ·rename_i i g
    have a:=pX g
    rw [<- O.N] at a
    split
    ·rename_i j
     exact LG i O.nd (b c X O e) j a (O.own l) (.inl (d _))
    ·exact O5 O d b m a l e
   ·exact eC
  ·exact eC
 ·split
  ·rename_i j
   split
   ·rename_i is g
    exact LJ (b c X O e) (wA (yU O d _ is g) O.calm) j
   ·exact eC
  ·exact eC
 ·split
  ·rename_i h
   rw [S0] at h
   exact Ng O.room (b c X O _) (b c X O _) (b c X O _) h.1
  ·exact eC
 ·exact eC
theorem O7 (O:Okx S F k c X)(q:∀ x,X.fn x=true){E:Cs->Expr->ME}{T:Cs->Expr->MT}(j:∀ c X,Okx S F k c X->∀ e,QE X e (E c e))(m:∀ c X,Okx S F k c X->∀ e,QT X e (T c e)){r:Stmt->MS}(l:∀ s,QS X s (r s))(st:Stmt) :
  QS X st (Eb S E T c r st):=by
 cases st with
 | Return o p=>
  cases o with
  | none=>exact L8
  | some e=>exact LC (j c X O _)
 | If t a b p=>exact LF (m c X O _) (oH l _) (oH l _)
 | Assign n e p=>
  cases n with
  | nil=>exact eC
  | cons u v=>
   cases v with
   | nil=>exact O6 O q j m _ _ _
   | cons _ _=>exact eC
 | Expr e p=>
  show QS X _ (if jE e then gO (E c e) else e8)
  split
  ·rename_i h;exact LD (j c X O _) h
  ·exact eC
 | For u i g d p=>
  cases d with
  | cons _ _=>exact eC
  | nil=>
   show QS X _ (if d9 i then _ else e8)
   split
   ·rename_i h
    exact MJ (yN O (j c X O) _ _) (O2 O q _) (oH l _) O.never O.calm h
   ·exact eC
 | While t g d p=>
  cases d with
  | nil=>exact L7 _ (m c X O _) (oH l _) O.never
  | cons _ _=>exact eC
 | Pass p=>exact LB
 | _=>exact eC
theorem Ec (O:Okx S F k c X)(a:∀ x,X.fn x=true)(m:Nat):∀ (n:Nat)(st:Stmt),QS X st (yT S F m c n st)
 | 0,_=>eC
 | n+1,st=>O7 O a (yP m).1 (yP m).2 (Ec O a m n) st
end
noncomputable def c7 (st:Stmt):List Str:=(i8 st).args.map (·.arg)
noncomputable def kX (st:Stmt):List Str:=c7 st++(b9 st).names.filterMap fun y=>if (y.2 == NameKind.local||y.2 == VP)&&!(c7 st).contains y.1 then some y.1 else none
noncomputable def mO (st:Stmt):Bool:=
 decide ((b9 st).kind=.function)&&!(b9 st).isCoroutine&&!(b9 st).isGenerator&&decide (kX st).Nodup &&
 ((c7 st).all fun x=>decide ((b9 st).names.lookup x=some .local)||decide ((b9 st).names.lookup x=some .cell))&&((b9 st).names.all fun y=>decide (y.2≠.free))
theorem O8 {st:Stmt}(h:mO st=true):FnScope (kX st) (c7 st) (b9 st):=by
 unfold mO at h
 simp only [S0,decide_eq_true_eq,Ws,Vp,WO] at h
 obtain ⟨⟨⟨⟨⟨a,b⟩,c⟩,d⟩,e⟩,g⟩:=h
 exact ⟨a,b,c,d,by unfold kX;simp,e,g⟩
noncomputable def Ed:Nat:=40
noncomputable def Ee:Nat:=40
noncomputable def yV (S:Sig)(F:Str->MF)(st:Stmt):MF:=vD (kX st).length (mN (yT S F Ed ⟨kX st,(b9 st).names⟩ Ee) (fE st))
noncomputable def iS (S:Sig)(ds:List (Str×Stmt)):Nat->Str->MF
 | 0,_=>fun _ _=>none
 | k+1,x=>match ds.lookup x with
  | none=>fun _ _=>none
  | some st=>yV S (iS S ds k) st
structure DefAt (K:SJ)(mg:Str->Option SK)(x:Str)(st:Stmt):Prop where
 ex:∃ f fd,Fun K x x st f fd/\mg x=some (.ref f)/\Binds K fd (c7 st) []
structure TxtOk (P:Tj)(w:TH)(K:SJ)(mg:Str->Option SK)(S:Sig)(ds:List (Str×Stmt)):Prop where
 fns:∀ x n,S.fn.lookup x=some n->∃ st,ds.lookup x=some st/\(c7 st).length=n
 defs:∀ x st,ds.lookup x=some st->DefAt K mg x st/\mO st=true
 con:∀ x d,S.con.lookup x=some d->∃ v u,mg x=some u/\RelV v u/\∀ π n H,IsD K π n H v d
 tab:∀ x kvs,S.tab.lookup x=some kvs->∃ (p:Addr)(vs:List (aF×V))(ws:List (aF×SK)),mg x=some (.ref p)/\(∀ h:Uj,K.In h->h.DictOf (c8 P w) p ws)/\KV vs ws/\∀ π n H,IsKs K π n H vs kvs
 no:∀ x,S.no.contains x=true->mg x=none
theorem Ef {P:Tj}{w:TH}{K:SJ}{mg:Str->Option SK}{base:Uj}{S:Sig}{ds:List (Str×Stmt)}(T:TxtOk P w K mg S ds):∀ (k:Nat)(x:Str)(st:Stmt)(f:Addr)(c:VA),ds.lookup x=some st->Fun K x x st f c->
  FnOk P w K mg base eS k f c (c7 st) (iB K (c7 st).length (iS S ds k x))
 | 0,x,st,f,c,hl,hF=>⟨fun U H Q E h=>h.1,fun A outer s H o us U Q E u Z Y hv I=>by
   obtain ⟨_,π,z,μ,d,X,R,i,G,kc⟩:=I
   cases G⟩
 | k+1,x,st,f,c,hl,hF=>by
  have M:=Ef (base:=base) T k
  have e:iS S ds (k+1) x=yV S (iS S ds k) st:=by
   show (match ds.lookup x with|none=>fun _ _=>none|some st=>yV S (iS S ds k) st)=_
   rw [hl]
  rw [e]
  have g:=O8 (T.defs x st hl).2
  refine LK hF g (by unfold kX;simp) rfl fun j A outer s H E u=>?_
  have O:Okx S (iS S ds k) k ⟨kX st,(b9 st).names⟩ (i6 eS P w K mg base (kX st) x (b9 st) f j A outer s H E).nox:=by
   refine ⟨rfl,g.nd,rfl,g.kind,rfl,u,a0E,fun y n L=>?_,T.con,fun y l q=>⟨T.tab y l q⟩,T.no⟩
   obtain ⟨a,r,B⟩:=T.fns y n L
   obtain ⟨p,b,m,N,v⟩:=(T.defs y a r).1.ex
   subst B
   exact ⟨p,b,c7 a,M y a p b r m,N,m.kp,v⟩
  exact oH (Ec O (fun _=>rfl) Ed Ee) (fE st)
theorem Eg:∀ {ns:List Int}{b:Nat},XM (ns.map XC)<=b->∀ n∈ns,TJ n<=b
 | [],_,_,n,a=>nomatch a
 | m::ns,b,h,n,a=>by
  have e:XM ((m::ns).map XC)=Zg (.int m)+1+XM (ns.map XC):=rfl
  have c:Zg (.int m)=TJ m:=rfl
  rw [e,c] at h
  rcases To.mp a with rfl|a
  ·omega
  ·exact Eg (b:=b) (by omega) n a
section
open PySem PySem.W PySem.Calls PyProof.Rows
theorem O9 {l:a1a}{n:Nat}{q:Tj}{loose:List Str}{XP:(Str->Option SK)->Uj->Prop}{YP:TH->Uj->Prop}{d:DefRec}
  (X:l.most=some n)(y:d.params.defaults=[])
  (call:∀ (w:TH)(s₀ b:SM)(mg B:Str->Option SK)(g:Addr)(o:Vu)(E s c:SK)(a:Addr)(vs:List SK)(ns:List Int),
   Ground q loose [] XP w s₀ mg B b.heap->YP w b.heap->
   b.heap.get? g=some o->o.data=.func (docDef d.name d.params d.body d.scope E s c)->b.heap.CodeRec s d.name->mg d.name=some (.ref g)->
   b.heap.get? a=some { cls:=.type "list",data:=.seq vs.toArray }->Wr vs ns->ns.length<=n->(∀ m∈ns,TJ m<=2 ^ 20)->b.gens = #[]->
   Yg (Tr l.prog w) Zz (.call (.ref g) ⟨[.ref a],[]⟩) (fun r u=>r=.ok (.ret (.bool true))/\OldK b.heap u.heap/\u.os=b.os/\Y1 u.gens) b) :
  a1B q loose XP YP l.row.toRowW d [] (fun f vs=>a2S f vs):=by
 intro w s₀ b mg B G Y g o E s c L kV Z hd x I z R H K as p h hrd A T
 obtain rfl:L=.none:=Dflts.none I y
 obtain rfl:kV=.none:=Dflts.noKw I
 obtain ⟨a,vs,ns,rfl,rfl,j,e,i⟩:=Att.script_of X p A
 have Q:∀ m∈ns,TJ m<=2 ^ 20:=by
  have v:Zb (.list (ns.map XC))=true:=by
   have:=h
   unfold a2T at this
   simpa using this
  unfold Zb at v
  rw [S0] at v
  exact Eg (of_decide_eq_true v.2)
 refine enter_call (Zy (call w s₀ b mg B g o E s c a vs ns G Y Z (fd_plain hd) x z j e i Q R) fun r u hq=>?_)
 obtain ⟨rfl,M,N,O⟩:=hq
 exact ⟨.inl ⟨.bool true,.bool true,[],rfl,fun _=>rfl,.bool true,Att.post_true l _,fun _=>⟨Ym,fun _ U=>(nomatch U)⟩⟩,M,N,O⟩
end
theorem walkM {l:a1a}{q:Tj}{loose:List Str}{XP:(Str->Option SK)->Uj->Prop}{YP:TH->Uj->Prop}{d:DefRec}{K:Params->SJ}{S:Sig}{ds:List (Str×Stmt)}{k:Nat}{st:Stmt}{x:Str}(hn:l.most=some 63)(L:d.params.defaults=[])
  (hr:Room k Zz)(hY:∀ (w:TH)(h:Uj),YP w h->(K w.params).In h)(hl:ds.lookup d.name=some st)(hx:c7 st=[x])
  (T:∀ (w:TH)(mg:Str->Option SK)(h:Uj),(K w.params).In h->h.Ns U8 mg->TxtOk l.prog w (K w.params) mg S ds/\∃ f B,Fun (K w.params) d.name d.name st f B/\mg d.name=some (.ref f)/\∀ (s:SM)(u:SK),ZL s B ⟨[u],[]⟩ [(x,u)])
  (M:∀ b:List Int,b.length<=63->(∀ m∈b,TJ m<=2 ^ 20)->∃ p,iS S ds k d.name [.rol (b.map D.int)] []=some (.bl true,p)) :
  a1B q loose XP YP l.row.toRowW d [] (fun f vs=>a2S f vs):=by
 refine O9 hn L fun w X Z mg mb fa o pm cd doc a vs b G Y ho hd hcd O A g c I hg=>?_
 have R:=hY w _ Y
 obtain ⟨hT,f,B,hF,U,hb⟩:=T w mg _ R G.T.g
 rw [O] at U
 cases U
 refine L2.law_call (CX:=eS) (sp:=iB (K w.params) 1 (iS S ds k d.name)) R G.T.g G.T.b G.T.builtins G.T.nolimit hg A g (TQ c (by decide)) hr (fun y hb1 hb2=>?_) hb (fun H hO hS=>?_) fun H e s' z=>z
 ·have:=Ef (base:=y) hT k d.name st fa B hl hF
  rw [hx] at this
  exact this
 ·refine ⟨rfl,fun _=>0,[.rol (b.map D.int)],[],.bl true,?_⟩
  obtain ⟨p,hM⟩:=M b c I
  have Q:RoL (K w.params) H a (b.map V.int):=by
   rcases hS with (h|h)|h
   ·rcases hO a with z|⟨o,E,z⟩
    ·rw [z] at h;cases h
    ·rw [z] at h;cases h
   ·exact .inl h
   ·exact .inr h
  refine ⟨p,⟨fun i j N=>absurd N (WS _),fun i N=>absurd N (WS _),fun i E h=>(by cases h),fun i E h=>(by cases h),fun i E h=>(by cases h)
   ,fun i E h=>(by cases h)
   ⟩,.cons (.rol Q ?_) .nil,hM,fun π' v H' _ _ hv=>?_⟩
  ·have:∀ b:List Int,IsDs (K w.params) (fun _=>0) ([]:Hm).length H (b.map V.int) (b.map D.int):=fun b=>by
    induction b with
    | nil=>exact .nil
    | cons n r ih=>exact .cons (.int n) ih
   exact this b
  ·cases hv
   rfl
end L3
namespace L3
open PySem L2
theorem tD {a:Type}:∀ {l:List (Str×a)}{x:Str}{b:a},l.lookup x=some b->(x,b)∈l:=fun h=>Uz h
theorem Pa {S:Sig}{ds:List (Str×Stmt)}(h:(S.fn.all fun p=>match ds.lookup p.1 with|some st=>decide ((c7 st).length=p.2)|none=>false)=true):∀ x n,S.fn.lookup x=some n->∃ st,ds.lookup x=some st/\(c7 st).length=n:=by
 intro x n e
 have:=Vp.mp h (x,n) (tD e)
 dsimp only at this
 split at this
 ·rename_i st a
  exact ⟨st,a,of_decide_eq_true this⟩
 ·cases this
theorem Pb {K:SJ}{mg:Str->Option SK}{ds:List (Str×Stmt)}(h:∀ p∈ds,DefAt K mg p.1 p.2/\mO p.2=true):∀ x st,ds.lookup x=some st->DefAt K mg x st/\mO st=true:=fun x st e=>h (x,st) (tD e)
theorem Pc {K:SJ}{mg:Str->Option SK}{a:List (Str×D)}(h:∀ p∈a,∃ v u,mg p.1=some u/\RelV v u/\∀ π n H,IsD K π n H v p.2):∀ x d,a.lookup x=some d->∃ v u,mg x=some u/\RelV v u/\∀ π n H,IsD K π n H v d:=fun x d e=>h (x,d) (tD e)
inductive EntsOf (w:TH):List T6->List (aF×SK)->Prop where
 | nil:EntsOf w [] []
 | cons {e:T6}{k:aF}{v:SK}{es:List T6}{kvs:List (aF×SK)}(h:lE k e.key=true)(hh:e.hash=Aq w k)(hv:e.val=v)(t:EntsOf w es kvs):EntsOf w (e::es) ((k,v)::kvs)
theorem EntsOf.keys {P:Tj}{w:TH}{es:List T6}{kvs:List (aF×SK)}(x:EntsOf w es kvs):∀ e∈es,∃ k,(c8 P w).is k e.key=true/\e.hash=(c8 P w).hash k:=by
 induction x with
 | nil=>intro e a;exact nomatch a
 | @cons e k v es kvs h c g _ d=>
  intro b a
  rcases To.mp a with rfl|a
  ·exact ⟨k,h,c⟩
  ·exact d b a
theorem Pd {mg:Str->Option SK}{ns:List Str}(h:∀ x∈ns,mg x=none):∀ x,ns.contains x=true->mg x=none:=fun x e=>h x (by simpa using e)
noncomputable def tE:Nat->(Nat->SK)->List SK
 | 0,_=>[]
 | n+1,u=>u 0::tE n fun i=>u (i+1)
theorem Eh:∀ us:List SK,∃ u,us=tE us.length u
 | []=>⟨fun _=>.none,rfl⟩
 | v::us=>let ⟨u,a⟩:=Eh us;⟨fun i=>match i with|0=>v|i+1=>u i,congrArg (v::·) a⟩
noncomputable abbrev Ei:Type:=SK->SK->SK->Option Addr->SK->SK->(Nat->SK)->a0L (List (Str×SK))
noncomputable def Pe (x:Str)(st:Stmt)(m:SK)(c:Addr):Vu:=⟨WL "function",none,.func (VO x x (i8 st) (fE st) (b9 st) .none .none .none m none (.ref c) .none),#[]⟩
noncomputable def Ej (K:SJ)(d:(Str×Stmt)×SK×Addr×Addr):Option (Option SK)×Option Vu×Bool×Bool×Bool×Ei:=(Yb K U8 d.1.1,K.lookup d.2.2.2,Yk K (.ref d.2.2.1) d.1.1,Vf K (.ref d.2.2.2),mO d.1.2,fun kV b c an a ct u=>a0s (VO d.1.1 d.1.1 (i8 d.1.2) (fE d.1.2) (b9 d.1.2) .none kV b c an a ct) ⟨tE (c7 d.1.2).length u,[]⟩)
noncomputable def Ek (d:(Str×Stmt)×SK×Addr×Addr):Option (Option SK)×Option Vu×Bool×Bool×Bool×Ei:=(some (some (.ref d.2.2.2)),some (Pe d.1.1 d.1.2 d.2.1 d.2.2.1),true,true,true,fun _ _ _ _ _ _ u=>pure ((c7 d.1.2).zip (tE (c7 d.1.2).length u)))
noncomputable def tF (K:SJ)(d:Str×Stmt):(Str×Stmt)×SK×Addr×Addr:=(d,match Yb K U8 d.1 with
 | some (some (.ref f))=>(match K.lookup f with
  | some ⟨_,_,.func fd,_⟩=>(match fd.code with
   | .ref c=>(fd.pyModule,c,f)
   | _=>(.none,0,0))
  | _=>(.none,0,0))
 | _=>(.none,0,0))
noncomputable def tG (K:SJ)(ds:List (Str×Stmt)):Prop:=ds.map (fun d=>Ej K (tF K d))=ds.map fun d=>Ek (tF K d)
theorem Em {K:SJ}{h:Uj}{mg:Str->Option SK}(X:K.In h)(G:h.Ns U8 mg){ds:List (Str×Stmt)}(q:tG K ds):∀ p∈ds,(DefAt K mg p.1 p.2/\mO p.2=true)/\∃ f i,Fun K p.1 p.1 p.2 f i/\mg p.1=some (.ref f)/\∀ us:List SK,us.length=(c7 p.2).length->a0s i ⟨us,[]⟩=pure ((c7 p.2).zip us):=by
 intro g o
 have t:=a1x.mp q g o
 have e:(tF K g).1=g:=rfl
 generalize tF K g=d at t e
 obtain ⟨p,m,c,f⟩:=d
 cases e
 unfold Ej Ek at t
 obtain ⟨a,t⟩:=Yl t
 obtain ⟨l,t⟩:=Yl t
 obtain ⟨c,t⟩:=Yl t
 obtain ⟨k,t⟩:=Yl t
 obtain ⟨s,b⟩:=Yl t
 have F:=IM (st:=p.2) l c k
 have D:=fun kV doc pm an cdv ct (us:List SK)(n:us.length=(c7 p.2).length)=>(by
  obtain ⟨u,j⟩:=Eh us
  rw [n] at j
  rw [j]
  exact congrFun (congrFun (congrFun (congrFun (congrFun (congrFun (congrFun b kV) doc) pm) an) cdv) ct) u:a0s (VO p.1 p.1 (i8 p.2) (fE p.2) (b9 p.2) .none kV doc pm an cdv ct) ⟨us,[]⟩=pure ((c7 p.2).zip us))
 exact ⟨⟨⟨_,_,F,ZC X G a,F.binds D⟩,s⟩,_,_,F,ZC X G a,D _ _ _ _ _ _⟩
theorem Pf {K:SJ}{h:Uj}{mg:Str->Option SK}(X:K.In h)(G:h.Ns U8 mg){ds:List (Str×Stmt)}(q:tG K ds){x y:Str}{st:Stmt}(c:ds.lookup x=some st)(d:c7 st=[y]):∃ f a,Fun K x x st f a/\mg x=some (.ref f)/\∀ (s:SM)(u:SK),ZL s a ⟨[u],[]⟩ [(y,u)]:=by
 obtain ⟨f,a,F,m,b⟩:=(Em X G q (x,st) (tD c)).2
 dsimp only at b
 rw [d] at b
 exact ⟨f,a,F,m,fun s u=>.of_eq (b [u] rfl)⟩
theorem Pg {K:SJ}{h:Uj}{mg:Str->Option SK}(X:K.In h)(G:h.Ns U8 mg){ns:List Str}(q:ns.map (Yb K U8)=ns.map fun _=>some none):∀ x∈ns,mg x=none:=fun x a=>PySem.W.mg_none_of X G (a1x.mp q x a)
noncomputable def qG {c d:Type}(f:c->d->Bool):List c->List d->Bool
 | [],[]=>true
 | a::as,b::bs=>f a b&&qG f as bs
 | _,_=>false
noncomputable def qH (K:SJ):Nat->SK->D->Bool
 | 0,_,_=>false
 | k+1,u,d=>match d with
  | .non=>(match u with|.none=>true|_=>false)
  | .bl b=>(match u with|.bool c=>decide (b=c)|_=>false)
  | .int i=>(match u with|.int j _=>decide (i=j)|_=>false)
  | .str x=>(match u with|.str y _=>decide (x=y)|_=>false)
  | .tup ds=>(match u with
   | .ref p=>(match K.lookup p with
    | some ⟨.type t,none,.seq its _,_⟩=>decide (t = "tuple")&&decide (its.size<=1000)&&qG (qH K k) its.toList ds
    | _=>false)
   | _=>false)
  | .rol ds=>(match u with
   | .ref p=>(match K.lookup p with
    | some ⟨.type t,none,.seq its _,_⟩=>decide (t = "list")&&decide (its.size<=1000)&&qG (qH K k) its.toList ds
    | _=>false)
   | _=>false)
  | _=>false
theorem Eo {K:SJ}{f:SK->D->Bool}(h:∀ u d,f u d=true->∃ v,RelV v u/\∀ π n H,IsD K π n H v d):∀ us ds,qG f us ds=true->∃ vs,Vals vs us/\∀ π n H,IsDs K π n H vs ds
 | [],[],_=>⟨[],.nil,fun _ _ _=>.nil⟩
 | u::us,d::ds,e=>by
  obtain ⟨a,b⟩:=Wz.mp e
  obtain ⟨v,r,q⟩:=h u d a
  obtain ⟨vs,g,c⟩:=Eo h us ds b
  exact ⟨v::vs,.cons r g,fun _ _ _=>.cons (q _ _ _) (c _ _ _)⟩
 | [],_::_,e=>nomatch e
 | _::_,[],e=>nomatch e
theorem Ep {K:SJ}:∀ (k:Nat)(u:SK)(d:D),qH K k u d=true->∃ v,RelV v u/\∀ π n H,IsD K π n H v d
 | 0,_,_,e=>nomatch e
 | k+1,u,d,e=>by
  have seq:∀ {p:Addr}{ds:List D}{c:String},(match K.lookup p with|some ⟨.type t,none,.seq g _,_⟩=>decide (t=c)&&decide (g.size<=1000)&&qG (qH K k) g.toList ds|_=>false)=true->∃ h g n l,K.lookup p=some ⟨.type c,none,.seq g n,l⟩/\g.size<=S8/\Vals h g.toList/\∀ π n H,IsDs K π n H h ds:=fun {p ds c} e=>by
   split at e
   ·rename_i t g n l j
    obtain ⟨e,q⟩:=Wz.mp e
    obtain ⟨a,b⟩:=Wz.mp e
    cases of_decide_eq_true a
    obtain ⟨h,r,i⟩:=Eo (Ep k) _ _ q
    exact ⟨h,g,n,l,j,TQ (of_decide_eq_true b) (by decide),r,i⟩
   ·cases e
  cases d with
  | non=>cases u with
   | none=>exact ⟨.non,rfl,fun _ _ _=>.non⟩
   | _=>cases e
  | bl b=>cases u with
   | bool c=>cases of_decide_eq_true e;exact ⟨.bl b,rfl,fun _ _ _=>.bl _⟩
   | _=>cases e
  | int b=>cases u with
   | int c=>cases of_decide_eq_true e;exact ⟨.int b,⟨_,rfl⟩,fun _ _ _=>.int _⟩
   | _=>cases e
  | str b=>cases u with
   | str c=>cases of_decide_eq_true e;exact ⟨.str b,⟨_,rfl⟩,fun _ _ _=>.str _⟩
   | _=>cases e
  | tup ds=>cases u with
   | ref p=>
    obtain ⟨h,g,n,l,j,m,r,i⟩:=seq e
    exact ⟨.ref p,rfl,fun _ _ _=>.tup (vs:=h) (.inr ⟨_,g,n,j,rfl,rfl,rfl,m,r⟩) (i _ _ _)⟩
   | _=>cases e
  | rol ds=>cases u with
   | ref p=>
    obtain ⟨h,g,n,l,j,m,r,i⟩:=seq e
    exact ⟨.ref p,rfl,fun _ _ _=>.rol (vs:=h) (.inr ⟨_,g,n,j,rfl,rfl,rfl,m,r⟩) (i _ _ _)⟩
   | _=>cases e
  | _=>cases e
noncomputable def Er (K:SJ)(a:List (Str×D)):Bool:=a.all fun c=>match Yb K U8 c.1 with|some (some u)=>qH K 8 u c.2|_=>false
theorem Ph {K:SJ}{h:Uj}{mg:Str->Option SK}(X:K.In h)(G:h.Ns U8 mg){a:List (Str×D)}(q:Er K a=true):∀ p∈a,∃ v u,mg p.1=some u/\RelV v u/\∀ π n H,IsD K π n H v p.2:=fun p b=>by
 have t:=Vp.mp q p b
 split at t
 ·rename_i u c
  obtain ⟨v,r,i⟩:=Ep _ _ _ t
  exact ⟨v,u,ZC X G c,r,i⟩
 ·cases t
end L3
namespace L3
open PySem L2
noncomputable def W {a:Type}(o:Option a)(Q:a->Prop):Prop:=∃ r,o=some r/\Q r
section
variable {α β:Type}{o:Option α}{Q:α->Prop}
theorem W_some {r:α}{Q:α->Prop}:W (some r) Q↔Q r:=⟨fun ⟨_,h,q⟩=>by cases h;exact q,fun q=>⟨r,rfl,q⟩⟩
theorem W_none {Q:α->Prop}:W none Q↔False:=⟨fun ⟨_,h,_⟩=>(by cases h),fun h=>h.elim⟩
theorem W_bind {g:α->Option β}{Q:β->Prop}:W (o.bind g) Q↔W o fun r=>W (g r) Q:=by
 cases o with
 | none=>exact ⟨fun ⟨_,h,_⟩=>(by cases h),fun ⟨_,h,_⟩=>(by cases h)⟩
 | some a=>simp [W_some]
theorem iT {g:α->β}{Q:β->Prop}:W (o.map g) Q↔W o fun r=>Q (g r):=by
 cases o with
 | none=>exact ⟨fun ⟨_,h,_⟩=>(by cases h),fun ⟨_,h,_⟩=>(by cases h)⟩
 | some a=>simp [W_some]
theorem bQ {a:α->Prop}(h:W o Q)(k:∀ r,Q r->a r):W o a:=let ⟨r,e,q⟩:=h;⟨r,e,k r q⟩
theorem tH {c:Prop} [Decidable c] {a b:Option α}:W (if c then a else b) Q↔if c then W a Q else W b Q:=by split<;>rfl
end
noncomputable def fin:Option (Fl×aH×Hm)->Option (D×Hm):=fun o=>o.bind fun p=>match p.1 with|.rt d=>some (d,p.2.2)|.nx=>some (.non,p.2.2)|_=>none
theorem cD {o:Option (Fl×aH×Hm)}{Q:D×Hm->Prop}:W (fin o) Q↔W o fun p=>match p.1 with|.rt d=>Q (d,p.2.2)|.nx=>Q (.non,p.2.2)|_=>False:=by
 unfold fin
 rw [W_bind]
 constructor
 ·exact fun h=>bQ h fun p q=>by
   obtain ⟨a,c,b⟩:=p
   cases a<;>simpa [W_some,W_none] using q
 ·exact fun h=>bQ h fun p q=>by
   obtain ⟨a,c,b⟩:=p
   cases a<;>simpa [W_some,W_none] using q
theorem aS {d b:Hm}(h:d <+: b){a:Nat}{c:C}(e:d[a]? = some c):b[a]? = some c:=by
 obtain ⟨t,rfl⟩:=h
 have g:=(SN.mp e).1
 rw [S7 g]
 exact e
theorem mP {b a:Hm}(h:b <+: a):b.length<=a.length:=h.length_le
theorem bC (a:Hm)(c:C):a <+: a++[c]:=⟨[c],rfl⟩
theorem fM {d b:Hm}(h:d <+: b){a:Nat}(e:d.length<=a)(c:C):d <+: b.set a c:=by
 obtain ⟨t,rfl⟩:=h
 rw [Xf _ _ e]
 exact ⟨_,rfl⟩
theorem aZ {a b:MS}{ρ:aH}{c:Hm} {Q}:W (aK a b ρ c) Q↔W (a ρ c) fun p=>match p.1 with|.nx=>W (b p.2.1 p.2.2) Q|_=>Q p:=by
 unfold aK
 rw [W_bind]
 constructor
 ·exact fun h=>bQ h fun p q=>by
   obtain ⟨d,ρ,c⟩:=p
   cases d<;>simpa [W_some,W_none] using q
 ·exact fun h=>bQ h fun p q=>by
   obtain ⟨d,ρ,c⟩:=p
   cases d<;>simpa [W_some,W_none] using q
theorem b8 {m:ME}{ρ:aH}{a:Hm} {Q}:W (bB m ρ a) Q↔W (m ρ a) fun p=>Q (.rt p.1,ρ,p.2):=iT
theorem tI {m:ME}{ρ:aH}{a:Hm} {Q}:W (gO m ρ a) Q↔W (m ρ a) fun p=>Q (.nx,ρ,p.2):=iT
theorem bL {i:Nat}{m:ME}{ρ:aH}{a:Hm} {Q}:W (aX i m ρ a) Q↔W (m ρ a) fun p=>Q (.nx,ρ.set i (some p.1),p.2):=iT
theorem dQ {ρ:aH}{a:Hm} {Q}:W (bS ρ a) Q↔Q (.nx,ρ,a):=W_some
theorem dE {t:MT}{a b:MS}{ρ:aH}{c:Hm} {Q}:W (bT t a b ρ c) Q↔W (t ρ c) fun p=>if p.1=true then W (a ρ p.2) Q else W (b ρ p.2) Q:=by
 unfold bT
 rw [W_bind]
 constructor<;>exact fun h=>bQ h fun p q=>by
   obtain ⟨x,c⟩:=p
   cases x<;>simpa using q
theorem Et {t:MT}{a b:ME}{ρ:aH}{c:Hm} {Q}:W (lN t a b ρ c) Q↔W (t ρ c) fun p=>if p.1=true then W (a ρ p.2) Q else W (b ρ p.2) Q:=by
 unfold lN
 rw [W_bind]
 constructor<;>exact fun h=>bQ h fun p q=>by
   obtain ⟨x,c⟩:=p
   cases x<;>simpa using q
theorem Pj {a b:MT}{ρ:aH}{c:Hm} {Q}:W (m9 a b ρ c) Q↔W (a ρ c) fun p=>if p.1=true then W (b ρ p.2) Q else Q (false,p.2):=by
 unfold m9
 rw [W_bind]
 constructor<;>exact fun h=>bQ h fun p q=>by
   obtain ⟨x,c⟩:=p
   cases x<;>simpa [W_some] using q
theorem aT {f:D->D->Hm->Option (D×Hm)}{a b:ME}{ρ:aH}{c:Hm} {Q}:W (aB f a b ρ c) Q↔W (a ρ c) fun p=>W (b ρ p.2) fun q=>W (f p.1 q.1 q.2) Q:=by
 unfold aB
 rw [W_bind]
 simp only [W_bind]
theorem aV {d:D}{ρ:aH}{a:Hm} {Q}:W (mC d ρ a) Q↔Q (d,a):=W_some
theorem aE {d:D}{ρ:aH}{a:Hm} {Q}:W (aA 0 (some d::ρ) a) Q↔Q (d,a):=by
 show W (some (d,a)) Q↔_
 exact W_some
theorem aG {i:Nat}{x:Option D}{ρ:aH}{a:Hm} {Q}:W (aA (i+1) (x::ρ) a) Q↔W (aA i ρ a) Q:=by
 unfold aA
 rw [WW]
theorem aO {ρ:aH}{a:Hm} {Q}:W (aD ρ a) Q↔Q ([],a):=W_some
theorem aQ {a:ME}{r:MA}{ρ:aH}{b:Hm} {Q}:W (aC a r ρ b) Q↔W (a ρ b) fun p=>W (r ρ p.2) fun q=>Q (p.1::q.1,q.2):=by
 unfold aC
 simp only [W_bind,W_some]
theorem gC {a:MA}{ρ:aH}{b:Hm} {Q}:W (bW a ρ b) Q↔W (a ρ b) fun p=>p.1.length<=S8/\Q (.tup p.1,p.2):=by
 unfold bW
 rw [W_bind]
 constructor<;>exact fun h=>bQ h fun p q=>by
  first
  | (rw [tH] at q;split at q
     ·exact ⟨by assumption,W_some.mp q⟩
     ·exact (W_none.mp q).elim)
  | (rw [if_pos q.1];exact W_some.mpr q.2)
theorem eH {a:MA}{ρ:aH}{b:Hm} {Q}:W (cQ a ρ b) Q↔W (a ρ b) fun p=>p.1.length<=S8/\Q (.loc p.2.length,p.2++[.lst p.1]):=by
 unfold cQ
 rw [W_bind]
 constructor<;>exact fun h=>bQ h fun p q=>by
  first
  | (rw [tH] at q;split at q
     ·exact ⟨by assumption,W_some.mp q⟩
     ·exact (W_none.mp q).elim)
  | (rw [if_pos q.1];exact W_some.mpr q.2)
theorem bF {f:MF}{a:MA}{ρ:aH}{b:Hm} {Q}:W (aL f a ρ b) Q↔W (a ρ b) fun p=>W (f p.1 p.2) Q:=W_bind
theorem cH {m:ME}{ρ:aH}{a:Hm} {Q}:W (aU m ρ a) Q↔W (m ρ a) fun p=>match p.1 with|.bl b=>Q (b,p.2)|_=>False:=by
 unfold aU
 rw [W_bind]
 constructor<;>exact fun h=>bQ h fun p q=>by
  obtain ⟨d,a⟩:=p
  cases d<;>simpa [W_some,W_none] using q
theorem tJ {m:ME}{ρ:aH}{a:Hm} {Q}:W (kL m ρ a) Q↔W (m ρ a) fun p=>W (kK p.2 p.1) fun b=>Q (b,p.2):=by
 unfold kL
 simp only [W_bind,iT]
theorem yW {a:ME}{ρ:aH}{b:Hm} {Q}:W (nI a ρ b) Q↔W (a ρ b) fun p=>match p.1 with|.int i=>Q (.int (-i),p.2)|_=>False:=by
 unfold nI
 rw [W_bind]
 constructor<;>exact fun h=>bQ h fun p q=>by
  obtain ⟨d,b⟩:=p
  cases d<;>simpa [W_some,W_none,iT,vK] using q
theorem tK {a b:ME}{ρ:aH}{e:Hm} {Q}:W (iD a b ρ e) Q↔W (a ρ e) fun p=>match p.1 with|.bl c=>if c=true then W (b ρ p.2) Q else Q (.bl false,p.2)|_=>False:=by
 unfold iD
 rw [W_bind]
 constructor<;>exact fun h=>bQ h fun p q=>by
  obtain ⟨d,e⟩:=p
  cases d with
  | bl c=>cases c<;>simpa [W_some] using q
  | _=>simpa [W_none] using q
theorem Eu {m:ME}{g:MG}{ρ:aH}{b:Hm} {Q}:W (kB m g ρ b) Q↔W (m ρ b) fun p=>W (g p.1 ρ p.2) fun a=>Q (.nx,a,p.2):=by
 unfold kB
 simp only [W_bind,iT]
section
variable {i j:Int}{μ:Hm}{Q:D×Hm->Prop}{a b c d e g:D}
theorem eI:W (bV (.int i) (.int j) μ) Q↔Q (.int (i+j),μ):=W_some
theorem jQ:W (cA (.int i) (.int j) μ) Q↔Q (.int (i - j),μ):=W_some
theorem dJ (h:0<j):W (bG (.int i) (.int j) μ) Q↔Q (.int (i % j),μ):=by
 show W ((if 0<j then some (i % j) else none).map fun z=>(D.int z,μ)) Q↔_
 rw [if_pos h]
 exact W_some
theorem Pk:(1073741824:Int)<2 ^ 4000:=by decide +kernel
theorem Pl (h:0<j)(l:j<2 ^ 4000):W (cS (.int i) (.int j) μ) Q↔Q (.int (i / j),μ):=by
 show W ((if 0<j/\j<2 ^ 4000 then some (i / j) else none).map fun z=>(D.int z,μ)) Q↔_
 rw [if_pos ⟨h,l⟩]
 exact W_some
theorem gU (h:0<j)(l:j<1073741824):W (cS (.int i) (.int j) μ) Q↔Q (.int (i / j),μ):=Pl h (Int.lt_trans l Pk)
theorem jR (h:(-(2 ^ 64)<i/\i<2 ^ 64)\/(-(2 ^ 64)<j/\j<2 ^ 64)):W (bZ (.int i) (.int j) μ) Q↔Q (.int (i * j),μ):=by
 show W ((if ((-(2 ^ 64)<i/\i<2 ^ 64)\/(-(2 ^ 64)<j/\j<2 ^ 64))\/(i.natAbs<2 ^ 4000/\j.natAbs<2 ^ 4000)\/TJ i+TJ j<=134217728 then some (i * j) else none).map fun z=>(D.int z,μ)) Q↔_
 rw [if_pos (.inl h)]
 exact W_some
theorem Pm (h:0<=j/\j<=1000000/\i.natAbs<2 ^ 64):W (nD (.int i) (.int j) μ) Q↔Q (.int (i ^ j.toNat),μ):=by
 show W ((if (0<=j/\j<=1000000/\i.natAbs<2 ^ 64)\/(0<=j/\j<=100/\i.natAbs<2 ^ 4000) then some (i ^ j.toNat) else none).map fun z=>(D.int z,μ)) Q↔_
 rw [if_pos (.inl h)]
 exact W_some
theorem jS:W (bE false (.int i) (.int j) μ) Q↔Q (.bl (i == j),μ):=W_some
theorem yX:W (bE true (.int i) (.int j) μ) Q↔Q (.bl (!(i == j)),μ):=W_some
theorem Ew {x y:Str}:W (bE false (.str x) (.str y) μ) Q↔Q (.bl (x == y),μ):=W_some
theorem Pn {x y h l:Int}:W (bE true (.tup [.int x,.int y]) (.tup [.int h,.int l]) μ) Q↔Q (.bl (!(x == h&&(y == l&&true))),μ):=W_some
theorem yY:W (gP (.int i) (.int j) μ) Q↔Q (.bl (decide (i<j)),μ):=W_some
theorem Po:W (pG (.int i) (.int j) μ) Q↔Q (.bl (decide (j<i)),μ):=W_some
theorem kY:W (aN (.tup [a,b]) (.int 0) μ) Q↔Q (a,μ):=W_some
theorem jT:W (aN (.tup [a,b]) (.int 1) μ) Q↔Q (b,μ):=W_some
theorem dR {b:Bool}{Q:Bool->Prop}:W (kK μ (.bl b)) Q↔Q b:=W_some
theorem Pp {ρ:aH}{i j:Nat}{Q:aH->Prop}:W (eX [i,j] (.tup [a,b]) ρ μ) Q↔Q ((ρ.set i (some a)).set j (some b)):=W_some
end
theorem iU {b:Hm}{a:Nat}{xs:List D}{i:Int}{d:D}{Q:D×Hm->Prop}(h:b[a]? = some (.lst xs))(c:atI xs i=some d):W (aN (.loc a) (.int i) b) Q↔Q (d,b):=by
 have:aN (.loc a) (.int i) b=some (d,b):=by
  simp only [aN,fX,bN,h,T1,c,T9]
 rw [this]
 exact W_some
theorem Pq {c:Hm}{l:Nat}{a b:D}{ρ:aH}{i j:Nat}{Q:aH->Prop}(h:c[l]? = some (.lst [a,b])):W (eX [i,j] (.loc l) ρ c) Q↔Q ((ρ.set i (some a)).set j (some b)):=by
 have:eX [i,j] (.loc l) ρ c=some ((ρ.set i (some a)).set j (some b)):=by
  simp only [eX,bN,h,T1]
  rfl
 rw [this]
 exact W_some
end L3
namespace L3
open PySem L2
theorem gD {m:ME}{ρ:aH}{a:Hm}{Q:lW×Nat×Hm->Prop}:W (cY m ρ a) Q↔W (m ρ a) fun p=>W (kH p.2 p.1) fun xs=>Q (gR p.1,xs.length+1,p.2):=by
 unfold cY
 simp only [W_bind,iT]
theorem fN {a:MI}{g:MG}{b:MS}{ρ:aH}{c:Hm} {Q}:W (dG a g b ρ c) Q↔W (a ρ c) fun p=>W (d7 p.1 g b p.2.1 0 ρ p.2.2) Q:=W_bind
theorem qI {j:Int}{e:MA}{ρ:aH}{c:Hm}{Q:lW×Nat×Hm->Prop}:W (iH e ρ c) Q↔W (e ρ c) fun p=>match p.1 with|[.int j]=>(-(2 ^ 62)<=j/\j<2 ^ 62)/\Q (iG 0 j.toNat,j.toNat+1,p.2)|_=>False:=by
 unfold iH
 rw [W_bind]
 constructor<;>exact fun h=>bQ h fun p q=>by
  obtain ⟨l,c⟩:=p
  match l,q with
  | [],q=>simpa [W_none] using q
  | [d],q=>
   cases d with
   | int j=>
    first
    | (dsimp only at q;rw [tH] at q;split at q
       ·rename_i g;exact ⟨g,W_some.mp q⟩
       ·exact (W_none.mp q).elim)
    | (dsimp only;rw [if_pos q.1];exact W_some.mpr q.2)
   | _=>simpa [W_none] using q
  | a::b::l,q=>simpa [W_none] using q
theorem tL {a:MA}{ρ:aH}{b:Hm}{Q:lW×Nat×Hm->Prop}:W (kI a ρ b) Q↔W (a ρ b) fun p=>match p.1 with|[.int i,.int j]=>(-(2 ^ 62)<=i/\i<2 ^ 62/\-(2 ^ 62)<=j/\j<2 ^ 62)/\Q (iG i (j - i).toNat,(j - i).toNat+1,p.2)|_=>False:=by
 unfold kI
 rw [W_bind]
 constructor<;>exact fun h=>bQ h fun p q=>by
  split at q
  ·rename_i e
   try rw [e]
   first
   | (rw [tH] at q;split at q
      ·rename_i c;exact ⟨c,W_some.mp q⟩
      ·exact (W_none.mp q).elim)
   | ((try dsimp only);rw [if_pos q.1];exact W_some.mpr q.2)
  ·first
   | exact (W_none.mp q).elim
   | exact q.elim
theorem tN {e:lW}{g:MG}{b:MS}{N:Nat}{Q:Fl×aH×Hm->Prop}(I:Nat->aH->Hm->Prop)
  (go:∀ i ρ a,i<N->I i ρ a->∃ d j,e a i=some (some d)/\g d ρ a=some j/\W (b j a) fun p=>match p.1 with|.nx=>I (i+1) p.2.1 p.2.2|.ct=>I (i+1) p.2.1 p.2.2|.bk=>Q (.nx,p.2.1,p.2.2)|.rt d=>Q (.rt d,p.2.1,p.2.2))
  (c:∀ ρ a,I N ρ a->e a N=some none/\Q (.nx,ρ,a)):∀ (m i:Nat)(ρ:aH)(a:Hm),i+m=N->I i ρ a->W (d7 e g b (m+1) i ρ a) Q
 | 0,i,ρ,a,h,hI=>by
  have:i=N:=by omega
  subst this
  obtain ⟨o,r⟩:=c ρ a hI
  unfold d7
  rw [o]
  exact W_some.mpr r
 | m+1,i,ρ,a,h,hI=>by
  obtain ⟨d,j,o,r,u⟩:=go i ρ a (by omega) hI
  unfold d7
  rw [o]
  simp only [T1,r]
  rw [W_bind]
  refine bQ u fun p q=>?_
  obtain ⟨s,n,l⟩:=p
  cases s with
  | nx=>exact tN I go c m (i+1) n l (by omega) q
  | ct=>exact tN I go c m (i+1) n l (by omega) q
  | bk=>exact W_some.mpr q
  | rt d=>exact W_some.mpr q
theorem oI {a:Nat}{xs:List D}{g:MG}{b:MS}{ρ:aH}{c:Hm}{Q:Fl×aH×Hm->Prop}(I:Nat->aH->Hm->Prop)(n:I 0 ρ c)(m:∀ i ρ c,I i ρ c->c[a]? = some (.lst xs))
  (go:∀ i d ρ c,xs[i]? = some d->I i ρ c->∃ h,g d ρ c=some h/\W (b h c) fun p=>match p.1 with|.nx=>I (i+1) p.2.1 p.2.2|.ct=>I (i+1) p.2.1 p.2.2|.bk=>Q (.nx,p.2.1,p.2.2)|.rt d=>Q (.rt d,p.2.1,p.2.2))
  (l:∀ ρ c,I xs.length ρ c->Q (.nx,ρ,c)):W (d7 (gR (.loc a)) g b (xs.length+1) 0 ρ c) Q:=by
 refine tN (N:=xs.length) I (fun i ρ c r j=>?_) (fun ρ c j=>⟨?_,l ρ c j⟩) xs.length 0 ρ c (by omega) n
 ·have e:xs[i]? = some xs[i]:=SO r
  obtain ⟨h,o,q⟩:=go i xs[i] ρ c e j
  refine ⟨xs[i],h,?_,o,q⟩
  simp only [gR,kH,bN,m i ρ c j,T9,e]
 ·simp only [gR,kH,bN,m _ ρ c j,T9]
  simp
theorem mQ {lo:Int}{n:Nat}{g:MG}{b:MS}{ρ:aH}{a:Hm}{Q:Fl×aH×Hm->Prop}(I:Nat->aH->Hm->Prop)(l:I 0 ρ a)
  (go:∀ (i:Nat) ρ a,i<n->I i ρ a->∃ c,g (.int (lo+i)) ρ a=some c/\W (b c a) fun p=>match p.1 with|.nx=>I (i+1) p.2.1 p.2.2|.ct=>I (i+1) p.2.1 p.2.2|.bk=>Q (.nx,p.2.1,p.2.2)|.rt d=>Q (.rt d,p.2.1,p.2.2))
  (e:∀ ρ a,I n ρ a->Q (.nx,ρ,a)):W (d7 (iG lo n) g b (n+1) 0 ρ a) Q:=by
 refine tN (N:=n) I (fun i ρ a j h=>?_) (fun ρ a h=>⟨?_,e ρ a h⟩) n 0 ρ a (by omega) l
 ·obtain ⟨c,m,o⟩:=go i ρ a j h
  exact ⟨_,c,by simp only [iG,if_pos j],m,o⟩
 ·simp only [iG,Vj,if_false]
theorem Ex {c:Hm}{a:Nat}{b:List D}{y:D}(h:c[a]? = some (.lst b))(d:b.length<S8):nF c a y=some (c.set a (.lst (b++[y]))):=by
 unfold nF
 rw [h]
 exact if_pos d
theorem yZ {w:lW}{c:MT}{e:ME}{ρ:aH}{μ0:Hm}{xs:List D}{p:D->Bool}{v:D->D}{Q:Hm->Prop}(z:∀ a i,μ0 <+: a->w a i=some xs[i]?)(H:xs.length<=S8)
  (hc:∀ d a,d∈xs->μ0 <+: a->W (c (ρ++[some d]) a) fun r=>r.1=p d/\a <+: r.2)
  (A:∀ d a,d∈xs->p d=true->μ0 <+: a->W (e (ρ++[some d]) a) fun r=>r.1=v d/\a <+: r.2)
  (fin:∀ a,μ0 <+: a->a[μ0.length]? = some (.lst ((xs.filter p).map v))->Q a) :
  ∀ (m i:Nat)(a:Hm),i+m=xs.length->μ0 <+: a->a[μ0.length]? = some (.lst (((xs.take i).filter p).map v))->W (jD w pH c e ρ μ0.length (m+1) i a) Q
 | 0,i,a,hi,hp,ha=>by
  have:i=xs.length:=by omega
  subst this
  unfold jD
  rw [z a _ hp]
  rw [Ue (SX _)]
  simp only [T1]
  refine W_some.mpr (fin a hp ?_)
  simpa using ha
 | m+1,i,a,hi,hp,ha=>by
  have s:i<xs.length:=by omega
  have I:xs[i]? = some xs[i]:=SO s
  have h:xs[i]∈xs:=Vo s
  unfold jD
  rw [z a _ hp,I]
  simp only [T1,pH]
  rw [W_bind]
  refine bQ (hc _ a h hp) fun r q=>?_
  obtain ⟨b,x⟩:=r
  obtain ⟨K,u⟩:=q
  dsimp only at K u ⊢
  subst K
  have g:xs.take (i+1)=xs.take i++[xs[i]]:=by rw [a2g,I];rfl
  have l:=aS u ha
  cases j:p xs[i] with
  | false=>
   refine yZ z H hc A fin m (i+1) x (by omega) (hp.trans u) ?_
   rw [l,g,We]
   simp [j]
  | true=>
   dsimp only
   rw [W_bind]
   refine bQ (A _ x h j (hp.trans u)) fun r q=>?_
   obtain ⟨y,G⟩:=r
   obtain ⟨L,E⟩:=q
   dsimp only at L E ⊢
   subst L
   have n:=aS E l
   have o:(((xs.take i).filter p).map v).length<S8:=by
    have M:=UA p (xs.take i)
    rw [SQ]
    rw [Tu] at M
    omega
   rw [Ex n o,T1]
   have B:μ0 <+: G:=(hp.trans u).trans E
   refine yZ z H hc A fin m (i+1) _ (by omega) (fM B (SX _) _) ?_
   rw [Uw (SN.mp n).1,g,We]
   simp [j]
theorem kZ {u:MI}{c:MT}{e:ME}{ρ:aH}{w:Hm}{xs:List D}{p:D->Bool}{v:D->D}{Q:D×Hm->Prop}
  (hit:W (u ρ w) fun r=>(∀ a i,r.2.2 <+: a->r.1 a i=some xs[i]?)/\r.2.1=xs.length+1/\xs.length<=S8 /\
   (∀ d a,d∈xs->r.2.2 <+: a->W (c (ρ++[some d]) a) fun s=>s.1=p d/\a <+: s.2)/\(∀ d a,d∈xs->p d=true->r.2.2 <+: a->W (e (ρ++[some d]) a) fun s=>s.1=v d/\a <+: s.2) /\
   ∀ a,r.2.2 <+: a->a[r.2.2.length]? = some (.lst ((xs.filter p).map v))->Q (.loc r.2.2.length,a)):W (fH u c e ρ w) Q:=by
 unfold fH nK
 rw [W_bind]
 refine bQ hit fun r q=>?_
 obtain ⟨x,n,b⟩:=r
 obtain ⟨g,h,j,l,m,o⟩:=q
 dsimp only at g h j l m o ⊢
 subst h
 rw [iT]
 exact yZ g j l m o xs.length 0 (b++[.lst []]) (by omega) (bC _ _) (by simp)
theorem oJ {c:Hm}{a:Nat}{xs:List D}(h:c[a]? = some (.lst xs)):∀ b i,c <+: b->gR (.loc a) b i=some xs[i]?:=fun b i d=>by
 simp only [gR,kH,bN,aS d h,T9]
noncomputable def fB (lo:Int)(n:Nat):List D:=(Tz n).map fun (i:Nat)=>.int (lo+(i:Int))
theorem Ey {lo:Int}{n:Nat}{b:Hm}:∀ a i,b <+: a->iG lo n a i=some (fB lo n)[i]?:=fun a i _=>by
 unfold iG fB
 rw [Tx]
 by_cases h:i<n
 ·rw [if_pos h,XN h];rfl
 ·rw [if_neg h,Ue (by simpa using Xw.mp h)];rfl
noncomputable abbrev P (x y:Int):D:=.tup [.int x,.int y]
noncomputable abbrev PP (p:Int×Int):D:=P p.1 p.2
theorem oK {c:Hm}{a b:Nat}{xs d:List D}{Q:D×Hm->Prop}(e:c[a]? = some (.lst xs))(g:c[b]? = some (.lst d))(h:xs.length+d.length<=S8):W (bV (.loc a) (.loc b) c) Q↔Q (.loc c.length,c++[.lst (xs++d)]):=by
 simp only [bV,e,g,if_pos h]
 exact W_some
theorem Ez {ρ:aH}{a:Hm}{Q:List (aF×D)×Hm->Prop}:W (lS [] ρ a) Q↔Q ([],a):=W_some
theorem EA {k v:ME}{r:List (ME×ME)}{ρ:aH}{a:Hm}{Q:List (aF×D)×Hm->Prop}:W (lS ((k,v)::r) ρ a) Q↔W (k ρ a) fun p=>W (v ρ p.2) fun q=>W (kC p.1) fun b=>W (lS r ρ q.2) fun t=>Q ((b,q.1)::t.1,t.2):=by
 show W ((k ρ a).bind _) Q↔_
 simp only [W_bind,iT]
theorem EB {x:Str}{Q:aF->Prop}:W (kC (.str x)) Q↔Q (.inr x):=W_some
theorem EC {a:List (ME×ME)}{ρ:aH}{b:Hm}{Q:D×Hm->Prop}(h:W (lS a ρ (b++[.dK []])) fun p=>p.2[b.length]? = some (.dK [])/\p.1.length<=15/\Q (.loc b.length,p.2.set b.length (.dK (pK [] p.1)))):W (kD a ρ b) Q:=by
 unfold kD
 rw [W_bind]
 refine bQ h fun p q=>?_
 obtain ⟨c,d,e⟩:=q
 rw [c]
 dsimp only
 rw [if_pos d]
 exact W_some.mpr e
theorem ED {b:Hm}{a:Nat}{kvs:List (aF×D)}{y d:D}{k:aF}{Q:D×Hm->Prop}(h:b[a]? = some (.dK kvs))(c:kC y=some k)(e:d8 kvs k=some d):W (aN (.loc a) y b) Q↔Q (d,b):=by
 have:aN (.loc a) y b=some (d,b):=by
  simp only [aN,h,c,T1,e,T9]
 rw [this]
 exact W_some
theorem tO {f:D->List D->Hm->Option (D×Hm)}{a:ME}{b:MA}{ρ:aH}{c:Hm}{Q:D×Hm->Prop}(h:W (a ρ c) fun p=>nO p.2 p.1=true/\W (b ρ p.2) fun q=>W (f p.1 q.1 q.2) Q):W (f9 f a b ρ c) Q:=by
 unfold f9
 rw [W_bind]
 refine bQ h fun p q=>?_
 rw [q.1]
 exact W_bind.mpr q.2
theorem tP {b:Hm}{a:Nat}{xs:List D}(h:b[a]? = some (.lst xs)):nO b (.loc a)=true:=by
 simp only [nO,h]
theorem EE {b:Hm}{a:Nat}{xs:List D}{y:D}{Q:D×Hm->Prop}(h:b[a]? = some (.lst xs))(c:xs.length<S8):W (kJ (.loc a) [y] b) Q↔Q (.non,b.set a (.lst (xs++[y]))):=by
 simp only [kJ,Ex h c,T9]
 exact W_some
theorem Pr {c:Hm}{a b:Nat}{xs d:List D}{Q:D×Hm->Prop}(h:c[a]? = some (.lst xs))(e:c[b]? = some (.lst d))(g:xs.length+d.length<=S8):W (nP (.loc a) [.loc b] c) Q↔Q (.non,c.set a (.lst (xs++d))):=by
 simp only [nP,h,e,if_pos g]
 exact W_some
theorem mR {b:Hm}{a:Nat}{xs:List D}{Q:D×Hm->Prop}(h:b[a]? = some (.lst xs)):W (c6 [.loc a] b) Q↔Q (.int xs.length,b):=by
 simp only [c6,pI,bN,h,T9]
 exact W_some
theorem gE {b:Hm}{a:Nat}{xs:List D}{Q:List D->Prop}(h:b[a]? = some (.lst xs)):W (kH b (.loc a)) Q↔Q xs:=by
 simp only [kH,bN,h]
 exact W_some
theorem Pt {ρ:aH}{a:Hm}{Q:Option Int×Hm->Prop}:W (pE ρ a) Q↔Q (none,a):=W_some
theorem tQ {m:ME}{ρ:aH}{a:Hm}{Q:Option Int×Hm->Prop}:W (iE m ρ a) Q↔W (m ρ a) fun p=>match p.1 with|.int i=>Q (some i,p.2)|_=>False:=by
 unfold iE
 rw [W_bind]
 constructor<;>exact fun h=>bQ h fun p q=>by
  obtain ⟨d,a⟩:=p
  cases d<;>simpa [W_some,W_none] using q
theorem zA {a:ME}{lo b:MO}{ρ:aH}{g:Hm}{Q:D×Hm->Prop}(h:W (a ρ g) fun p=>∃ xs,p.1=.rol xs/\W (lo ρ p.2) fun q=>W (b ρ q.2) fun r=>Q (.loc r.2.length,r.2++[.lst (fF xs q.1 r.1)])):W (iF a lo b ρ g) Q:=by
 unfold iF
 rw [W_bind]
 refine bQ h fun p q=>?_
 obtain ⟨d,i⟩:=p
 obtain ⟨xs,c,e⟩:=q
 dsimp only at c e ⊢
 subst c
 rw [W_bind]
 refine bQ e fun s q=>?_
 rw [W_bind]
 refine bQ q fun r q=>?_
 exact W_some.mpr q
theorem Pu {a:ME}{lo b:MO}{ρ:aH}{g:Hm}{Q:D×Hm->Prop}(h:W (a ρ g) fun p=>∃ l,p.1=.loc l/\W (lo ρ p.2) fun q=>W (b ρ q.2) fun r=>∃ xs,r.2[l]? = some (.lst xs)/\Q (.loc r.2.length,r.2++[.lst (fF xs q.1 r.1)])):W (iF a lo b ρ g) Q:=by
 unfold iF
 rw [W_bind]
 refine bQ h fun p q=>?_
 obtain ⟨d,m⟩:=p
 obtain ⟨l,c,e⟩:=q
 dsimp only at c e ⊢
 subst c
 rw [W_bind]
 refine bQ e fun s q=>?_
 rw [W_bind]
 refine bQ q fun r q=>?_
 obtain ⟨xs,i,j⟩:=q
 simp only [bN,i,T1]
 exact W_some.mpr j
theorem bM (a:Hm)(c:C):(a++[c])[a.length]? = some c:=by simp
end L3
namespace L3
open PySem L2
theorem Pw {f g:D->D->Hm->Option (D×Hm)}{a b c:ME}{ρ:aH}{e:Hm} {Q}:W (jL f g a b c ρ e) Q↔W (a ρ e) fun p=>W (b ρ p.2) fun q=>W (f p.1 q.1 q.2) fun r=>match r.1 with|.bl k=>if k=true then W (c ρ r.2) fun t=>W (g q.1 t.1 t.2) Q else Q (.bl false,r.2)|_=>False:=by
 unfold jL
 simp only [W_bind]
 constructor<;>exact fun h=>bQ h fun p q=>bQ q fun l j=>bQ j fun r i=>by
  obtain ⟨d,e⟩:=r
  cases d with
  | bl k=>cases k<;>simpa [W_some,W_bind] using i
  | _=>simpa [W_none] using i
section
variable {i j:Int}{μ:Hm}{Q:D×Hm->Prop}
end
theorem w_mTrue {ρ:aH}{a:Hm}{Q:Bool×Hm->Prop}:W (lQ ρ a) Q↔Q (true,a):=W_some
theorem k4 {o i v:ME}{ρ:aH}{b:Hm} {Q}:W (dD o i v ρ b) Q↔W (v ρ b) fun p=>W (o ρ p.2) fun q=>W (i ρ q.2) fun r=>W (pR q.1 r.1 p.1 r.2) fun a=>Q (.nx,ρ,a):=by
 unfold dD wY
 simp only [W_bind,iT]
section
variable {μ:Hm}{a:Nat}{kvs:List (List Int×D)}{k:List Int}{d y:D}{ρ:aH}{Q:D×Hm->Prop}
theorem qJ:W (jN ρ μ) Q↔Q (.loc μ.length,μ++[.dT []]):=W_some
theorem EF (h:μ[a]? = some (.dT kvs))(b:dC y=some k)(c:b7 kvs k=some d):W (aN (.loc a) y μ) Q↔Q (d,μ):=by
 simp only [aN,h,b,T1,c,T9]
 exact W_some
theorem Px {b:Bool}(h:μ[a]? = some (.dT kvs))(c:dC y=some k):W (cB b y (.loc a) μ) Q↔Q (.bl (if b then !(b7 kvs k).isSome else (b7 kvs k).isSome),μ):=by
 have:cB b y (.loc a) μ=some (.bl (if b then !(b7 kvs k).isSome else (b7 kvs k).isSome),μ):=by
  simp only [cB,h,c,T9]
 rw [this]
 exact W_some
theorem oM {Q:Hm->Prop}(h:μ[a]? = some (.dT kvs))(b:dC y=some k)(c:kvs.length<S8):W (pR (.loc a) y d μ) Q↔Q (μ.set a (.dT (cZ kvs k d))):=by
 simp only [pR,pQ,h,b,T1,if_pos c]
 exact W_some
theorem zB (h:μ[a]? = some (.dT kvs)):W (c6 [.loc a] μ) Q↔Q (.int kvs.length,μ):=by
 simp only [c6,h]
 exact W_some
end
end L3
namespace Lw
open PySem L2 L3
noncomputable def ds:List (Str×Stmt):=[("is_edge",aY 1),("is_quarter",aY 2),("line_of",aY 3),("beside",aY 4),("edges_of",aY 5),("number_by",aY 6),("mirrored",aY 7),("is_within",aY 9),("places_within",aY 10),("quarters_in",aY 11),("neighbours_in",aY 12),("marks_in",aY 13),("face_with",aY 15),("faces",aY 16),("_law_draw",aY 18),("_law_kind",aY 19),("_law_tips",aY 20),("_law_amid",aY 21),("_law_size",aY 22),("_law_line",aY 23),("_law_creases",aY 24),("_law_border",aY 25),("_law_top",aY 26),("_law_due",aY 27),("_law_counted",aY 28),("_law_dug",aY 29),("law",aY 30)]
noncomputable def S:Sig:={ fn:=[("is_edge",1),("is_quarter",1),("line_of",1),("beside",1),("edges_of",1),("number_by",2),("mirrored",2),("is_within",3),("places_within",2),("quarters_in",2),("neighbours_in",3),("marks_in",1),("face_with",3),("faces",1),("_law_draw",2),("_law_kind",1),("_law_tips",1),("_law_amid",3),("_law_size",1),("_law_line",1),("_law_creases",3),("_law_border",2),("_law_top",2),("_law_due",3),("_law_counted",3),("_law_dug",3),("law",1)],con:=[],tab:=[],no:=["dict","len","list","range","sorted","tuple"],dIt:=[],dEq:=["{}"],dMe:=["found","_law_marks","_law_fewer","#T"] }
@[irreducible] noncomputable def f (k:Nat)(x:Str):MF:=iS S ds k x
end Lw
namespace Lw
open PySem L2 L3
theorem Py (k:Nat)(a:D)(b:Hm):f (k+1) "is_edge" [a] b=fin ((aK (bT (aU (aB (bE false) (aB bG (aB aN (aA 0) (mC (.int 0))) (mC (.int 2))) (mC (.int 1)))) (bB (aB (bE false) (aB bG (aB aN (aA 0) (mC (.int 1))) (mC (.int 2))) (mC (.int 1)))) bS) (bB (iD (aB (bE false) (aB bG (aB aN (aA 0) (mC (.int 1))) (mC (.int 2))) (mC (.int 0))) (aB (bE true) (aB bG (aB aN (aA 0) (mC (.int 0))) (mC (.int 4))) (aB bG (aB aN (aA 0) (mC (.int 1))) (mC (.int 4))))))) [some a] b):=by
 kernel_rfl
theorem Pz (k:Nat)(a:D)(b:Hm):f (k+1) "is_quarter" [a] b=fin ((aK (bT (aU (aB (bE false) (aB bG (aB aN (aA 0) (mC (.int 0))) (mC (.int 2))) (mC (.int 1)))) (bB (aB (bE false) (aB bG (aB aN (aA 0) (mC (.int 1))) (mC (.int 4))) (mC (.int 2)))) bS) (bB (iD (aB (bE false) (aB bG (aB aN (aA 0) (mC (.int 0))) (mC (.int 4))) (mC (.int 2))) (aB (bE false) (aB bG (aB aN (aA 0) (mC (.int 1))) (mC (.int 2))) (mC (.int 1)))))) [some a] b):=by
 kernel_rfl
theorem PB (k:Nat)(a:D)(b:Hm):f (k+1) "line_of" [a] b=fin ((aK (bT (aU (aB (bE false) (aB bG (aB aN (aA 0) (mC (.int 0))) (mC (.int 2))) (mC (.int 1)))) (bB (lN (aU (aB (bE false) (aB bG (aB aN (aA 0) (mC (.int 0))) (mC (.int 4))) (aB bG (aB aN (aA 0) (mC (.int 1))) (mC (.int 4))))) (mC (.str "falling")) (mC (.str "rising")))) bS) (bB (lN (aU (aB (bE false) (aB bG (aB aN (aA 0) (mC (.int 1))) (mC (.int 4))) (mC (.int 0)))) (mC (.str "level")) (mC (.str "upright"))))) [some a] b):=by
 kernel_rfl
theorem PC (k:Nat)(a:D)(b:Hm):f (k+1) "beside" [a] b=fin ((aK (aX 1 (aB aN (aA 0) (mC (.int 0)))) (aK (aX 2 (aB aN (aA 0) (mC (.int 1)))) (bB (cQ (aC (bW (aC (aB cA (aA 1) (mC (.int 1))) (aC (aA 2) aD))) (aC (bW (aC (aA 1) (aC (aB cA (aA 2) (mC (.int 1))) aD))) (aC (bW (aC (aA 1) (aC (aB bV (aA 2) (mC (.int 1))) aD))) (aC (bW (aC (aB bV (aA 1) (mC (.int 1))) (aC (aA 2) aD))) aD)))))))) [some a,none,none] b):=by
 kernel_rfl
theorem PD (k:Nat)(a:D)(b:Hm):f (k+1) "edges_of" [a] b=fin ((bB (fH (cY (aL (f k "beside") (aC (aA 0) aD))) (kL (aL (f k "is_edge") (aC (aA 1) aD))) (aA 1))) [some a] b):=by
 kernel_rfl
theorem tR (k:Nat)(a b:D)(c:Hm):f (k+1) "number_by" [a,b] c=fin ((aK (bT (aU (aB (bE false) (aA 0) (mC (.str "level")))) (bB (aB aN (aA 1) (mC (.int 1)))) bS) (aK (bT (aU (aB (bE false) (aA 0) (mC (.str "upright")))) (bB (aB aN (aA 1) (mC (.int 0)))) bS) (aK (bT (aU (aB (bE false) (aA 0) (mC (.str "falling")))) (bB (aB cA (aB aN (aA 1) (mC (.int 0))) (aB aN (aA 1) (mC (.int 1))))) bS) (bB (aB bV (aB aN (aA 1) (mC (.int 0))) (aB aN (aA 1) (mC (.int 1)))))))) [some a,some b] c):=by
 kernel_rfl
theorem PF (k:Nat)(a b:D)(c:Hm):f (k+1) "mirrored" [a,b] c=fin ((aK (aX 2 (aB aN (aA 0) (mC (.int 0)))) (aK (aX 3 (aB aN (aA 0) (mC (.int 1)))) (aK (aX 4 (aL (f k "line_of") (aC (aA 1) aD))) (aK (aX 5 (aL (f k "number_by") (aC (aA 4) (aC (aA 1) aD)))) (aK (bT (aU (aB (bE false) (aA 4) (mC (.str "level")))) (bB (bW (aC (aA 2) (aC (aB cA (aB bZ (mC (.int 2)) (aA 5)) (aA 3)) aD)))) bS) (aK (bT (aU (aB (bE false) (aA 4) (mC (.str "upright")))) (bB (bW (aC (aB cA (aB bZ (mC (.int 2)) (aA 5)) (aA 2)) (aC (aA 3) aD)))) bS) (aK (bT (aU (aB (bE false) (aA 4) (mC (.str "falling")))) (bB (bW (aC (aB bV (aA 3) (aA 5)) (aC (aB cA (aA 2) (aA 5)) aD)))) bS) (bB (bW (aC (aB cA (aA 5) (aA 3)) (aC (aB cA (aA 5) (aA 2)) aD))))))))))) [some a,some b,none,none,none,none] c):=by
 kernel_rfl
theorem PH (k:Nat)(a b c:D)(d:Hm):f (k+1) "is_within" [a,b,c] d=fin ((bB (iD (jL gP gP (mC (.int 0)) (aB aN (aA 2) (mC (.int 0))) (aB bZ (mC (.int 4)) (aA 0))) (jL gP gP (mC (.int 0)) (aB aN (aA 2) (mC (.int 1))) (aB bZ (mC (.int 4)) (aA 1))))) [some a,some b,some c] d):=by
 kernel_rfl
theorem PJ (k:Nat)(a b:D)(c:Hm):f (k+1) "places_within" [a,b] c=fin ((aK (aX 2 (cQ aD)) (aK (dG (kI (aC (mC (.int 1)) (aC (aB bZ (mC (.int 4)) (aA 0)) aD))) (cT 3) (gO (f9 nP (aA 2) (aC (fH (kI (aC (mC (.int 1)) (aC (aB bZ (mC (.int 4)) (aA 1)) aD))) lQ (bW (aC (aA 3) (aC (aA 4) aD)))) aD)))) (bB (aA 2)))) [some a,some b,none,none] c):=by
 kernel_rfl
theorem PK (k:Nat)(a b:D)(c:Hm):f (k+1) "quarters_in" [a,b] c=fin ((bB (fH (cY (aL (f k "places_within") (aC (aA 0) (aC (aA 1) aD)))) (kL (aL (f k "is_quarter") (aC (aA 2) aD))) (aA 2))) [some a,some b] c):=by
 kernel_rfl
theorem PL (k:Nat)(a b c:D)(d:Hm):f (k+1) "neighbours_in" [a,b,c] d=fin ((bB (fH (cY (aL (f k "edges_of") (aC (aA 2) aD))) (kL (aL (f k "is_within") (aC (aA 0) (aC (aA 1) (aC (aA 3) aD))))) (bW (aC (aA 3) (aC (aL (f k "mirrored") (aC (aA 2) (aC (aA 3) aD))) aD))))) [some a,some b,some c] d):=by
 kernel_rfl
theorem PM (k:Nat)(a:D)(b:Hm):f (k+1) "marks_in" [a] b=fin ((bB (aL mH (aC (aB aN (aA 0) (mC (.int 2))) aD))) [some a] b):=by
 kernel_rfl
theorem PN (k:Nat)(a b c:D)(d:Hm):f (k+1) "face_with" [a,b,c] d=fin ((aK (aX 3 (n9 (aA 2) (mC (.bl true)))) (aK (aX 4 (cQ (aC (aA 2) aD))) (aK (nQ oG (kL (aA 4)) (aK (aX 5 (f9 lZ (aA 4) aD)) (dG (cY (aL (f k "neighbours_in") (aC (aB aN (aA 0) (mC (.int 0))) (aC (aB aN (aA 0) (mC (.int 1))) (aC (aA 5) aD))))) (eX [6,7]) (bT (m9 (aU (aB (cB true) (aA 6) (aA 1))) (aU (aB (cB true) (aA 7) (aA 3)))) (aK (dD (aA 3) (aA 7) (mC (.bl true))) (gO (f9 kJ (aA 4) (aC (aA 7) aD)))) bS)))) (bB (aL kU (aC (aA 3) aD)))))) [some a,some b,some c,none,none,none,none,none] d):=by
 kernel_rfl
theorem PQ (k:Nat)(a:D)(b:Hm):f (k+1) "faces" [a] b=fin ((aK (aX 1 (aL (f k "marks_in") (aC (aA 0) aD))) (aK (aX 2 (cQ aD)) (aK (aX 3 jN) (aK (dG (cY (aL (f k "quarters_in") (aC (aB aN (aA 0) (mC (.int 0))) (aC (aB aN (aA 0) (mC (.int 1))) aD)))) (cT 4) (bT (aU (aB (cB true) (aA 4) (aA 3))) (aK (aX 5 (aL (f k "face_with") (aC (aA 0) (aC (aA 1) (aC (aA 4) aD))))) (aK (gO (f9 kJ (aA 2) (aC (aA 5) aD))) (dG (cY (aA 5)) (cT 6) (dD (aA 3) (aA 6) (mC (.bl true)))))) bS)) (bB (aA 2)))))) [some a,none,none,none,none,none,none] b):=by
 kernel_rfl
theorem EG (k:Nat)(a b:D)(c:Hm):f (k+1) "_law_draw" [a,b] c=fin ((bB (aB aN (aB bV (cQ (aC (mC (.int 0)) aD)) (iF (aA 0) (iE (aA 1)) (iE (aB bV (aA 1) (mC (.int 1)))))) (nI (mC (.int 1))))) [some a,some b] c):=by
 kernel_rfl
theorem PR (k:Nat)(a:D)(b:Hm):f (k+1) "_law_kind" [a] b=fin ((bB (aB aN (aB aN (cQ (aC (mC (.str "c.l.")) (aC (mC (.str ".fqr")) (aC (mC (.str "uqcq")) (aC (mC (.str ".rqf")) aD))))) (aB bG (aB aN (aA 0) (mC (.int 1))) (mC (.int 4)))) (aB bG (aB aN (aA 0) (mC (.int 0))) (mC (.int 4))))) [some a] b):=by
 kernel_rfl
theorem PU (k:Nat)(a:D)(b:Hm):f (k+1) "_law_tips" [a] b=fin ((aK (kB (aB aN (kD [((mC (.str "l")),(bW (aC (mC (.int 2)) (aC (mC (.int 0)) aD)))),((mC (.str "u")),(bW (aC (mC (.int 0)) (aC (mC (.int 2)) aD)))),((mC (.str "f")),(bW (aC (mC (.int 1)) (aC (mC (.int 1)) aD)))),((mC (.str "r")),(bW (aC (mC (.int 1)) (aC (nI (mC (.int 1))) aD))))]) (aL (f k "_law_kind") (aC (aA 0) aD))) (eX [1,2])) (bB (cQ (aC (bW (aC (aB cA (aB aN (aA 0) (mC (.int 0))) (aA 1)) (aC (aB cA (aB aN (aA 0) (mC (.int 1))) (aA 2)) aD))) (aC (bW (aC (aB bV (aB aN (aA 0) (mC (.int 0))) (aA 1)) (aC (aB bV (aB aN (aA 0) (mC (.int 1))) (aA 2)) aD))) aD))))) [some a,none,none] b):=by
 kernel_rfl
theorem PV (k:Nat)(a b c:D)(d:Hm):f (k+1) "_law_amid" [a,b,c] d=fin ((aK (aX 3 (cQ aD)) (aK (dG (kI (aC (mC (.int 1)) (aC (aB bZ (mC (.int 4)) (aA 0)) aD))) (cT 4) (aX 3 (aB bV (aA 3) (fH (kI (aC (mC (.int 1)) (aC (aB bZ (mC (.int 4)) (aA 1)) aD))) (aU (aB (cB false) (aL (f k "_law_kind") (aC (bW (aC (aA 4) (aC (aA 5) aD))) aD)) (aA 2))) (bW (aC (aA 4) (aC (aA 5) aD))))))) (bB (aA 3)))) [some a,some b,some c,none,none] d):=by
 kernel_rfl
theorem PX (k:Nat)(a:D)(b:Hm):f (k+1) "_law_size" [a] b=fin ((bB (aB aN (cQ (aC (mC (.int 1)) (aC (mC (.int 2)) (aC (mC (.int 3)) (aC (aB bV (mC (.int 1)) (aB bG (aB cS (aA 0) (mC (.int 4))) (mC (.int 6)))) aD))))) (aB bG (aA 0) (mC (.int 4))))) [some a] b):=by
 kernel_rfl
theorem PY (k:Nat)(a:D)(b:Hm):f (k+1) "_law_line" [a] b=fin ((aK (aX 1 (aL (f k "_law_kind") (aC (aA 0) aD))) (bB (bW (aC (aA 1) (aC (aB aN (kD [((mC (.str "l")),(aB aN (aA 0) (mC (.int 1)))),((mC (.str "u")),(aB aN (aA 0) (mC (.int 0)))),((mC (.str "f")),(aB cA (aB aN (aA 0) (mC (.int 0))) (aB aN (aA 0) (mC (.int 1))))),((mC (.str "r")),(aB bV (aB aN (aA 0) (mC (.int 0))) (aB aN (aA 0) (mC (.int 1)))))]) (aA 1)) aD))))) [some a,none] b):=by
 kernel_rfl
theorem PZ (k:Nat)(a b c:D)(d:Hm):f (k+1) "_law_creases" [a,b,c] d=fin ((aK (aX 3 (aL (f k "_law_amid") (aC (aA 0) (aC (aA 1) (aC (mC (.str "lufr")) aD))))) (aK (aX 4 jN) (aK (dG (iH (aC (aL c6 (aC (aA 2) aD)) aD)) (cT 5) (aK (aX 6 (aB bG (aB bV (aB bV (aB bZ (aB aN (aA 2) (aA 5)) (mC (.int 48271))) (aB bZ (aB bZ (aA 5) (aA 5)) (mC (.int 40693)))) (mC (.int 7919))) (mC (.int 2147483647)))) (aK (aX 6 (aB bG (aB bZ (aA 6) (aA 6)) (mC (.int 2147483563)))) (aK (aX 7 (aB aN (aA 3) (aB bG (aB cS (aA 6) (mC (.int 9))) (aL c6 (aC (aA 3) aD))))) (bT (aU (aB gP (aB bG (aA 6) (mC (.int 9))) (mC (.int 7)))) (dD (aA 4) (aA 7) (aB aN (mC (.str "hvo")) (aB bG (aB cS (aA 6) (mC (.int 2003))) (mC (.int 3))))) (aK (aX 8 (fH (cY (aA 3)) (aU (aB (bE false) (aL (f k "_law_line") (aC (aA 10) aD)) (aL (f k "_law_line") (aC (aA 7) aD)))) (aA 10))) (dG (iH (aC (aL c6 (aC (aA 8) aD)) aD)) (cT 9) (dD (aA 4) (aB aN (aA 8) (aA 9)) (aB aN (mC (.str "hvo")) (aB bG (aB bV (aB cS (aA 6) (mC (.int 2003))) (aB bZ (aA 9) (aB bG (aA 6) (mC (.int 2))))) (mC (.int 3)))))))))))) (bB (aA 4))))) [some a,some b,some c,none,none,none,none,none,none,none] d):=by
 kernel_rfl
theorem P0 (k:Nat)(a b:D)(c:Hm):f (k+1) "_law_border" [a,b] c=fin ((aK (aX 2 (cQ aD)) (aK (dG (iH (aC (aA 0) aD)) (cT 3) (aX 2 (aB bV (aA 2) (cQ (aC (bW (aC (aB bV (aB bZ (mC (.int 4)) (aA 3)) (mC (.int 2))) (aC (mC (.int 0)) aD))) (aC (bW (aC (aB bV (aB bZ (mC (.int 4)) (aA 3)) (mC (.int 2))) (aC (aB bZ (mC (.int 4)) (aA 1)) aD))) aD)))))) (aK (dG (iH (aC (aA 1) aD)) (cT 3) (aX 2 (aB bV (aA 2) (cQ (aC (bW (aC (mC (.int 0)) (aC (aB bV (aB bZ (mC (.int 4)) (aA 3)) (mC (.int 2))) aD))) (aC (bW (aC (aB bZ (mC (.int 4)) (aA 0)) (aC (aB bV (aB bZ (mC (.int 4)) (aA 3)) (mC (.int 2))) aD))) aD)))))) (bB (aA 2))))) [some a,some b,none,none] c):=by
 kernel_rfl
theorem P1 (k:Nat)(a b:D)(c:Hm):f (k+1) "_law_top" [a,b] c=fin ((aK (nQ oG (aU (aB (bE true) (aB aN (aA 0) (aA 1)) (aA 1))) (aX 1 (aB aN (aA 0) (aA 1)))) (bB (aA 1))) [some a,some b] c):=by
 kernel_rfl
theorem P2 (k:Nat)(a b c:D)(d:Hm):f (k+1) "_law_due" [a,b,c] d=fin ((aK (aX 3 (aB bV (aL (f k "_law_border") (aC (aA 0) (aC (aA 1) aD))) (oD (aA 2)))) (aK (aX 4 jN) (aK (dG (cY (aA 3)) (cT 5) (dG (cY (aL (f k "_law_tips") (aC (aA 5) aD))) (cT 6) (dD (aA 4) (aA 6) (aA 6)))) (aK (aX 7 (aL c6 (aC (aA 4) aD))) (aK (dG (cY (aA 3)) (cT 5) (aK (kB (fH (cY (aL (f k "_law_tips") (aC (aA 5) aD))) lQ (aL (f k "_law_top") (aC (aA 4) (aC (aA 10) aD)))) (eX [8,9])) (bT (aU (aB (bE true) (aA 8) (aA 9))) (aK (dD (aA 4) (aA 8) (aA 9)) (aX 7 (aB cA (aA 7) (mC (.int 1))))) bS))) (bB (aB bV (aB cA (aL c6 (aC (aA 3) aD)) (aL c6 (aC (aA 4) aD))) (aA 7)))))))) [some a,some b,some c,none,none,none,none,none,none,none] d):=by
 kernel_rfl
theorem P4 (k:Nat)(a b c:D)(d:Hm):f (k+1) "_law_counted" [a,b,c] d=fin ((bB (aL c6 (aC (aL (f k "faces") (aC (bW (aC (aA 0) (aC (aA 1) (aC (oC (aA 2)) aD)))) aD)) aD))) [some a,some b,some c] d):=by
 kernel_rfl
theorem P5 (k:Nat)(a b c:D)(d:Hm):f (k+1) "_law_dug" [a,b,c] d=fin ((aK (aX 3 (aL (f k "_law_amid") (aC (aA 0) (aC (aA 1) (aC (mC (.str "lufr")) aD))))) (aK (aX 4 jN) (aK (dG (iH (aC (aL c6 (aC (aA 3) aD)) aD)) (cT 5) (aK (bT (aU (aB (bE false) (aB bG (aA 5) (mC (.int 60))) (mC (.int 0)))) (aX 6 (aL (f k "_law_draw") (aC (aA 2) (aC (aB cS (aA 5) (mC (.int 60))) aD)))) bS) (aK (bT (aU (aB gP (aA 6) (mC (.int 1)))) (aX 6 (aB nD (aB bG (aB bV (aB bV (aB bZ (aL (f k "_law_draw") (aC (aA 2) (aC (aB cS (aA 5) (mC (.int 60))) aD))) (mC (.int 48271))) (aB bZ (aA 5) (mC (.int 7919)))) (mC (.int 12345))) (mC (.int 2147483629))) (mC (.int 2)))) bS) (aK (bT (aU (aB pG (aB bG (aA 6) (mC (.int 4))) (mC (.int 0)))) (dD (aA 4) (aB aN (aA 3) (aA 5)) (aB aN (mC (.str "hvo")) (aB cA (aB bG (aA 6) (mC (.int 4))) (mC (.int 1))))) bS) (aX 6 (aB cS (aA 6) (mC (.int 4)))))))) (bB (aA 4))))) [some a,some b,some c,none,none,none,none] d):=by
 kernel_rfl
theorem P6 (k:Nat)(a:D)(b:Hm):f (k+1) "law" [a] b=fin ((aK (aX 1 (aL (f k "_law_size") (aC (aL (f k "_law_draw") (aC (aA 0) (aC (mC (.int 0)) aD))) aD))) (aK (aX 2 (aL (f k "_law_size") (aC (aL (f k "_law_draw") (aC (aA 0) (aC (mC (.int 1)) aD))) aD))) (aK (aX 3 (aL (f k "_law_creases") (aC (aA 1) (aC (aA 2) (aC (iF (aA 0) (iE (mC (.int 2))) pE) aD))))) (aK (bT (aU (aB (bE false) (aB bG (aB cS (aL (f k "_law_draw") (aC (aA 0) (aC (mC (.int 0)) aD))) (mC (.int 24))) (mC (.int 2))) (mC (.int 1)))) (aK (aX 1 (aB bV (mC (.int 1)) (aB bG (aL (f k "_law_draw") (aC (aA 0) (aC (mC (.int 1)) aD))) (mC (.int 6))))) (aK (aX 2 (aB bV (mC (.int 1)) (aB bG (aB cS (aL (f k "_law_draw") (aC (aA 0) (aC (mC (.int 1)) aD))) (mC (.int 6))) (mC (.int 6))))) (aX 3 (aL (f k "_law_dug") (aC (aA 1) (aC (aA 2) (aC (iF (aA 0) (iE (mC (.int 2))) (iE (mC (.int 6)))) aD))))))) bS) (aK (aX 4 (aL (f k "_law_counted") (aC (aA 1) (aC (aA 2) (aC (aA 3) aD))))) (aK (bT (aU (aB (bE true) (aA 4) (aL (f k "_law_due") (aC (aA 1) (aC (aA 2) (aC (aA 3) aD)))))) (bB (mC (.bl false))) bS) (aK (aX 5 (fH (cY (aL (f k "_law_amid") (aC (aA 1) (aC (aA 2) (aC (mC (.str "lufr")) aD))))) (aU (aB (cB true) (aA 9) (aA 3))) (aA 9))) (aK (bT (aU (aB (bE true) (aA 5) (cQ aD))) (aK (aX 6 (aL jP (aC (aA 3) aD))) (aK (dD (aA 6) (aB aN (aA 5) (aB bG (aB cS (aL (f k "_law_draw") (aC (aA 0) (aC (mC (.int 0)) aD))) (mC (.int 48))) (aL c6 (aC (aA 5) aD)))) (mC (.str "h"))) (aK (bT (aU (aB (bE true) (aL (f k "_law_counted") (aC (aA 1) (aC (aA 2) (aC (aA 6) aD)))) (aL (f k "_law_due") (aC (aA 1) (aC (aA 2) (aC (aA 6) aD)))))) (bB (mC (.bl false))) bS) (bT (aU (aB (cB true) (aB cA (aL (f k "_law_counted") (aC (aA 1) (aC (aA 2) (aC (aA 6) aD)))) (aA 4)) (cQ (aC (mC (.int 0)) (aC (mC (.int 1)) aD))))) (bB (mC (.bl false))) bS)))) bS) (aK (bT (aU (aB (fK false) (aA 3) jN)) (bB (aB (bE false) (aA 4) (mC (.int 1)))) bS) (aK (aX 7 (aL jP (aC (aA 3) aD))) (aK (gO (mI kT (aA 7) (aC (aB aN (mK (aA 3)) (aB bG (aB cS (aL (f k "_law_draw") (aC (aA 0) (aC (mC (.int 1)) aD))) (mC (.int 24))) (aL c6 (aC (aA 3) aD)))) aD))) (aK (aX 8 (aL (f k "_law_counted") (aC (aA 1) (aC (aA 2) (aC (aA 7) aD))))) (bB (iD (aB (bE false) (aA 8) (aL (f k "_law_due") (aC (aA 1) (aC (aA 2) (aC (aA 7) aD))))) (aB (cB false) (aB cA (aA 4) (aA 8)) (cQ (aC (mC (.int 0)) (aC (mC (.int 1)) aD)))))))))))))))))) [some a,none,none,none,none,none,none,none,none] b):=by
 kernel_rfl
end Lw
namespace Lw
open PySem L2 L3
theorem zC {z:Int}{a:Hm}{Q:D×Hm->Prop}:W (bZ (.int 2) (.int z) a) Q↔Q (.int (2 * z),a):=jR (.inl ⟨by decide,by decide⟩)
theorem mS {z:Int}{a:Hm}{Q:D×Hm->Prop}:W (bZ (.int 4) (.int z) a) Q↔Q (.int (4 * z),a):=jR (.inl ⟨by decide,by decide⟩)
theorem tS {z:Int}{a:Hm}{Q:D×Hm->Prop}:W (bG (.int z) (.int 2) a) Q↔Q (.int (z % 2),a):=dJ (by decide)
theorem oN {z:Int}{a:Hm}{Q:D×Hm->Prop}:W (bG (.int z) (.int 4) a) Q↔Q (.int (z % 4),a):=dJ (by decide)
theorem P7 {z:Int}{a:Hm}{Q:D×Hm->Prop}:W (bG (.int z) (.int 6) a) Q↔Q (.int (z % 6),a):=dJ (by decide)
theorem P8 {z:Int}{a:Hm}{Q:D×Hm->Prop}:W (cS (.int z) (.int 4) a) Q↔Q (.int (z / 4),a):=gU (by decide) (by decide)
theorem P9:(2:Nat)<=S8:=by decide
theorem fP {a b:D}:([a,b]:List D).length<=S8:=P9
theorem Qa {z:Int}{a:Hm}{Q:D×Hm->Prop}:W (cS (.int z) (.int 9) a) Q↔Q (.int (z / 9),a):=gU (by decide) (by decide)
theorem Qb {z:Int}{a:Hm}{Q:D×Hm->Prop}:W (bG (.int z) (.int 9) a) Q↔Q (.int (z % 9),a):=dJ (by decide)
noncomputable def jY:D->Int
 | .int i=>i
 | _=>0
theorem zD {lo:Int}{n:Nat}{d:D}(h:d∈fB lo n):∃ j:Nat,j<n/\d=.int (lo+(j:Int)):=by
 unfold fB at h
 obtain ⟨j,a,rfl⟩:=Ts.mp h
 exact ⟨j,TV.mp a,rfl⟩
noncomputable def dS (i j:Int):Str:=
 if j=0 then (if i=0 then "c" else if i=2 then "l" else ".") else if j=1 then (if i=1 then "f" else if i=2 then "q" else if i=3 then "r" else ".")
 else if j=2 then (if i=0 then "u" else if i=2 then "c" else "q") else (if i=1 then "r" else if i=2 then "q" else if i=3 then "f" else ".")
noncomputable def a9 (x y:Int):Str:=dS (x % 4) (y % 4)
theorem oO (x:Int):x % 4=0\/x % 4=1\/x % 4=2\/x % 4=3:=by omega
noncomputable def tT:List D:=[.str "c.l.",.str ".fqr",.str "uqcq",.str ".rqf"]
theorem Qc (i j:Int)(b:i=0\/i=1\/i=2\/i=3)(c:j=0\/j=1\/j=2\/j=3)(a:Hm):∃ r,atI tT j=some r/\aN r (.int i) a=some (.str (dS i j),a):=by
 rcases c with rfl|rfl|rfl|rfl<;>rcases b with rfl|rfl|rfl|rfl<;>exact ⟨_,rfl,by kernel_rfl⟩
theorem zE (k:Nat)(x y:Int)(a:Hm)(Q:D×Hm->Prop)(h:∀ b,a <+: b->Q (.str (a9 x y),b)):W (f (k+1) "_law_kind" [P x y] a) Q:=by
 rw [PR,cD]
 simp only [b8,aT,aV,aE,aO,aQ,eH,kY,jT,dJ (show (0:Int)<4 by decide)]
 refine ⟨by decide,?_⟩
 obtain ⟨r,c,d⟩:=Qc (x % 4) (y % 4) (oO x) (oO y) (a++[.lst tT])
 refine (iU (xs:=tT) (bM a _) c).mpr ?_
 show W (aN r (.int (x % 4)) (a++[.lst tT])) _
 rw [d]
 exact W_some.mpr (h _ (bC _ _))
noncomputable def bK (s t:Str):Bool:=!(Uy t s 0 t.length 1).isEmpty
theorem Qd {s t:Str}{a:Hm}{Q:D×Hm->Prop}:W (cB false (.str s) (.str t) a) Q↔Q (.bl (bK s t),a):=W_some
noncomputable def cell (ns:List Int)(i:Int):Int:=ns.getD i.toNat 0
theorem EH (ns:List Int)(i:Nat):fF (ns.map D.int) (some (i:Int)) (some ((i:Int)+1))=((ns.drop i).take 1).map D.int:=by
 have c:((i:Int)+1)=((i+1:Nat):Int):=by omega
 unfold fF
 rw [c,HT.sIx_nat,HT.sIx_nat]
 by_cases h:i<ns.length
 ·have a:min i (ns.map D.int).length=i:=by rw [SQ];omega
  have b:min (i+1) (ns.map D.int).length - i=1:=by rw [SQ];omega
  rw [a,b,YK,YL]
 ·have a:min i (ns.map D.int).length=ns.length:=by rw [SQ];omega
  rw [a,Vl (by rw [SQ];omega),Vl (by omega)]
  simp
theorem EI (ns:List Int)(i:Nat):atI ((.int 0:D)::((ns.drop i).take 1).map D.int) (-1)=some (.int (ns.getD i 0)):=by
 by_cases h:i<ns.length
 ·have e:(ns.drop i).take 1=[ns[i]]:=by
   rw [UZ h];rfl
  rw [e]
  have:ns.getD i 0=ns[i]:=by simp [TY,h]
  rw [this]
  rfl
 ·have e:ns.drop i=[]:=Vl (by omega)
  rw [e]
  have:ns.getD i 0=0:=by simp [TY,Ue (Xw.mp h)]
  rw [this]
  rfl
theorem mT (k:Nat)(ns:List Int)(i:Int)(m:0<=i)(a:Hm)(Q:D×Hm->Prop)(h:∀ c,a <+: c->Q (.int (cell ns i),c)):W (f (k+1) "_law_draw" [.rol (ns.map D.int),.int i] a) Q:=by
 rw [EG,cD]
 simp only [b8,aT,aV,aE,aG,aO,aQ,eH]
 refine ⟨by decide,?_⟩
 refine zA ?_
 simp only [aE]
 refine ⟨_,rfl,?_⟩
 simp only [tQ,aT,aV,aE,aG,eI]
 obtain ⟨n,rfl⟩:∃ n:Nat,i=n:=⟨i.toNat,by omega⟩
 rw [EH]
 generalize hl:(ns.drop n).take 1=l
 have d:l.length<=1:=by rw [<- hl,Tu];omega
 have j:(1:Nat)+(l.map D.int).length<=S8:=by
  rw [SQ,T3];omega
 have e:(a++[C.lst [D.int 0]]++[C.lst (l.map D.int)])[a.length]? = some (C.lst [D.int 0]):=aS (bC _ _) (bM _ _)
 have g:(a++[C.lst [D.int 0]]++[C.lst (l.map D.int)])[(a++[C.lst [D.int 0]]).length]? = some (C.lst (l.map D.int)):=bM _ _
 rw [oK e g j]
 simp only [yW,aV]
 have b:=EI ns n
 rw [hl] at b
 refine (iU (bM _ _) b).mpr ?_
 exact h _ ((bC _ _).trans ((bC _ _).trans (bC _ _)))
noncomputable def bX:D->Int×Int
 | .tup [.int x,.int y]=>(x,y)
 | _=>(0,0)
theorem EJ (p:Int×Int->Bool)(l:List (Int×Int)):((l.map PP).filter fun d=>p (bX d)).map (fun d=>d)=(l.filter p).map PP:=by
 rw [a0m]
 induction l with
 | nil=>rfl
 | cons a l b=>
  have e:(a2h PP (a::l)).filter (fun d=>p (bX d))=if p a then PP a::(l.map PP).filter (fun d=>p (bX d)) else (l.map PP).filter fun d=>p (bX d):=by
   rw [S5,V4];rfl
  rw [e,b,V4]
  split<;>rfl
theorem tU {d:D}{l:List (Int×Int)}(h:d∈l.map PP):∃ x y,d=P x y:=by
 obtain ⟨p,_,rfl⟩:=Ts.mp h
 exact ⟨p.1,p.2,rfl⟩
theorem qK {M:Int->Int->Prop}(h:∀ i j:Int,(i=0\/i=1\/i=2\/i=3)->(j=0\/j=1\/j=2\/j=3)->M i j)(x y:Int):M (x % 4) (y % 4):=h _ _ (oO x) (oO y)
theorem gW (x:Int):x % 2=x % 4 % 2:=by omega
theorem kE (x y:Int):bK (a9 x y) "lufr" = (if x % 2=1 then y % 2 == 1 else (y % 2 == 0&&!(x % 4 == y % 4))):=by
 unfold a9
 rw [gW x,gW y]
 refine qK (M:=fun i j=>bK (dS i j) "lufr" = (if i % 2=1 then j % 2 == 1 else (j % 2 == 0&&!(i == j)))) (fun i j a b=>?_) x y
 rcases a with rfl|rfl|rfl|rfl<;>rcases b with rfl|rfl|rfl|rfl<;>decide +kernel
theorem kQ (x y:Int):(a9 x y == "q")=(if x % 2=1 then y % 4 == 2 else (x % 4 == 2&&y % 2 == 1)):=by
 unfold a9
 rw [gW x,gW y]
 refine qK (M:=fun i j=>(dS i j == "q")=(if i % 2=1 then j == 2 else (i == 2&&j % 2 == 1))) (fun i j a b=>?_) x y
 rcases a with rfl|rfl|rfl|rfl<;>rcases b with rfl|rfl|rfl|rfl<;>decide +kernel
theorem zF (x y:Int):bK (a9 x y) "q" = (a9 x y == "q"):=by
 unfold a9
 refine qK (M:=fun i j=>bK (dS i j) "q" = (dS i j == "q")) (fun i j a b=>?_) x y
 rcases a with rfl|rfl|rfl|rfl<;>rcases b with rfl|rfl|rfl|rfl<;>decide +kernel
theorem Qe (k:Nat)(x y:Int)(a:Hm)(Q:D×Hm->Prop):W (f (k+1) "is_edge" [P x y] a) Q↔Q (.bl (bK (a9 x y) "lufr"),a):=by
 rw [Py,cD,kE]
 simp only [aZ,b8,dQ,dE,cH,tK,aT,aV,aE,kY,jT,jS,yX,tS,oN]
 by_cases h:x % 2=1
 ·simp [h]
 ·by_cases g:y % 2=0
  ·simp [h,g]
  ·have e:(y % 2 == 0)=false:=by simpa using g
   simp only [e,Yv]
   simp [h]
theorem Qf (k:Nat)(x y:Int)(a:Hm)(Q:D×Hm->Prop):W (f (k+1) "is_quarter" [P x y] a) Q↔Q (.bl (a9 x y == "q"),a):=by
 rw [Pz,cD,kQ]
 simp only [aZ,b8,dQ,dE,cH,tK,aT,aV,aE,kY,jT,jS,tS,oN]
 by_cases h:x % 2=1
 ·simp [h]
 ·by_cases g:x % 4=2
  ·simp [h,g]
  ·have e:(x % 4 == 2)=false:=by simpa using g
   simp only [e,Yv]
   simp [h]
noncomputable def fC (h:Int)(x:Int):List (Int×Int):=(Tz (4 * h - 1).toNat).map fun (j:Nat)=>(x,1+(j:Int))
noncomputable def eJ (h:Int)(n:Nat):List (Int×Int):=(Tz n).flatMap fun (i:Nat)=>fC h (1+(i:Int))
noncomputable def cJ (w h:Int):List (Int×Int):=eJ h (4 * w - 1).toNat
noncomputable def aJ (w h:Int)(s:Str):List (Int×Int):=(cJ w h).filter fun p=>bK (a9 p.1 p.2) s
theorem zG (h:Int)(n:Nat):eJ h (n+1)=eJ h n++fC h (1+(n:Int)):=by
 unfold eJ;rw [Zp,YG];simp
theorem zH (h x:Int):(fC h x).length=(4 * h - 1).toNat:=by unfold fC;simp
theorem tW (h:Int):∀ n:Nat,(eJ h n).length=n * (4 * h - 1).toNat
 | 0=>by simp [eJ]
 | n+1=>by rw [zG,SV,tW h n,zH,a0v]
theorem zI {h:Int}(b:h<=6){n:Nat}(a:n<=23):n * (4 * h - 1).toNat<=529:=by
 have:n * (4 * h - 1).toNat<=23 * 23:=Nat.mul_le_mul a (by omega)
 omega
theorem Qg (h x:Int):((fB 1 (4 * h - 1).toNat).filter fun _=>true).map (fun d=>P x (jY d))=(fC h x).map PP:=by
 unfold fB fC
 rw [show ∀ l:List D,l.filter (fun _=>true)=l from fun l=>by simp,TM,TM]
 rfl
theorem Qh (k:Nat)(w h:Int)(hw:1<=w/\w<=6)(s:1<=h/\h<=6)(e:Hm)(Q:D×Hm->Prop)(H:∀ a b,e <+: b->b[a]? = some (.lst ((cJ w h).map PP))->e.length<=a->Q (.loc a,b)):W (f (k+1) "places_within" [.int w,.int h] e) Q:=by
 rw [PJ,cD]
 simp only [aZ,bL,eH,aO]
 refine ⟨Um _,?_⟩
 simp only [SY,S1,fN,tL,aQ,aO,aV,aT,aE,aG,mS]
 refine ⟨by omega,?_⟩
 refine mQ (lo:=1) (fun i q b=>e <+: b/\b[e.length]? = some (.lst ((eJ h i).map PP))/\∃ o,q=[some (.int w),some (.int h),some (.loc e.length),o]) ⟨bC _ _,bM _ _,none,rfl⟩ ?_ ?_
 ·rintro i q p v ⟨n,g,o,rfl⟩
  refine ⟨_,rfl,?_⟩
  simp only [SY,S1,tI]
  refine tO ?_
  simp only [aE,aG]
  refine ⟨tP g,?_⟩
  simp only [aQ,aO]
  refine kZ (xs:=fB 1 (4 * h - 1).toNat) (p:=fun _=>true) (v:=fun d=>P (1+(i:Int)) (jY d)) ?_
  simp only [tL,aQ,aO,aV,aT,aE,aG,mS]
  refine ⟨by omega,Ey,by simp [fB],by rw [T3];simp [fB];omega,?_,?_,?_⟩
  ·intro d b hd n
   exact w_mTrue.mpr ⟨rfl,Uk _⟩
  ·intro d b hd _ n
   obtain ⟨j,x,rfl⟩:=zD hd
   simp only [TR,Ug,gC,aQ,aO,aE,aG,fP,true_and]
   exact ⟨rfl,Uk _⟩
  ·intro u c l
   rw [Qg] at l
   have m:((eJ h i).map PP).length+((fC h (1+(i:Int))).map PP).length<=S8:=by
    have r:=zI (h:=h) s.2 (n:=i+1) (by omega)
    rw [a0v] at r
    rw [SQ,SQ,tW,zH,T3]
    omega
   refine (Pr (aS c g) l m).mpr ?_
   refine ⟨fM (n.trans c) (SX _) _,?_,_,rfl⟩
   rw [Uw (SN.mp (aS c g)).1,zG,UN]
 ·rintro q p ⟨n,g,o,rfl⟩
  simp only [b8,aE,aG]
  exact H _ _ n g (SX _)
theorem zJ {w h:Int}(hw:w<=6)(a:h<=6):(cJ w h).length<=529:=by
 unfold cJ
 rw [tW]
 exact zI a (by omega)
theorem Qi (k:Nat)(w h:Int)(hw:1<=w/\w<=6)(j:1<=h/\h<=6)(s:Str)(c:MT)(hc:∀ (u v:Int)(e:Hm),W (c [some (.int w),some (.int h),some (P u v)] e) fun r=>r.1=bK (a9 u v) s/\e <+: r.2)(e:Hm)(Q:D×Hm->Prop)
  (H:∀ a b,e <+: b->b[a]? = some (.lst ((aJ w h s).map PP))->e.length<=a->Q (.loc a,b)):W (fH (cY (aL (f (k+1) "places_within") (aC (aA 0) (aC (aA 1) aD)))) c (aA 2) [some (.int w),some (.int h)] e) Q:=by
 refine kZ (xs:=(cJ w h).map PP) (p:=fun d=>bK (a9 (bX d).1 (bX d).2) s) (v:=fun d=>d) ?_
 simp only [gD,bF,aQ,aO,aE,aG]
 refine Qh _ w h hw j _ _ fun a n l i o=>?_
 refine (gE i).mpr ?_
 refine ⟨oJ i,rfl,?_,fun d b hd g=>?_,fun d b hd _ g=>?_,fun b g m=>?_⟩
 ·have:=zJ (w:=w) (h:=h) hw.2 j.2
  rw [SQ,T3];omega
 ·obtain ⟨u,v,rfl⟩:=tU hd
  exact hc u v b
 ·simp only [TR,Ug,aE,aG]
  exact ⟨trivial,Uk _⟩
 ·refine H _ _ (l.trans g) ?_ (mP l)
  rw [m,EJ fun p=>bK (a9 p.1 p.2) s]
  rfl
theorem Qj (k:Nat)(w h:Int)(hw:1<=w/\w<=6)(d:1<=h/\h<=6)(c:Hm)(Q:D×Hm->Prop)(H:∀ a b,c <+: b->b[a]? = some (.lst ((aJ w h "q").map PP))->c.length<=a->Q (.loc a,b)):W (f (k+2) "quarters_in" [.int w,.int h] c) Q:=by
 rw [PK,cD]
 simp only [b8]
 refine Qi k w h hw d "q" _ (fun u v b=>?_) c _ H
 simp only [tJ,bF,aQ,aO,aE,aG,Qf,dR]
 exact ⟨(zF u v).symm,Uk _⟩
theorem Qk (h:Int)(p:Int×Int->Bool)(n:Nat):(eJ h (n+1)).filter p=(eJ h n).filter p++(fC h (1+(n:Int))).filter p:=by
 rw [zG,We]
theorem Ql (h x:Int)(s:Str):((fB 1 (4 * h - 1).toNat).filter fun d=>bK (a9 x (jY d)) s).map (fun d=>P x (jY d))=((fC h x).filter fun p=>bK (a9 p.1 p.2) s).map PP:=by
 unfold fB fC
 rw [WM,WM,TM,TM]
 rfl
theorem zK (k:Nat)(w h:Int)(s:Str)(hw:1<=w/\w<=6)(A:1<=h/\h<=6)(g:Hm)(Q:D×Hm->Prop)(H:∀ a b,g <+: b->b[a]? = some (.lst ((aJ w h s).map PP))->g.length<=a->Q (.loc a,b)):W (f (k+2) "_law_amid" [.int w,.int h,.str s] g) Q:=by
 rw [PV,cD]
 simp only [aZ,bL,eH,aO]
 refine ⟨Um _,?_⟩
 simp only [SY,S1,fN,tL,aQ,aO,aV,aT,aE,aG,mS]
 refine ⟨by omega,?_⟩
 refine mQ (lo:=1) (fun i u b=>g <+: b/\∃ a o,g.length<=a/\b[a]? = some (.lst (((eJ h i).filter fun p=>bK (a9 p.1 p.2) s).map PP))/\u=[some (.int w),some (.int h),some (.str s),some (.loc a),o]) ⟨bC _ _,g.length,none,SX _,bM _ _,rfl⟩ ?_ ?_
 ·rintro i u q G ⟨e,a,o,v,n,rfl⟩
  refine ⟨_,rfl,?_⟩
  simp only [SY,S1,bL,aT,aE,aG]
  refine kZ (xs:=fB 1 (4 * h - 1).toNat) (p:=fun d=>bK (a9 (1+(i:Int)) (jY d)) s) (v:=fun d=>P (1+(i:Int)) (jY d)) ?_
  simp only [tL,aQ,aO,aV,aT,aE,aG,mS]
  refine ⟨by omega,Ey,by simp [fB],by rw [T3];simp [fB];omega,?_,?_,?_⟩
  ·intro d b hd e
   obtain ⟨j,B,rfl⟩:=zD hd
   simp only [TR,Ug,cH,aT,bF,gC,aQ,aO,aE,aG,fP,true_and]
   refine zE _ _ _ _ _ fun r E=>?_
   refine (Qd).mpr ?_
   exact ⟨rfl,E⟩
  ·intro d b hd _ e
   obtain ⟨j,B,rfl⟩:=zD hd
   simp only [TR,Ug,gC,aQ,aO,aE,aG,fP,true_and]
   exact ⟨rfl,Uk _⟩
  ·intro r c l
   rw [Ql] at l
   have m:(((eJ h i).filter fun p=>bK (a9 p.1 p.2) s).map PP).length+(((fC h (1+(i:Int))).filter fun p=>bK (a9 p.1 p.2) s).map PP).length<=S8:=by
    have x:=zI (h:=h) A.2 (n:=i+1) (by omega)
    have y:=UA (fun p=>bK (a9 p.1 p.2) s) (eJ h i)
    have z:=UA (fun p=>bK (a9 p.1 p.2) s) (fC h (1+(i:Int)))
    rw [tW] at y
    rw [zH] at z
    rw [a0v] at x
    rw [SQ,SQ,T3]
    omega
   refine (oK (aS c n) l m).mpr ?_
   refine ⟨(e.trans c).trans (bC _ _),_,_,TQ (mP e) (mP c),?_,rfl⟩
   rw [bM,Qk,UN]
 ·rintro u q ⟨e,a,o,v,n,rfl⟩
  simp only [b8,aE,aG]
  exact H _ _ e n v
noncomputable def qL (p:Int×Int):Bool:=if p.1 % 2=1 then p.2 % 4 == 2 else (p.1 % 4 == 2&&p.2 % 2 == 1)
noncomputable def gF (p:Int×Int):Bool:=if p.1 % 2=1 then p.2 % 2 == 1 else (p.2 % 2 == 0&&!(p.1 % 4 == p.2 % 4))
theorem zM (w h:Int):aJ w h "q" = (cJ w h).filter qL:=by
 unfold aJ qL;refine W7 fun p _=>?_;rw [zF,kQ]
theorem qM (w h:Int):aJ w h "lufr" = (cJ w h).filter gF:=by
 unfold aJ gF;refine W7 fun p _=>?_;rw [kE]
noncomputable def aR (p:Int×Int):List Int:=[p.1,p.2]
theorem Qm {a:Type}(l:List a)(d:a):(Tz l.length).map (fun i=>l.getD i d)=l:=by
 refine a1I (by simp) fun i c b=>?_
 simp [TY,b]
theorem qN {es:List (Int×Int)}{i:Nat}{d:D}(h:(es.map PP)[i]? = some d):∃ p,es[i]? = some p/\d=PP p:=by
 rw [Tx] at h
 obtain ⟨p,a,b⟩:=SS.mp h
 exact ⟨p,a,b.symm⟩
theorem gX (q:Int×Int):dC (PP q)=some (aR q):=rfl
theorem Qn {l:List (List Int×D)}(a:(l.map (·.1)).Nodup){k:List Int}{d:D}(h:(k,d)∈l):b7 l k=some d:=by
 induction l with
 | nil=>cases h
 | cons p l b=>
  rw [S5,TX] at a
  unfold b7
  rw [Uu]
  rcases To.mp h with h|h
  ·rw [<- h]
   simp
  ·have:decide (p.1=k)=false:=decide_eq_false fun z=>a.1 (Ts.mpr ⟨_,h,z.symm⟩)
   rw [this]
   exact b a.2 h
theorem k5 {p q:Int×Int}(h:aR p=aR q):p=q:=by
 unfold aR at h
 injection h with h1 h2
 injection h2 with h2
 exact Prod.ext h1 h2
theorem gG {b:Hm}{a:Nat}{c c':C}(h:b[a]? = some c):(b.set a c')[a]? = some c':=by
 rw [Uw (SN.mp h).1]
theorem Qo (a:Hm)(c c':C):(a++[c]).set a.length c'=a++[c']:=by
 rw [Xf _ _ (SX _)];simp
theorem mD:∀ a b c:List Int,HT.lexLt a b=true->HT.lexLt b c=true->HT.lexLt a c=true
 | [],[],_,h,_=>by cases h
 | [],_::_,[],_,h=>by cases h
 | [],_::_,_::_,_,_=>rfl
 | _::_,[],_,h,_=>by cases h
 | _::_,_::_,[],_,h=>by cases h
 | x::xs,y::ys,z::zs,e,d=>by
  rw [HT.lexLt_cons] at e d ⊢
  by_cases i:x=y
  ·subst i
   rw [if_pos rfl] at e
   by_cases g:x=z
   ·rw [if_pos g] at d ⊢
    exact mD xs ys zs e d
   ·rw [if_neg g] at d ⊢
    exact d
  ·rw [if_neg i] at e
   have e:=of_decide_eq_true e
   by_cases g:y=z
   ·subst g
    rw [if_neg i]
    exact decide_eq_true e
   ·rw [if_neg g] at d
    have d:=of_decide_eq_true d
    rw [if_neg (by omega)]
    exact decide_eq_true (by omega)
theorem EK:∀ a b c:List Int,HT.lexLt a b=true->HT.lexLt a c=true\/HT.lexLt c b=true
 | [],[],_,h=>by cases h
 | [],_::_,[],_=>.inr rfl
 | [],_::_,_::_,_=>.inl rfl
 | _::_,[],_,h=>by cases h
 | _::_,_::_,[],_=>.inr rfl
 | x::xs,y::ys,z::zs,h=>by
  rw [HT.lexLt_cons] at h ⊢
  rw [HT.lexLt_cons]
  by_cases e:x=y
  ·subst e
   rw [if_pos rfl] at h
   by_cases d:x=z
   ·subst d
    rw [if_pos rfl,if_pos rfl]
    exact EK xs ys zs h
   ·rw [if_neg d,if_neg (UM d),decide_eq_true_iff,decide_eq_true_iff]
    omega
  ·rw [if_neg e] at h
   have h:=of_decide_eq_true h
   by_cases d:x=z
   ·subst d
    rw [if_neg e]
    exact .inr (decide_eq_true h)
   ·rw [if_neg d,decide_eq_true_iff]
    by_cases g:z=y
    ·subst g
     exact .inl h
    ·rw [if_neg g,decide_eq_true_iff]
     omega
theorem kN:∀ k:List Int,HT.lexLt k k=false
 | []=>rfl
 | a::k=>by rw [HT.lexLt_cons,if_pos rfl];exact kN k
theorem zN:∀ a b:List Int,HT.lexLt a b=false->HT.lexLt b a=false->a=b
 | [],[],_,_=>rfl
 | [],_::_,h,_=>by cases h
 | _::_,[],_,h=>by cases h
 | x::xs,y::ys,c,d=>by
  rw [HT.lexLt_cons] at c d
  by_cases e:x=y
  ·subst e
   rw [if_pos rfl] at c d
   rw [zN xs ys c d]
  ·rw [if_neg e] at c
   rw [if_neg (UM e)] at d
   have c:=of_decide_eq_false c
   have d:=of_decide_eq_false d
   omega
theorem Qp {f:D->List D->Hm->Option (D×Hm)}{a:ME}{b:MA}{ρ:aH}{c:Hm}{Q:D×Hm->Prop}(h:W (a ρ c) fun p=>oA p.2 p.1=true/\W (b ρ p.2) fun q=>W (f p.1 q.1 q.2) Q):W (mI f a b ρ c) Q:=by
 unfold mI
 rw [W_bind]
 refine bQ h fun p q=>?_
 rw [q.1]
 exact W_bind.mpr q.2
theorem Qq {b:Hm}{a:Nat}{kvs:List (List Int×D)}(h:b[a]? = some (.dT kvs)):oA b (.loc a)=true:=by
 simp only [oA,h]
noncomputable def qO:List (List Int)->Bool
 | x::y::r=>HT.lexLt x y&&qO (y::r)
 | _=>true
theorem zO:∀ {l:List (List Int)},qO l=true->l.Pairwise fun x y=>HT.lexLt x y=true
 | [],_=>.nil
 | [x],_=>a0j _ _
 | x::y::r,h=>by
  unfold qO at h
  rw [S0] at h
  have b:=zO h.2
  refine Wa.mpr ⟨fun z a=>?_,b⟩
  rcases To.mp a with rfl|a
  ·exact h.1
  ·exact mD _ _ _ h.1 ((Wa.mp b).1 z a)
theorem Qr {a b:List Int}(h:HT.lexLt a b=true):HT.lexLt b a=false:=by
 cases e:HT.lexLt b a with
 | false=>rfl
 | true=>
  have:=mD _ _ _ h e
  rw [kN] at this
  exact this.symm
theorem oP {i:Nat}{ρ:aH}{a:Hm}{d:D}{Q:D×Hm->Prop}(h:ρ[i]? = some (some d)):W (aA i ρ a) Q↔Q (d,a):=by
 have:aA i ρ a=some (d,a):=by simp only [aA,h]
 rw [this]
 exact W_some
theorem mU {a:Type}{l:List a}{n:Nat}{x:a}(h:l[n]? = some x):l.take (n+1)=l.take n++[x]:=by
 rw [a1v,h]
 rfl
theorem Qt {c:Type}{l:List c}(i:l.Nodup){n:Nat}{x:c}(h:l[n]? = some x):x∉l.take n:=fun g=>by
 obtain ⟨j,a⟩:=VJ.mp g
 have b:j<n:=by
  have:=(SN.mp a).1
  rw [Tu] at this
  omega
 rw [Ux b] at a
 have m:n<l.length:=(SN.mp h).1
 have d:=(SN.mp a).2
 have e:=(SN.mp h).2
 exact absurd ((a1H i).mp (d.trans e.symm)) (by omega)
noncomputable abbrev aM (v:Int×Int->D)(ps:List (Int×Int)):List (List Int×D):=ps.map fun p=>(aR p,v p)
theorem mV {v:Int×Int->D}{ps:List (Int×Int)}(d:ps.Nodup){p:Int×Int}(h:p∈ps):b7 (aM v ps) (aR p)=some (v p):=by
 refine Qn ?_ (Ts.mpr ⟨p,h,rfl⟩)
 rw [TM]
 exact a2Z _ (fun a b c x=>c (k5 x)) d
theorem zP {v:Int×Int->D}{ps:List (Int×Int)}{p:Int×Int}(h:p∉ps):b7 (aM v ps) (aR p)=none:=by
 unfold b7
 rw [List.find?_eq_none.mpr]
 ·rfl
 ·intro x a
  obtain ⟨z,b,rfl⟩:=Ts.mp a
  rw [decide_eq_true_iff]
  exact fun e=>h (k5 e ▸ b)
theorem tX {v:Int×Int->D}{ps:List (Int×Int)}{p:Int×Int}(h:p∉ps):cZ (aM v ps) (aR p) (v p)=aM v (ps++[p]):=by
 unfold cZ
 rw [zP h,if_neg (by simp)]
 show _=a2h _ _
 rw [UN]
 rfl
noncomputable def srt (ps:List (Int×Int)):List (Int×Int):=(bU (fun i j=>HT.lexLt ((ps.map aR).getD i []) ((ps.map aR).getD j [])) ps.length).map fun i=>ps.getD i (0,0)
theorem gY (ps:List (Int×Int)):(srt ps).Perm ps:=by
 have p:=(dX (fun i j=>HT.lexLt ((ps.map aR).getD i []) ((ps.map aR).getD j [])) ps.length).map fun i=>ps.getD i (0,0)
 rw [Qm] at p
 exact p
theorem EL (v:Int×Int->D)(ps:List (Int×Int)):kR (aM v ps)=aM v (srt ps):=by
 unfold kR srt aM
 have b:(ps.map fun p=>(aR p,v p)).map (·.1)=ps.map aR:=by rw [TM];rfl
 rw [b,SQ,TM]
 refine UP fun i a=>?_
 have a:i<ps.length:=TV.mp ((dX _ _).mem_iff.mp a)
 simp [TY,a]
theorem zQ (ps:List (Int×Int)):((srt ps).map aR).Pairwise fun x y=>HT.lexLt y x=false:=by
 by_cases h:ps=[]
 ·subst h
  have:srt []=[]:=by
   have:=(gY []).length_eq
   exact Vc.mp this
  rw [this]
  exact .nil
 have c:0<ps.length:=a0T.mpr h
 have S:=CO (lt:=HT.lexLt) kN mD EK [] (ps.map aR) (n:=ps.length) c
 unfold srt
 rw [TM,TZ]
 have b:∀ i∈bU (fun i j=>HT.lexLt ((ps.map aR).getD i []) ((ps.map aR).getD j [])) ps.length,aR (ps.getD i (0,0))=(ps.map aR).getD i []:=fun i a=>by
  have a:i<ps.length:=TV.mp ((dX _ _).mem_iff.mp a)
  simp [TY,a]
 exact S.imp_of_mem fun {i j} a d h=>by
  show HT.lexLt (aR (ps.getD j (0,0))) (aR (ps.getD i (0,0)))=false
  rw [b i a,b j d]
  exact h
theorem srt_eq {ps qs:List (Int×Int)}:srt ps=srt qs↔ps.Perm qs:=by
 constructor
 ·intro h
  exact (gY ps).symm.trans (h ▸ gY qs)
 ·intro h
  have e:(srt ps).map aR=(srt qs).map aR:=XW (le:=fun x y=>HT.lexLt y x=false) (fun a b _ _ c d=>(zN b a c d).symm) (zQ ps) (zQ qs) ((((gY ps).trans h).trans (gY qs).symm).map _)
  have inj:∀ {a b:List (Int×Int)},a.map aR=b.map aR->a=b:=fun {a}=>by
   induction a with
   | nil=>intro b h;cases b with
    | nil=>rfl
    | cons=>cases h
   | cons x a g=>intro b h;cases b with
    | nil=>cases h
    | cons y b=>
     rw [S5,S5] at h
     injection h with c d
     rw [k5 c,g d]
  exact inj e
noncomputable def bI (m:Int×Int->Str)(p:Int×Int):D:=.str (m p)
noncomputable def tY (s:Str):Prop:=s = "o"\/s = "v"\/s = "h"
noncomputable abbrev MD (p:(Int×Int)×Str):D:=.tup [PP p.1,.str p.2]
noncomputable abbrev SH (w h:Int)(a:List ((Int×Int)×Str)):D:=.tup [.int w,.int h,.tup (a.map MD)]
noncomputable def iV (m:Int×Int->Str)(ps:List (Int×Int)):List ((Int×Int)×Str):=ps.map fun p=>(p,m p)
theorem Qu {p q:Int×Int}:aR p=aR q↔p=q:=⟨k5,fun e=>by rw [e]⟩
theorem EM (m:Int×Int->Str)(ps:List (Int×Int))(p:Int×Int)(c:Str):cZ (aM (bI m) ps) (aR p) (.str c)=aM (bI fun q=>if q=p then c else m q) (if p∈ps then ps else ps++[p]):=by
 unfold cZ
 by_cases h:p∈ps
 ·have e:(b7 (aM (bI m) ps) (aR p)).isSome=true:=by
   unfold b7
   rw [WY,List.find?_isSome]
   exact ⟨_,Ts.mpr ⟨p,h,rfl⟩,by simp⟩
  rw [if_pos e,if_pos h]
  unfold aM
  rw [TM]
  refine UP fun q _=>?_
  show (if aR q=aR p then (aR q,D.str c) else (aR q,bI m q))=(aR q,bI _ q)
  unfold bI
  dsimp only
  by_cases e:q=p
  ·rw [if_pos (by rw [e]),if_pos e]
  ·rw [if_neg (fun z=>e (k5 z)),if_neg e]
 ·rw [zP h,if_neg (by simp),if_neg h]
  unfold aM
  rw [UN]
  congr 1
  ·refine UP fun q a=>?_
   unfold bI
   dsimp only
   rw [if_neg (fun z:q=p=>h (z ▸ a))]
  ·show [_]=[(aR p,bI _ p)]
   unfold bI
   dsimp only
   rw [if_pos rfl]
theorem oQ {c:Type} [DecidableEq c]:∀ {l t:List c},l.Nodup->(∀ x∈l,x∈t)->l.length<=t.length
 | [],_,_,_=>Um _
 | x::l,t,nd,h=>by
  rw [TX] at nd
  have a:=h x (Td ..)
  have:=oQ (l:=l) (t:=t.erase x) nd.2 fun y b=>(List.mem_erase_of_ne (fun e:y=x=>nd.1 (e ▸ b))).mpr (h y (S3 _ b))
  rw [List.length_erase_of_mem a] at this
  have:0<t.length:=List.length_pos_of_mem a
  rw [Ti]
  omega
structure Mk (w h:Int)(ps:List (Int×Int))(m:Int×Int->Str):Prop where
 nd:ps.Nodup
 ed:∀ p∈ps,p∈aJ w h "lufr"
 ok:∀ p,tY (m p)
theorem Mk.len {w h:Int}{ps:List (Int×Int)}{m:Int×Int->Str}(M:Mk w h ps m)(hw:w<=6)(a:h<=6):ps.length<=529:=
 TQ (oQ M.nd M.ed) (TQ (UA _ _) (zJ hw a))
theorem Mk.put {w h:Int}{ps:List (Int×Int)}{m:Int×Int->Str}(M:Mk w h ps m){p:Int×Int}(j:p∈aJ w h "lufr") {c:Str}(hc:tY c):Mk w h (if p∈ps then ps else ps++[p]) fun q=>if q=p then c else m q:=by
 refine ⟨?_,fun q d=>?_,fun q=>?_⟩
 ·split
  ·exact M.nd
  ·rename_i h
   refine VT.mpr ⟨M.nd,by simp,fun a i b g e=>?_⟩
   rw [Tq] at g
   exact h (by rw [<- g,<- e];exact i)
 ·split at d
  ·exact M.ed q d
  ·rcases Tf.mp d with d|d
   ·exact M.ed q d
   ·rw [Tq.mp d]
    exact j
 ·split
  ·exact hc
  ·exact M.ok q
theorem Mk.perm {w h:Int}{ps qs:List (Int×Int)}{m:Int×Int->Str}(M:Mk w h ps m)(a:qs.Perm ps):Mk w h qs m:=⟨a.nodup_iff.mpr M.nd,fun p h=>M.ed p (a.mem_iff.mp h),M.ok⟩
theorem Qv (m:Int×Int->Str)(ps:List (Int×Int)):(iV m ps).map MD=ps.map fun p=>D.tup [PP p,bI m p]:=by
 unfold iV
 rw [TM]
 rfl
theorem Qw {n i:Nat}(h:i<n):lH n (i:Int)=some i:=by
 unfold lH
 rw [if_pos (by omega),if_pos (by omega)]
 rfl
theorem oR {a:Type}{xs:List a}{i:Int}{x:a}(c:0<=i)(h:xs[i.toNat]? = some x):atI xs i=some x:=by
 have b:i.toNat<xs.length:=(SN.mp h).1
 unfold atI
 have e:i=((i.toNat:Nat):Int):=by omega
 rw [e,Qw b]
 exact h
noncomputable def k7 (c:Int):Int:=if c % 4=0 then 1 else if c % 4=1 then 2 else if c % 4=2 then 3 else 1+c / 4 % 6
theorem EO (c:Int):1<=k7 c/\k7 c<=6:=by
 unfold k7
 repeat' split
 all_goals omega
theorem ER (k:Nat)(c:Int)(b:Hm)(Q:D×Hm->Prop)(H:∀ a,b <+: a->Q (.int (k7 c),a)):W (f (k+1) "_law_size" [.int c] b) Q:=by
 rw [PX,cD]
 simp only [b8,aT,eH,aQ,aO,aV,aE,P8,P7,oN,eI]
 refine ⟨by show (4:Nat)<=S8;decide,?_⟩
 have e:atI [D.int 1,D.int 2,D.int 3,D.int (1+c / 4 % 6)] (c % 4)=some (.int (k7 c)):=by
  unfold k7
  have:=oO c
  rcases this with h|h|h|h<;>rw [h]<;>rfl
 refine (iU (bM _ _) e).mpr ?_
 exact H _ (bC _ _)
theorem ES (a b c d:D):pK [] [(.inr "l",a),(.inr "u",b),(.inr "f",c),(.inr "r",d)]=[(.inr "l",a),(.inr "u",b),(.inr "f",c),(.inr "r",d)]:=by kernel_rfl
noncomputable abbrev zR (x y:Int):List (aF×D):=[(.inr "l",D.int y),(.inr "u",D.int x),(.inr "f",D.int (x - y)),(.inr "r",D.int (x+y))]
noncomputable def gZ (x y:Int):Int:=match d8 (zR x y) (.inr (a9 x y)) with|some (.int i)=>i|_=>0
theorem Qx {x y:Int}:bK (a9 x y) "lufr" = true->a9 x y = "l"\/a9 x y = "u"\/a9 x y = "f"\/a9 x y = "r":=by
 unfold a9
 refine qK (M:=fun i j=>bK (dS i j) "lufr" = true->dS i j = "l"\/dS i j = "u"\/dS i j = "f"\/dS i j = "r") (fun i j a b=>?_) x y
 rcases a with rfl|rfl|rfl|rfl<;>rcases b with rfl|rfl|rfl|rfl<;>decide +kernel
theorem Qy {x y:Int}(h:bK (a9 x y) "lufr" = true):d8 (zR x y) (.inr (a9 x y))=some (.int (gZ x y)):=by
 unfold gZ
 rcases Qx h with h|h|h|h<;>rw [h]<;>kernel_rfl
theorem ET (k:Nat)(p:Int×Int)(c:bK (a9 p.1 p.2) "lufr" = true) (b:Hm)(Q:D×Hm->Prop)(H:∀ a,b <+: a->Q (.tup [.str (a9 p.1 p.2),.int (gZ p.1 p.2)],a)):W (f (k+2) "_law_line" [PP p] b) Q:=by
 rw [PY,cD,aZ]
 simp only [bL,bF,aQ,aO,aE,PP]
 refine zE k p.1 p.2 _ _ fun e d=>?_
 simp only [SY,S1,b8,gC,aQ,aO,aT,aE,aG]
 refine EC ?_
 simp only [EA,Ez,aV,aE,aG,aT,kY,jT,jQ,eI,EB]
 refine ⟨bM _ _,by show (4:Nat)<=15;decide,?_⟩
 rw [ES]
 refine (ED (kvs:=zR p.1 p.2) (by simp) rfl (Qy c)).mpr ⟨fP,?_⟩
 exact H _ (d.trans (fM (bC _ _) (SX _) _))
theorem Qz {a b:Str}{i j:Int}{c:Hm}{Q:D×Hm->Prop}:W (bE false (.tup [.str a,.int i]) (.tup [.str b,.int j]) c) Q↔Q (.bl ((a == b)&&((i == j)&&true)),c):=W_some
theorem EU {w h:Int}{p:Int×Int}(a:p∈cJ w h):(0<p.1/\p.1<4 * w)/\0<p.2/\p.2<4 * h:=by
 unfold cJ eJ fC at a
 obtain ⟨i,b,a⟩:=Yd.mp a
 obtain ⟨j,c,rfl⟩:=Ts.mp a
 have b:=TV.mp b
 have c:=TV.mp c
 dsimp only
 omega
theorem EV {w h:Int}{s:Str}{p:Int×Int}(a:p∈aJ w h s):((0<p.1/\p.1<4 * w)/\0<p.2/\p.2<4 * h)/\bK (a9 p.1 p.2) s=true:=
 ⟨EU (T4.mp a).1,(T4.mp a).2⟩
theorem EW {z:Int}{a:Hm}{Q:D×Hm->Prop}:W (bG (.int z) (.int 3) a) Q↔Q (.int (z % 3),a):=dJ (by decide)
theorem zS {i:Int}(h:0<=i/\i<3):∃ s,tY s/\∀ a,aN (.str "hvo") (.int i) a=some (.str s,a):=by
 have:i=0\/i=1\/i=2:=by omega
 rcases this with rfl|rfl|rfl
 ·exact ⟨"h",.inr (.inr rfl),fun a=>rfl⟩
 ·exact ⟨"v",.inr (.inl rfl),fun a=>rfl⟩
 ·exact ⟨"o",.inl rfl,fun a=>rfl⟩
theorem QC:∀ w∈[(1:Int),2,3,4,5,6],∀ h∈[(1:Int),2,3,4,5,6],((cJ w h).filter gF).isEmpty=false:=by decide +kernel
theorem dM {w:Int}(h:1<=w/\w<=6):w∈[(1:Int),2,3,4,5,6]:=by
 have:w=1\/w=2\/w=3\/w=4\/w=5\/w=6:=by omega
 rcases this with rfl|rfl|rfl|rfl|rfl|rfl<;>decide
theorem QD {w h:Int}(hw:1<=w/\w<=6)(a:1<=h/\h<=6):0<(aJ w h "lufr").length:=by
 have:=QC w (dM hw) h (dM a)
 rw [qM]
 cases e:(cJ w h).filter gF with
 | nil=>rw [e] at this;cases this
 | cons _ _=>exact Zh _
theorem tZ {w h:Int}(hw:w<=6)(a:h<=6)(s:Str):(aJ w h s).length<=529:=TQ (UA _ _) (zJ hw a)
theorem zT {w h:Int}(hw:w<=6)(g:h<=6){ps:List (Int×Int)}{m:Int×Int->Str}(M:Mk w h ps m){c:Hm}{a:Nat}(e:c[a]? = some (.dT (aM (bI m) ps))){p:Int×Int}(i:p∈aJ w h "lufr") {s:Str}(j:tY s)(Q:Hm->Prop)
  (H:∀ b d,Mk w h b d->Q (c.set a (.dT (aM (bI d) b)))):W (pR (.loc a) (PP p) (.str s) c) Q:=by
 have lp:=M.len hw g
 refine (oM e (gX p) (by rw [SQ,T3];omega)).mpr ?_
 rw [EM]
 exact H _ _ (M.put i j)
noncomputable abbrev QF (k:Nat):MS:=bT (aU (aB gP (aB bG (aA 6) (mC (.int 9))) (mC (.int 7)))) (dD (aA 4) (aA 7) (aB aN (mC (.str "hvo")) (aB bG (aB cS (aA 6) (mC (.int 2003))) (mC (.int 3))))) (aK (aX 8 (fH (cY (aA 3)) (aU (aB (bE false) (aL (f k "_law_line") (aC (aA 10) aD)) (aL (f k "_law_line") (aC (aA 7) aD)))) (aA 10))) (dG (iH (aC (aL c6 (aC (aA 8) aD)) aD)) (cT 9) (dD (aA 4) (aB aN (aA 8) (aA 9)) (aB aN (mC (.str "hvo")) (aB bG (aB bV (aB cS (aA 6) (mC (.int 2003))) (aB bZ (aA 9) (aB bG (aA 6) (mC (.int 2))))) (mC (.int 3)))))))
theorem QH (k:Nat){w h:Int}(hw:1<=w/\w<=6)(N:1<=h/\h<=6){x0 x1 x2 x5 x8 x9:Option D}{ps:List (Int×Int)}{m:Int×Int->Str}(M:Mk w h ps m){r:Hm}{a b:Nat}(hb:r[b]? = some (.lst ((aJ w h "lufr").map PP))) (K:r[a]? = some (.dT (aM (bI m) ps)))(n:Int)(hn:0<=n/\n<2147483647){e:Int×Int}(he:e∈aJ w h "lufr") (Q:Fl×aH×Hm->Prop)
  (H:∀ g u y8 G o,Mk w h g u->(∀ l,l<=a->r.take l <+: o)->r.length<=o.length->(∀ c,c<r.length->c≠a->o[c]? = r[c]?)->o[a]? = some (.dT (aM (bI u) g))->Q (.nx,[x0,x1,x2,some (.loc b),some (.loc a),x5,some (.int n),some (PP e),y8,G],o)) :
  W (QF (k+2) [x0,x1,x2,some (.loc b),some (.loc a),x5,some (.int n),some (PP e),x8,x9] r) Q:=by
 have hal:a<r.length:=(SN.mp K).1
 simp only [dE,cH,aT,aE,aG,aV,Qb,yY]
 cases decide (n % 9<7) with
 | true=>
  simp only [if_true,k4,aT,aE,aG,aV]
  rw [gU (by decide) (by decide),EW]
  obtain ⟨s,ok,O⟩:=zS (i:=n / 2003 % 3) (by omega)
  rw [O,W_some]
  refine zT hw.2 N.2 M K he ok _ fun g u M'=>H g u _ _ _ M' (fun l T=>?_) (by simp) (fun c _ hc=>by rw [UJ (UM hc)]) (gG K)
  rw [<- a0O (a:=C.dT (aM (bI u) g)) T]
  exact a1F _ _
 | false=>
  simp only [S9,if_false]
  rw [aZ,bL]
  have hE:=(EV he).2
  refine kZ (xs:=(aJ w h "lufr").map PP) (p:=fun d=>(a9 (bX d).1 (bX d).2 == a9 e.1 e.2)&&((gZ (bX d).1 (bX d).2 == gZ e.1 e.2)&&true)) (v:=fun d=>d) ?_
  simp only [gD,aE,aG]
  refine (gE hb).mpr ⟨oJ hb,rfl,?_,fun d o hd A=>?_,fun d o hd _ A=>?_,fun o A L=>?_⟩
  ·have:=tZ (w:=w) (h:=h) hw.2 N.2 "lufr"
   rw [SQ,T3];omega
  ·obtain ⟨q,B,rfl⟩:=Ts.mp hd
   simp only [TR,Ug,cH,aT,bF,aQ,aO,aE,aG]
   refine ET k q (EV B).2 _ _ fun μ2 p2=>?_
   refine ET k e hE _ _ fun μ3 p3=>?_
   rw [Qz]
   exact ⟨rfl,p2.trans p3⟩
  ·simp only [TR,Ug,aE,aG]
   exact ⟨trivial,Uk _⟩
  ·simp only [SY,S1]
   have x:∀ d∈(((aJ w h "lufr").map PP).filter fun d=>(a9 (bX d).1 (bX d).2 == a9 e.1 e.2)&&((gZ (bX d).1 (bX d).2 == gZ e.1 e.2)&&true)).map (fun d=>d),∃ q∈aJ w h "lufr",d=PP q:=fun d hd=>by
    rw [a0m] at hd
    obtain ⟨q,B,rfl⟩:=Ts.mp (T4.mp hd).1
    exact ⟨q,B,rfl⟩
   have z:((((aJ w h "lufr").map PP).filter fun d=>(a9 (bX d).1 (bX d).2 == a9 e.1 e.2)&&((gZ (bX d).1 (bX d).2 == gZ e.1 e.2)&&true)).map (fun d=>d)).length<=529:=by
    rw [SQ]
    refine TQ (UA _ _) ?_
    rw [SQ]
    exact tZ hw.2 N.2 _
   generalize (((aJ w h "lufr").map PP).filter fun d=>(a9 (bX d).1 (bX d).2 == a9 e.1 e.2)&&((gZ (bX d).1 (bX d).2 == gZ e.1 e.2)&&true)).map (fun d=>d)=row at L x z
   have U:=(SN.mp L).1
   simp only [fN,qI (j:=0),aQ,aO,bF,aE,aG]
   refine (mR L).mpr ⟨by omega,?_⟩
   rw [UE]
   refine mQ (lo:=0) (fun i y p=>∃ G g u,y=[x0,x1,x2,some (.loc b),some (.loc a),x5,some (.int n),some (PP e),some (.loc r.length),G]/\Mk w h g u/\(∀ l,l<=a->r.take l <+: p)/\r.length<p.length/\(∀ c,c<p.length->c≠a->p[c]? = o[c]?)/\p[a]? = some (.dT (aM (bI u) g)))
    ⟨x9,ps,m,rfl,M,fun l _=>(a1F _ _).trans A,U,fun _ _ _=>rfl,aS A K⟩ ?_ ?_
   ·rintro i y p hi ⟨G,g,u,rfl,M1,Z,X,c1,I⟩
    refine ⟨_,rfl,?_⟩
    simp only [SY,S1,k4,aT,aE,aG,aV,tS]
    rw [gU (by decide) (by decide)]
    rw [jR (.inr (by omega)),eI,EW]
    obtain ⟨s,ok,O⟩:=zS (i:=(n / 2003+(0+(i:Int)) * (n % 2)) % 3) ⟨VW _ (by decide),Vb _ (by decide)⟩
    rw [O,W_some]
    have E:row[i]? = some row[i]:=SO hi
    obtain ⟨q,B,eq⟩:=x _ (Vo hi)
    rw [eq] at E
    have gr:p[r.length]? = some (.lst row):=by rw [c1 _ X (by omega)];exact L
    refine (iU gr (oR (by omega) (by rw [show (0+(i:Int)).toNat=i by omega];exact E))).mpr ?_
    refine zT hw.2 N.2 M1 I B ok _ fun Y m2 M2=>?_
    refine ⟨_,Y,m2,rfl,M2,fun l T=>?_,by simpa using X,fun c hc v=>?_,gG I⟩
    ·obtain ⟨t,ht⟩:=Z l T
     rw [<- ht]
     refine (List.prefix_iff_getElem?).mpr fun j R=>?_
     have hjl:j<l:=by rw [Tu] at R;omega
     rw [UJ (by omega),S7 R,SO R]
    ·rw [Wj] at hc
     rw [UJ (UM v)]
     exact c1 c hc v
   ·rintro y p ⟨G,g,u,rfl,M1,Z,X,c1,I⟩
    refine H g u _ _ p M1 Z (by omega) (fun c hc v=>?_) I
    rw [c1 c (by omega) v]
    obtain ⟨t,rfl⟩:=A
    exact S7 hc
theorem QK (k:Nat){w h:Int}(hw:1<=w/\w<=6)(A:1<=h/\h<=6){ns:List Int}(hl:ns.length<=63){s:Hm}{c:Nat}(hc:s[c]? = some (.lst (ns.map D.int)))(Q:D×Hm->Prop)
  (H:∀ a l m d,s <+: d->s.length<=a->Mk w h l m->d[a]? = some (.dT (aM (bI m) l))->Q (.loc a,d)):W (f (k+3) "_law_creases" [.int w,.int h,.loc c] s) Q:=by
 rw [PZ,cD,aZ]
 simp only [bL,bF,aQ,aO,aE,aG,aV]
 refine zK k w h "lufr" hw A _ _ fun b g u R lb=>?_
 simp only [SY,S1]
 rw [aZ]
 simp only [bL,qJ,SY,S1]
 rw [aZ]
 have hcl:c<s.length:=(SN.mp hc).1
 have hbl:b<g.length:=(SN.mp R).1
 have q1:=mP u
 have y:=aS (u.trans (bC g (C.dT []))) hc
 have hE:=QD hw A
 simp only [fN,qI (j:=0),aQ,aO,bF,aE,aG]
 refine (mR y).mpr ?_
 rw [SQ]
 refine ⟨by omega,?_⟩
 rw [UE]
 refine mQ (lo:=0) (fun i p d=>∃ G I K L N l m,p=[some (.int w),some (.int h),some (.loc c),some (.loc b),some (.loc g.length),G,I,K,L,N]/\Mk w h l m/\g <+: d/\d[g.length]? = some (.dT (aM (bI m) l)))
  ⟨_,_,_,_,_,[],fun _=>"h",rfl,⟨XX,(fun _ z=>nomatch z),fun _=>.inr (.inr rfl)⟩,bC _ _,bM _ _⟩ ?_ ?_
 ·rintro i p d hi ⟨G,I,K,L,N,l,m,rfl,M,r,x⟩
  refine ⟨_,rfl,?_⟩
  simp only [SY,S1]
  rw [aZ]
  simp only [bL,aT,aE,aG,aV]
  have q:ns[i]? = some ns[i]:=SO hi
  generalize ns[i]=v at q
  refine (iU (aS (u.trans r) hc) (d:=.int v) (oR (by omega) (by rw [show (0+(i:Int)).toNat=i by omega,Tx,q];rfl))).mpr ?_
  rw [jR (.inr (by decide)),jR (.inl (by omega)),jR (.inr (by decide)),eI,eI,dJ (by decide)]
  have X:=VW (v * 48271+(0+(i:Int)) * (0+(i:Int)) * 40693+7919) (show (2147483647:Int)≠0 by decide)
  have Y:=Vb (v * 48271+(0+(i:Int)) * (0+(i:Int)) * 40693+7919) (show (0:Int)<2147483647 by decide)
  generalize (v * 48271+(0+(i:Int)) * (0+(i:Int)) * 40693+7919) % 2147483647=n0 at X Y
  simp only [SY,S1]
  rw [aZ]
  simp only [bL,aT,aE,aG,aV]
  rw [jR (.inl (by omega)),dJ (by decide)]
  have O:=VW (n0 * n0) (show (2147483563:Int)≠0 by decide)
  have Z:=Vb (n0 * n0) (show (0:Int)<2147483563 by decide)
  generalize n0 * n0 % 2147483563=n at O Z
  simp only [SY,S1]
  rw [aZ]
  simp only [bL,aT,aE,aG,aV,Qa,bF,aQ,aO]
  have o:=aS r R
  refine (mR o).mpr ?_
  rw [SQ,dJ (by omega)]
  have U:=VW (n / 9) (show ((aJ w h "lufr").length:Int)≠0 by omega)
  have j1:=Vb (n / 9) (show (0:Int)<((aJ w h "lufr").length:Int) by omega)
  generalize n / 9 % ((aJ w h "lufr").length:Int)=j at U j1
  have B:(aJ w h "lufr")[j.toNat]? = some (aJ w h "lufr")[j.toNat]:=SO (by omega)
  have T:=Th B
  generalize (aJ w h "lufr")[j.toNat]=e at B T
  refine (iU o (d:=PP e) (oR U (by rw [Tx,B];rfl))).mpr ?_
  simp only [SY,S1]
  refine QH k hw A M o x n ⟨O,by omega⟩ T _ fun E m' y8 y9 μ2 M2 t2 l2 c2 g3=>?_
  refine ⟨_,_,_,_,_,E,m',rfl,M2,?_,g3⟩
  have:=t2 g.length (SX _)
  rwa [<- List.prefix_iff_eq_take.mp r] at this
 ·rintro p d ⟨G,I,K,L,N,l,m,rfl,M,r,x⟩
  simp only [b8,aE,aG]
  exact H _ l m _ (u.trans r) q1 M x
noncomputable def One (s:Str):Prop:=∃ c:Nat,s=⟨#[c]⟩/\c≠10
noncomputable def EX (s:Str):Nat:=s.cps.toList.headD 0
theorem One.is {s:Str}(h:One s):s=⟨#[EX s]⟩/\EX s≠10:=by
 obtain ⟨c,rfl,h⟩:=h
 exact ⟨rfl,h⟩
theorem One.len {s:Str}(h:One s):s.length=1:=by
 obtain ⟨c,rfl,_⟩:=h
 rfl
theorem QL {ps:List (Int×Int)}(h:(ps.map aR).Pairwise fun x y=>HT.lexLt y x=false):srt ps=ps:=by
 have e:(srt ps).map aR=ps.map aR:=XW (le:=fun x y=>HT.lexLt y x=false) (fun a b _ _ c d=>(zN b a c d).symm) (zQ ps) h ((gY ps).map _)
 have inj:∀ {a b:List (Int×Int)},a.map aR=b.map aR->a=b:=fun {a}=>by
  induction a with
  | nil=>intro b h;cases b with
   | nil=>rfl
   | cons=>cases h
  | cons x a g=>intro b h;cases b with
   | nil=>cases h
   | cons y b=>
    rw [S5,S5] at h
    injection h with c d
    rw [k5 c,g d]
 exact inj e
theorem t4 {a C:MS}{ρ c:aH}{d b:Hm}{Q:D×Hm->Prop}(h:a ρ d=some (.nx,c,b))(k:W (fin (C c b)) Q):W (fin (aK a C ρ d)) Q:=by
 unfold aK
 rw [h]
 exact k
theorem t6 {i:Nat}{m:ME}{ρ:aH}{b a:Hm}{d:D}(h:m ρ b=some (d,a)):aX i m ρ b=some (.nx,ρ.set i (some d),a):=by
 unfold aX
 rw [h]
 rfl
theorem EY {a:Type}{o:Option a}{r:a}(h:∀ Q:a->Prop,W o Q↔Q r):o=some r:=by
 obtain ⟨_,e,b⟩:=(h fun x=>x=r).mpr rfl
 rw [e,b]
theorem QM (k:Nat)(w h x y:Int)(a:Hm)(Q:D×Hm->Prop):W (f (k+1) "is_within" [.int w,.int h,P x y] a) Q↔Q (.bl (decide ((0<x/\x<4 * w)/\0<y/\y<4 * h)),a):=by
 rw [PH,cD]
 simp only [b8,tK,Pw,aE,aG,aV,aT,kY,jT,mS,yY]
 by_cases b:0<x<;>by_cases c:x<4 * w<;>by_cases d:0<y<;>by_cases e:y<4 * h<;>simp [b,c,d,e]
theorem EZ {a b c:D}{d:Hm}{Q:D×Hm->Prop}:W (aN (.tup [a,b,c]) (.int 0) d) Q↔Q (a,d):=W_some
theorem E4 {a b c:D}{d:Hm}{Q:D×Hm->Prop}:W (aN (.tup [a,b,c]) (.int 1) d) Q↔Q (b,d):=W_some
theorem QN {a b c:D}{d:Hm}{Q:D×Hm->Prop}:W (aN (.tup [a,b,c]) (.int 2) d) Q↔Q (c,d):=W_some
theorem E6:∀ a:List ((Int×Int)×Str),n8 (a.map MD)=some (a.map fun m=>(aR m.1,D.str m.2))
 | []=>rfl
 | m::a=>by
  rw [S5,S5]
  show (dC (PP m.1)).bind (fun k=>(n8 (a.map MD)).map fun l=>(k,D.str m.2)::l)=_
  rw [E6 a]
  rfl
theorem E7 (v:Int×Int->D):∀ (l ps:List (Int×Int)),(ps++l).Nodup->(l.map fun p=>(aR p,v p)).foldl (fun q p=>cZ q p.1 p.2) (aM v ps)=aM v (ps++l)
 | [],ps,_=>by rw [Uh];rfl
 | p::l,ps,nd=>by
  have a:p∉ps:=fun h=>by
   rw [VT] at nd
   exact nd.2.2 p h p (Td ..) rfl
  rw [S5,a1V]
  dsimp only
  rw [tX a,E7 v l (ps++[p]) (by rw [Tc];exact nd),Tc]
  rfl
theorem QR {m:Int×Int->Str}{ps:List (Int×Int)}(b:ps.Nodup){a:Hm}{Q:D×Hm->Prop}:W (mH [.tup ((iV m ps).map MD)] a) Q↔Q (.loc a.length,a++[.dT (aM (bI m) ps)]):=by
 have e:mH [.tup ((iV m ps).map MD)] a=some (.loc a.length,a++[.dT (aM (bI m) ps)]):=by
  simp only [mH,E6,T9]
  have:=E7 (bI m) ps [] (by simpa using b)
  rw [Ug] at this
  rw [<- this]
  unfold iV
  rw [TM]
  rfl
 rw [e]
 exact W_some
theorem Fb {b:Type} [DecidableEq b]:∀ {l t:List b},l.Nodup->t.Nodup->(∀ x,x∈l↔x∈t)->l.Perm t
 | [],t,_,_,h=>by
  cases t with
  | nil=>exact .nil
  | cons y t=>exact absurd ((h y).mpr (Td ..)) (by simp)
 | x::l,t,n1,n2,h=>by
  rw [TX] at n1
  have c:x∈t:=(h x).mp (Td ..)
  refine YS (List.Perm.cons x (Fb n1.2 (n2.erase x) fun y=>?_)) (List.perm_cons_erase c).symm
  rw [n2.mem_erase_iff]
  constructor
  ·intro a
   exact ⟨fun e=>n1.1 (e ▸ a),(h y).mp (S3 _ a)⟩
  ·rintro ⟨e,a⟩
   rcases To.mp ((h y).mpr a) with z|z
   ·exact absurd z e
   ·exact z
theorem QU:∀ w∈[(1:Int),2,3,4,5,6],∀ h∈[(1:Int),2,3,4,5,6],qO (((cJ w h).filter gF).map aR)=true:=by decide +kernel
theorem QV {w h:Int}(hw:1<=w/\w<=6)(a:1<=h/\h<=6):((aJ w h "lufr").map aR).Pairwise fun x y=>HT.lexLt x y=true:=by
 rw [qM]
 exact zO (QU w (dM hw) h (dM a))
theorem QX {w h:Int}(hw:1<=w/\w<=6)(a:1<=h/\h<=6):(aJ w h "lufr").Nodup:=by
 have:=QV hw a
 rw [TZ] at this
 exact this.imp fun {x y} h e=>by
  rw [e,kN] at h
  exact TC h
theorem Mk.srt {w h:Int}{ps:List (Int×Int)}{m:Int×Int->Str}(M:Mk w h ps m):Mk w h (srt ps) m:=M.perm (gY ps)
theorem QY {m:ME}{ρ:aH}{b:Hm}{a:Nat}{mk:Int×Int->Str}{ps:List (Int×Int)}(h:b[a]? = some (.dT (aM (bI mk) ps)))(c:∀ Q:D×Hm->Prop,W (m ρ b) Q↔Q (.loc a,b)){Q:D×Hm->Prop}:W (oC m ρ b) Q↔Q (.tup ((iV mk (srt ps)).map MD),b):=by
 have e:sN (.loc a) b=some (.tup ((iV mk (srt ps)).map MD),b):=by
  simp only [sN,h]
  rw [if_pos trivial,EL,Qv]
  unfold aM
  rw [TM]
  rfl
 unfold oC
 rw [W_bind,c]
 dsimp only
 rw [e]
 exact W_some
noncomputable def jU (x y:Int):List (Int×Int):=[(x - 1,y),(x,y - 1),(x,y+1),(x+1,y)]
noncomputable def d4 (x y:Int)(s:Str):List (Int×Int):=(jU x y).filter fun p=>bK (a9 p.1 p.2) s
theorem Fc (x y:Int):bK (a9 x y) "q" = true↔(x % 2=1/\y % 4=2)\/(x % 4=2/\y % 2=1):=by
 rw [zF,kQ]
 by_cases h:x % 2=1
 ·rw [if_pos h,beq_iff_eq];omega
 ·rw [if_neg h,S0,beq_iff_eq,beq_iff_eq];omega
theorem oS (x y:Int):bK (a9 x y) "lufr" = true↔(x % 2=1/\y % 2=1)\/(x % 2=0/\y % 2=0/\x % 4≠y % 4):=by
 rw [kE]
 by_cases h:x % 2=1
 ·rw [if_pos h,beq_iff_eq];omega
 ·rw [if_neg h,S0,beq_iff_eq,Ws,beq_eq_false_iff_ne];omega
noncomputable def fQ (w h:Int)(e:Int×Int):Prop:=(0<e.1/\e.1<4 * w)/\0<e.2/\e.2<4 * h
noncomputable def eK (q e:Int×Int):Int×Int:=if e.1 % 2=1 then (if e.1 % 4=e.2 % 4 then (q.2+(e.1 - e.2),q.1 - (e.1 - e.2)) else (e.1+e.2 - q.2,e.1+e.2 - q.1)) else if e.2 % 4=0 then (q.1,2 * e.2 - q.2) else (2 * e.1 - q.1,q.2)
theorem mem_near {p e:Int×Int}{s:Str}:e∈d4 p.1 p.2 s↔(e=(p.1 - 1,p.2)\/e=(p.1,p.2 - 1)\/e=(p.1,p.2+1)\/e=(p.1+1,p.2))/\bK (a9 e.1 e.2) s=true:=by
 unfold d4 jU
 rw [T4]
 simp only [To,List.not_mem_nil,or_false]
theorem pr_eq {p:Int×Int}{a b:Int}:p=(a,b)↔p.1=a/\p.2=b:=by
 obtain ⟨x,y⟩:=p
 simp
theorem Fd {p e:Int×Int}(h:e=(p.1 - 1,p.2)\/e=(p.1,p.2 - 1)\/e=(p.1,p.2+1)\/e=(p.1+1,p.2)):p=(e.1 - 1,e.2)\/p=(e.1,e.2 - 1)\/p=(e.1,e.2+1)\/p=(e.1+1,e.2):=by
 rcases h with rfl|rfl|rfl|rfl
 ·exact .inr (.inr (.inr (pr_eq.mpr ⟨(X0 ..).symm,rfl⟩)))
 ·exact .inr (.inr (.inl (pr_eq.mpr ⟨rfl,(X0 ..).symm⟩)))
 ·exact .inr (.inl (pr_eq.mpr ⟨rfl,(YT ..).symm⟩))
 ·exact .inl (pr_eq.mpr ⟨(YT ..).symm,rfl⟩)
theorem bes_sym {p e:Int×Int}:(e=(p.1 - 1,p.2)\/e=(p.1,p.2 - 1)\/e=(p.1,p.2+1)\/e=(p.1+1,p.2))↔(p=(e.1 - 1,e.2)\/p=(e.1,e.2 - 1)\/p=(e.1,e.2+1)\/p=(e.1+1,e.2)):=⟨Fd,Fd⟩
noncomputable def jV (r c:Int)(s:Str):List (Int×Int):=[((-1:Int),(0:Int)),(0,-1),(0,1),(1,0)].filter fun d=>bK (dS ((r+d.1) % 4) ((c+d.2) % 4)) s
theorem zU (x y:Int)(s:Str):d4 x y s=(jV (x % 4) (y % 4) s).map fun d=>(x+d.1,y+d.2):=by
 have e:jU x y=[((-1:Int),(0:Int)),(0,-1),(0,1),(1,0)].map fun d=>(x+d.1,y+d.2):=by
  simp only [jU,S5,Wb,UL]
  rfl
 unfold d4 jV
 rw [e,WM]
 congr 1
 refine W7 fun d _=>?_
 show bK (dS ((x+d.1) % 4) ((y+d.2) % 4)) s=_
 rw [Wt,Wt]
noncomputable def mW (r c:Int)(d:Int×Int):Int×Int:=if (r+d.1) % 4 % 2=1 then (if (r+d.1) % 4=(c+d.2) % 4 then (d.1 - d.2,d.2 - d.1) else (d.1+d.2,d.1+d.2)) else if (c+d.2) % 4=0 then (0,2 * d.2) else (2 * d.1,0)
theorem QZ (x y:Int)(d:Int×Int):eK (x,y) (x+d.1,y+d.2)=(x+(mW (x % 4) (y % 4) d).1,y+(mW (x % 4) (y % 4) d).2):=by
 unfold eK mW
 dsimp only
 rw [Wt,Wt,<- gW]
 have a:y+(x+d.1 - (y+d.2))=x+(d.1 - d.2):=by omega
 have b:x - (x+d.1 - (y+d.2))=y+(d.2 - d.1):=by omega
 have c:x+d.1+(y+d.2) - y=x+(d.1+d.2):=by omega
 have e:x+d.1+(y+d.2) - x=y+(d.1+d.2):=by omega
 have g:2 * (y+d.2) - y=y+2 * d.2:=by omega
 have h:2 * (x+d.1) - x=x+2 * d.1:=by omega
 rw [a,b,c,e,g,h]
 split
 ·split<;>rfl
 ·split
  ·rw [UL]
  ·rw [UL]
theorem Q0:∀ r∈[(0:Int),1,2,3],∀ c∈[(0:Int),1,2,3],bK (dS r c) "q" = true->∀ d∈jV r c "lufr",((jV ((r+d.1) % 4) ((c+d.2) % 4) "q").all fun b=>decide ((d.1+b.1,d.2+b.2)=(0,0))||decide ((d.1+b.1,d.2+b.2)=mW r c d))=true /\
  (jV ((r+d.1) % 4) ((c+d.2) % 4) "q").contains (-d.1,-d.2)=true/\(jV ((r+d.1) % 4) ((c+d.2) % 4) "q").contains ((mW r c d).1 - d.1,(mW r c d).2 - d.2)=true:=by decide +kernel
theorem t7 (x:Int):x % 4∈[(0:Int),1,2,3]:=by
 rcases oO x with h|h|h|h<;>rw [h]<;>decide
theorem Fe {q e:Int×Int}(j:bK (a9 q.1 q.2) "q" = true) (h:e∈d4 q.1 q.2 "lufr") {p:Int×Int}:p∈d4 e.1 e.2 "q"↔p=q\/p=eK q e:=by
 obtain ⟨x,y⟩:=q
 rw [zU] at h
 obtain ⟨d,hd,rfl⟩:=Ts.mp h
 obtain ⟨a,g,c⟩:=Q0 _ (t7 x) _ (t7 y) j d hd
 dsimp only
 rw [QZ,zU,Ts,<- Wt x 4,<- Wt y 4]
 generalize mW (x % 4) (y % 4) d=o at a c
 generalize jV ((x % 4+d.1) % 4) ((y % 4+d.2) % 4) "q" = L at a g c
 constructor
 ·rintro ⟨b,i,rfl⟩
  have:=Vp.mp a b i
  rw [WO,decide_eq_true_iff,decide_eq_true_iff] at this
  rcases this with z|z
  ·injection z with z1 z2
   left
   rw [Wm,Wm,z1,z2,UL,UL]
  ·right
   rw [Wm,Wm,<- z]
 ·rintro (rfl|rfl)
  ·refine ⟨_,a0y.mp g,?_⟩
   rw [Wm,Wm,a1K,a1K,UL,UL]
  ·refine ⟨_,a0y.mp c,?_⟩
   rw [Wm,Wm,a3c d.1,a3c d.2,X0,X0]
theorem Q1 {w h:Int}{p:Int×Int}:p∈cJ w h↔fQ w h p:=by
 refine ⟨EU,fun ⟨a,b⟩=>?_⟩
 unfold cJ eJ fC
 refine Yd.mpr ⟨(p.1 - 1).toNat,TV.mpr (by omega),Ts.mpr ⟨(p.2 - 1).toNat,TV.mpr (by omega),?_⟩⟩
 obtain ⟨x,y⟩:=p
 dsimp only at a b ⊢
 rw [Vd]
 omega
theorem mem_partI {w h:Int}{s:Str}{p:Int×Int}:p∈aJ w h s↔fQ w h p/\bK (a9 p.1 p.2) s=true:=by
 unfold aJ
 rw [T4,Q1]
section
variable (w h:Int)(ps:List (Int×Int))
noncomputable def St (p q:Int×Int):Prop:=∃ e,e∈d4 p.1 p.2 "lufr"/\fQ w h e/\e∉ps/\q∈d4 e.1 e.2 "q"
inductive Rc (s:Int×Int):Int×Int->Prop
 | refl:Rc s s
 | step {p q:Int×Int}:Rc s p->St w h ps p q->Rc s q
end
section
variable {w h:Int}{ps:List (Int×Int)}{s p q r:Int×Int}
theorem Ff {x y:Int}(c:bK (a9 x y) "q" = true):x % 4≠0/\y % 4≠0:=by
 rcases (Fc x y).mp c with ⟨a,b⟩|⟨a,b⟩
 ·exact ⟨fun z=>by rw [gW,z] at a;exact absurd a (by decide),fun z=>by rw [z] at b;exact absurd b (by decide)⟩
 ·exact ⟨fun z=>by rw [z] at a;exact absurd a (by decide),fun z=>by rw [gW,z] at b;exact absurd b (by decide)⟩
theorem k8 {u v w:Int}(h:0<u/\u<4 * w)(a:v % 4≠0)(e:v=u - 1\/v=u\/v=u+1):0<v/\v<4 * w:=by
 rcases e with rfl|rfl|rfl
 ·omega
 ·exact h
 ·omega
theorem St.in (a:St w h ps p q):q∈aJ w h "q":=by
 obtain ⟨e,_,⟨b,c⟩,_,d⟩:=a
 rw [mem_near] at d
 rw [mem_partI]
 refine ⟨?_,d.2⟩
 have g:=Ff d.2
 rcases d.1 with rfl|rfl|rfl|rfl
 ·exact ⟨k8 b g.1 (.inl rfl),c⟩
 ·exact ⟨b,k8 c g.2 (.inl rfl)⟩
 ·exact ⟨b,k8 c g.2 (.inr (.inr rfl))⟩
 ·exact ⟨k8 b g.1 (.inr (.inr rfl)),c⟩
theorem St.symm (i:p∈aJ w h "q") (a:St w h ps p q):St w h ps q p:=by
 obtain ⟨e,b,d,g,c⟩:=a
 rw [mem_near] at b c
 refine ⟨e,mem_near.mpr ⟨bes_sym.mp c.1,b.2⟩,d,g,mem_near.mpr ⟨bes_sym.mp b.1,(mem_partI.mp i).2⟩⟩
theorem Rc.trans (a:Rc w h ps s p)(b:Rc w h ps p q):Rc w h ps s q:=by
 induction b with
 | refl=>exact a
 | step _ c d=>exact d.step c
theorem Rc.in (b:s∈aJ w h "q") (a:Rc w h ps s p):p∈aJ w h "q":=by
 cases a with
 | refl=>exact b
 | step _ c=>exact c.in
theorem Rc.symm (b:s∈aJ w h "q") (a:Rc w h ps s p):Rc w h ps p s:=by
 induction a with
 | refl=>exact .refl
 | step a c d=>exact (Rc.step .refl (c.symm (a.in b))).trans d
theorem Q2 {F:List (Int×Int)}(b:s∈F)(hc:∀ x∈F,∀ y,St w h ps x y->y∈F)(a:Rc w h ps s p):p∈F:=by
 induction a with
 | refl=>exact b
 | step _ c d=>exact hc _ d _ c
theorem Fg:∀ w∈[(1:Int),2,3,4,5,6],∀ h∈[(1:Int),2,3,4,5,6],qO (((cJ w h).filter qL).map aR)=true/\((cJ w h).filter qL).length<=144:=by decide +kernel
theorem Fh (hw:1<=w/\w<=6)(a:1<=h/\h<=6):((aJ w h "q").map aR).Pairwise fun x y=>HT.lexLt x y=true:=by
 rw [zM]
 exact zO (Fg w (dM hw) h (dM a)).1
theorem zV (hw:1<=w/\w<=6)(a:1<=h/\h<=6):(aJ w h "q").length<=144:=by
 rw [zM]
 exact (Fg w (dM hw) h (dM a)).2
theorem Fj {l:List (Int×Int)}(u:(l.map aR).Pairwise fun x y=>HT.lexLt x y=true):l.Nodup:=by
 rw [TZ] at u
 exact u.imp fun {x y} h e=>by
  rw [e,kN] at h
  exact TC h
theorem Q3 {l:List (Int×Int)}(u:(l.map aR).Pairwise fun x y=>HT.lexLt x y=true):srt l=l:=QL (u.imp fun h1=>Qr h1)
theorem Fm (hw:1<=w/\w<=6)(a:1<=h/\h<=6):(aJ w h "q").Nodup:=Fj (Fh hw a)
noncomputable def k9 (w h:Int)(ps:List (Int×Int))(s p:Int×Int):Bool:=@decide (Rc w h ps s p) (X1 _)
theorem rcB_iff:k9 w h ps s p=true↔Rc w h ps s p:=by
 unfold k9
 exact @decide_eq_true_iff _ (X1 _)
noncomputable def cW (w h:Int)(ps:List (Int×Int))(s:Int×Int):List (Int×Int):=(aJ w h "q").filter (k9 w h ps s)
theorem Fo (a:s∈aJ w h "q"):p∈cW w h ps s↔Rc w h ps s p:=by
 unfold cW
 rw [T4,rcB_iff]
 exact ⟨fun h=>h.2,fun h=>⟨h.in a,h⟩⟩
theorem Fp (hw:1<=w/\w<=6)(a:1<=h/\h<=6)(s:Int×Int):((cW w h ps s).map aR).Pairwise fun x y=>HT.lexLt x y=true:=
 (Fh hw a).sublist (WH.map aR)
theorem Q4 (hw:1<=w/\w<=6)(a:1<=h/\h<=6)(s:Int×Int):(cW w h ps s).length<=144:=TQ (UA _ _) (zV hw a)
theorem Q5 (hw:1<=w/\w<=6)(c:1<=h/\h<=6)(d:s∈aJ w h "q") {F:List (Int×Int)}(e:F.Nodup)(b:∀ x∈F,Rc w h ps s x)(a:s∈F)(hc:∀ x∈F,∀ y,St w h ps x y->y∈F):F.Perm (cW w h ps s):=
 Fb e (Fj (Fp hw c s)) fun x=>by
  rw [Fo d]
  exact ⟨b x,Q2 a hc⟩
theorem Q6 (hw:1<=w/\w<=6)(a:1<=h/\h<=6){F:List (Int×Int)}(p:F.Perm (cW w h ps s)):srt F=cW w h ps s:=by
 rw [srt_eq.mpr p,Q3 (Fp hw a s)]
noncomputable def iW (w h:Int)(ps:List (Int×Int))(s:Int×Int):Bool:=(cW w h ps s).head? == some s
noncomputable def fR (w h:Int)(ps:List (Int×Int))(n:Nat):List (Int×Int):=((aJ w h "q").take n).filter (iW w h ps)
theorem zW (hw:1<=w/\w<=6)(n:1<=h/\h<=6){i:Nat}(c:(aJ w h "q")[i]? = some s):iW w h ps s=true↔∀ p∈(aJ w h "q").take i,¬ Rc w h ps p s:=by
 have x:s∈aJ w h "q":=Th c
 obtain ⟨o,m⟩:=SN.mp c
 have A:cW w h ps s=((aJ w h "q").take i).filter (k9 w h ps s)++s::((aJ w h "q").drop (i+1)).filter (k9 w h ps s):=by
  unfold cW
  conv=>lhs;rw [<- TK i (aJ w h "q"),UZ o,m]
  rw [We,V4,if_pos (rcB_iff.mpr .refl)]
 unfold iW
 rw [beq_iff_eq,A]
 constructor
 ·intro e p g a
  have d:p∈aJ w h "q":=VU g
  have:p∈((aJ w h "q").take i).filter (k9 w h ps s):=T4.mpr ⟨g,rcB_iff.mpr (a.symm d)⟩
  cases b:((aJ w h "q").take i).filter (k9 w h ps s) with
  | nil=>rw [b] at this;cases this
  | cons y B=>
   rw [b,TR,List.head?_cons] at e
   have l:y=s:=TL e
   have j:y∈(aJ w h "q").take i:=(T4.mp (by rw [b];exact Td ..)).1
   rw [l] at j
   exact Qt (Fm hw n) c j
 ·intro u
  have:((aJ w h "q").take i).filter (k9 w h ps s)=[]:=by
   rw [List.filter_eq_nil_iff]
   intro q v z
   exact u q v ((rcB_iff.mp z).symm x)
  rw [this,Ug]
  rfl
theorem Fq {i:Nat}(a:(aJ w h "q")[i]? = some s):fR w h ps (i+1)=fR w h ps i++(if iW w h ps s=true then [s] else []):=by
 unfold fR
 rw [mU a,We,V4]
 rfl
end
noncomputable def Mz (F U:List (Int×Int)):Nat:=2 * (144 - F.length)+U.length
structure Go (w h:Int)(ps:List (Int×Int))(s:Int×Int)(F U X:List (Int×Int)):Prop where
 nd:F.Nodup
 s0:s∈F
 rc:∀ x∈F,Rc w h ps s x
 sub:∀ x∈U,x∈F
 cl:∀ x∈F,x∉U->x∉X->∀ y,St w h ps x y->y∈F
section
variable {w h:Int}{ps:List (Int×Int)}{s y z:Int×Int}{F U X:List (Int×Int)}
theorem Go.start:Go w h ps s [s] [s] []:=⟨by simp,by simp,fun x a=>by rw [Tq.mp a];exact .refl,fun x a=>a,fun x a b=>absurd a b⟩
theorem Go.len (G:Go w h ps s F U X)(hw:1<=w/\w<=6)(a:1<=h/\h<=6)(b:s∈aJ w h "q"):F.length<=144:=
 TQ (oQ G.nd fun x c=>(G.rc x c).in b) (zV hw a)
theorem Go.push (G:Go w h ps s F U X)(m:y∉F)(n:Rc w h ps s y):Go w h ps s (F++[y]) (U++[y]) X:=by
 refine ⟨VT.mpr ⟨G.nd,by simp,fun a j b g e=>?_⟩,by simp [G.s0],fun x c=>?_,fun x c=>?_,fun x c d i t l=>?_⟩
 ·rw [Tq] at g
  exact m (by rw [<- g,<- e];exact j)
 ·rcases Tf.mp c with c|c
  ·exact G.rc x c
  ·rw [Tq.mp c];exact n
 ·rcases Tf.mp c with c|c
  ·exact Uv _ (G.sub x c)
  ·exact T5 _ c
 ·rw [Tf,not_or] at d
  rcases Tf.mp c with c|c
  ·exact Uv _ (G.cl x c d.1 i t l)
  ·exact absurd c d.2
theorem Go.less (G:Go w h ps s F U X)(hw:1<=w/\w<=6)(a:1<=h/\h<=6)(b:s∈aJ w h "q") (c:y∉F)(d:Rc w h ps s y):Mz (F++[y]) (U++[y])<=Mz F U:=by
 have:=(G.push c d).len hw a b
 unfold Mz
 simp only [SV,Ti,UO] at this ⊢
 omega
theorem Go.pop (G:Go w h ps s F (U++[z]) []):Go w h ps s F U [z]/\z∈F:=
 ⟨⟨G.nd,G.s0,G.rc,fun x a=>G.sub x (Uv _ a),fun x a c b=>G.cl x a (fun m=>(Tf.mp m).elim c b) (by simp)⟩,G.sub z (by simp)⟩
theorem Go.done (G:Go w h ps s F U [z])(hz:∀ t,St w h ps z t->t∈F):Go w h ps s F U []:=
 ⟨G.nd,G.s0,G.rc,G.sub,fun x c b _ t a=>by
  by_cases e:x=z
  ·rw [e] at a;exact hz t a
  ·exact G.cl x c b (fun m=>e (Tq.mp m)) t a⟩
theorem Go.fin (G:Go w h ps s F [] [])(hw:1<=w/\w<=6)(a:1<=h/\h<=6)(b:s∈aJ w h "q"):F.Perm (cW w h ps s):=
 Q5 hw a b G.nd G.rc G.s0 fun x c=>G.cl x c (by simp) (by simp)
structure Hd (μ0 μ:Hm)(a b:Nat)(F U:List (Int×Int)):Prop where
 pre:μ0 <+: μ
 la:μ0.length<=a
 lb:μ0.length<=b
 ne:a≠b
 dic:μ[a]? = some (.dT (aM (fun _=>.bl true) F))
 due:μ[b]? = some (.lst (U.map PP))
theorem Hd.more {μ0 d c:Hm}{a b:Nat}(I:Hd μ0 d a b F U)(p:d <+: c):Hd μ0 c a b F U:=⟨I.pre.trans p,I.la,I.lb,I.ne,aS p I.dic,aS p I.due⟩
theorem iX {b:Hm}{a n:Nat}(h:n≠a)(c:C):(b.set a c)[n]? = b[n]?:=UJ (UM h)
theorem t8 {b:Hm}{a:Nat}{v:Int×Int->D}{F:List (Int×Int)}(d:F.Nodup)(c:b[a]? = some (.dT (aM v F)))(y:Int×Int){Q:D×Hm->Prop}:W (cB true (PP y) (.loc a) b) Q↔Q (.bl (!decide (y∈F)),b):=by
 rw [Px c (gX y)]
 by_cases h:y∈F
 ·rw [mV d h,decide_eq_true h];rfl
 ·rw [zP h,decide_eq_false h];rfl
theorem Q7 {i ia ib:Nat}{ρ:aH}{μ0 e:Hm}{a b:Nat}(g:ρ[i]? = some (some (PP y)))(j:ρ[ia]? = some (some (.loc a)))(q:ρ[ib]? = some (some (.loc b)))(I:Hd μ0 e a b F U)(r:F.Nodup)(u:F.length<=144)(hd:U.length<=300)(Q:Fl×aH×Hm->Prop)
  (l:y∈F->Q (.nx,ρ,e))(m:y∉F->∀ d,Hd μ0 d a b (F++[y]) (U++[y])->(∀ n,n≠a->n≠b->d[n]? = e[n]?)->Q (.nx,ρ,d)) :
  W (bT (aU (aB (cB true) (aA i) (aA ia))) (aK (dD (aA ia) (aA i) (mC (.bl true))) (gO (f9 kJ (aA ib) (aC (aA i) aD)))) bS ρ e) Q:=by
 simp only [dE,cH,aT]
 rw [oP g,oP j,t8 r I.dic]
 dsimp only
 by_cases h:y∈F
 ·rw [decide_eq_true h,if_neg (by decide),dQ]
  exact l h
 ·rw [decide_eq_false h,U6,if_pos rfl,aZ]
  simp only [k4,aV]
  rw [oP j,oP g]
  refine (oM I.dic (gX y) (by rw [SQ,T3];omega)).mpr ?_
  rw [tX (v:=fun _=>.bl true) h]
  rw [tI]
  refine tO ?_
  rw [oP q]
  have c:(e.set a (.dT (aM (fun _=>D.bl true) (F++[y]))))[b]? = some (.lst (U.map PP)):=by rw [iX (UM I.ne)];exact I.due
  refine ⟨tP c,?_⟩
  simp only [aQ,aO]
  rw [oP g]
  refine (EE c (by rw [SQ,T3];omega)).mpr ?_
  refine m h _ ⟨fM (fM I.pre I.la _) I.lb _,I.la,I.lb,I.ne,?_,?_⟩ fun n o p=>by rw [iX p,iX o]
  ·rw [iX I.ne,gG I.dic]
  ·rw [gG c,UN];rfl
end
theorem Q8 (k:Nat)(p:Int×Int)(a:Hm)(Q:D×Hm->Prop):W (f (k+1) "beside" [PP p] a) Q↔Q (.loc a.length,a++[.lst ((jU p.1 p.2).map PP)]):=by
 have e:f (k+1) "beside" [PP p] a=some (.loc a.length,a++[.lst ((jU p.1 p.2).map PP)]):=by
  rw [PC]
  rfl
 rw [e]
 exact W_some
theorem Q9 (k:Nat)(p:Int×Int)(c:Hm)(Q:D×Hm->Prop)(H:∀ a b,c <+: b->b[a]? = some (.lst ((d4 p.1 p.2 "lufr").map PP))->Q (.loc a,b)):W (f (k+2) "edges_of" [PP p] c) Q:=by
 rw [PD,cD]
 simp only [b8]
 have g:(c++[C.lst ((jU p.1 p.2).map PP)])[c.length]? = some (.lst ((jU p.1 p.2).map PP)):=bM _ _
 refine kZ (xs:=(jU p.1 p.2).map PP) (p:=fun d=>bK (a9 (bX d).1 (bX d).2) "lufr") (v:=fun d=>d) ?_
 simp only [gD,bF,aQ,aO,aE,Q8]
 refine (gE g).mpr ?_
 refine ⟨oJ g,by rfl,by show (4:Nat)<=S8;decide,?_,?_,?_⟩
 ·intro d b hd e
  obtain ⟨u,v,rfl⟩:=tU hd
  simp only [TR,Ug,tJ,bF,aQ,aO,aE,aG,Qe,dR]
  exact ⟨rfl,Uk _⟩
 ·intro d b hd _ e
  simp only [TR,Ug,aE,aG]
  exact ⟨trivial,Uk _⟩
 ·intro b e h
  refine H _ _ ((bC _ _).trans e) ?_
  rw [h,EJ fun p=>bK (a9 p.1 p.2) "lufr"]
  rfl
theorem Ra (k:Nat)(e:Int×Int)(c:Hm):(e.1 % 2=1->e.1 % 4=e.2 % 4->f (k+1) "line_of" [PP e] c=some (.str "falling",c))/\(e.1 % 2=1->e.1 % 4≠e.2 % 4->f (k+1) "line_of" [PP e] c=some (.str "rising",c))/\(e.1 % 2≠1->e.2 % 4=0->f (k+1) "line_of" [PP e] c=some (.str "level",c))/\(e.1 % 2≠1->e.2 % 4≠0->f (k+1) "line_of" [PP e] c=some (.str "upright",c)):=by
 have d:∀ (Q:D×Hm->Prop),W (f (k+1) "line_of" [PP e] c) Q↔Q (.str (if e.1 % 2=1 then (if e.1 % 4=e.2 % 4 then "falling" else "rising") else if e.2 % 4=0 then "level" else "upright"),c):=fun Q=>by
  rw [PB,cD]
  simp only [aZ,dE,cH,aT,aE,aV,PP,P,kY,jT,tS,oN,jS,beq_iff_eq]
  by_cases b:e.1 % 2=1
  ·simp only [b,if_true,b8,Et,cH,aT,aE,aV,kY,jT,oN,jS,beq_iff_eq]
   by_cases a:e.1 % 4=e.2 % 4
   ·simp only [if_pos a,aV]
   ·simp only [if_neg a,aV]
  ·simp only [if_neg b,dQ,b8,Et,cH,aT,aE,aV,jT,oN,jS,beq_iff_eq]
   by_cases a:e.2 % 4=0
   ·simp only [if_pos a,aV]
   ·simp only [if_neg a,aV]
 have:=EY d
 refine ⟨fun b a=>?_,fun b a=>?_,fun b a=>?_,fun b a=>?_⟩
 ·rw [this,if_pos b,if_pos a]
 ·rw [this,if_pos b,if_neg a]
 ·rw [this,if_neg b,if_pos a]
 ·rw [this,if_neg b,if_neg a]
noncomputable def qP:MS:=aK (bT (aU (aB (bE false) (aA 4) (mC (.str "level")))) (bB (bW (aC (aA 2) (aC (aB cA (aB bZ (mC (.int 2)) (aA 5)) (aA 3)) aD)))) bS) (aK (bT (aU (aB (bE false) (aA 4) (mC (.str "upright")))) (bB (bW (aC (aB cA (aB bZ (mC (.int 2)) (aA 5)) (aA 2)) (aC (aA 3) aD)))) bS) (aK (bT (aU (aB (bE false) (aA 4) (mC (.str "falling")))) (bB (bW (aC (aB bV (aA 3) (aA 5)) (aC (aB cA (aA 2) (aA 5)) aD)))) bS) (bB (bW (aC (aB cA (aA 5) (aA 3)) (aC (aB cA (aA 5) (aA 2)) aD))))))
theorem t9 (k:Nat)(q e:Int×Int)(a:Hm){b:Str}{n:Int}{r:Int×Int}(h1:f (k+1) "line_of" [PP e] a=some (.str b,a)) (c:f (k+1) "number_by" [.str b,PP e] a=some (.int n,a)) (d:∀ Q:D×Hm->Prop,W (fin (qP [some (PP q),some (PP e),some (.int q.1),some (.int q.2),some (.str b),some (.int n)] a)) Q↔Q (PP r,a))(Q:D×Hm->Prop)(H:Q (PP r,a)):W (f (k+2) "mirrored" [PP q,PP e] a) Q:=by
 rw [PF]
 exact t4 (t6 rfl) (t4 (t6 rfl) (t4 (t6 h1) (t4 (t6 c) ((d Q).mpr H))))
theorem Rb (k:Nat)(q e:Int×Int)(a:Hm)(Q:D×Hm->Prop)(H:Q (PP (eK q e),a)):W (f (k+2) "mirrored" [PP q,PP e] a) Q:=by
 obtain ⟨d,g,h,i⟩:=Ra k e a
 unfold eK at H
 have j:∀ z:Int,bZ (.int 2) (.int z) a=some (.int (2 * z),a):=fun z=>EY fun Q=>zC
 by_cases c:e.1 % 2=1
 ·rw [if_pos c] at H
  by_cases b:e.1 % 4=e.2 % 4
  ·rw [if_pos b] at H
   exact t9 k q e a (n:=e.1 - e.2) (d c b) (by rw [tR];rfl) (fun Q=>by rw [show qP [some (PP q),some (PP e),some (.int q.1),some (.int q.2),some (.str "falling"),some (.int (e.1 - e.2))] a=some (.rt (PP (q.2+(e.1 - e.2),q.1 - (e.1 - e.2))),[some (PP q),some (PP e),some (.int q.1),some (.int q.2),some (.str "falling"),some (.int (e.1 - e.2))],a) from by kernel_rfl];exact W_some) Q H
  ·rw [if_neg b] at H
   exact t9 k q e a (n:=e.1+e.2) (g c b) (by rw [tR];rfl) (fun Q=>by rw [show qP [some (PP q),some (PP e),some (.int q.1),some (.int q.2),some (.str "rising"),some (.int (e.1+e.2))] a=some (.rt (PP (e.1+e.2 - q.2,e.1+e.2 - q.1)),[some (PP q),some (PP e),some (.int q.1),some (.int q.2),some (.str "rising"),some (.int (e.1+e.2))],a) from by kernel_rfl];exact W_some) Q H
 ·rw [if_neg c] at H
  by_cases b:e.2 % 4=0
  ·rw [if_pos b] at H
   exact t9 k q e a (n:=e.2) (h c b) (by rw [tR];rfl) (fun Q=>by
    unfold qP
    simp only [cD,aZ,dE,cH,aT,aE,aG,aV,Ew,beq_self_eq_true,if_true,b8,gC,aQ,aO,zC,jQ,fP,true_and]) Q H
  ·rw [if_neg b] at H
   exact t9 k q e a (n:=e.1) (i c b) (by rw [tR];rfl) (fun Q=>by
    unfold qP
    simp only [cD,aZ,dE,cH,aT,aE,aG,aV,Ew,show (("upright":Str) == "level")=false by decide +kernel,S9,if_false,dQ,beq_self_eq_true,if_true,b8,gC,aQ,aO,zC,jQ,fP,true_and]) Q H
noncomputable def mX (w h:Int)(q:Int×Int):List (Int×Int):=(d4 q.1 q.2 "lufr").filter fun e=>decide ((0<e.1/\e.1<4 * w)/\0<e.2/\e.2<4 * h)
noncomputable def NB (q e:Int×Int):D:=.tup [PP e,PP (eK q e)]
theorem Rf (x y:Int)(s:Str):(d4 x y s).length<=4:=UA _ _
theorem Rg (k:Nat)(w h:Int)(q:Int×Int)(g:Hm)(Q:D×Hm->Prop)(H:∀ a c,g <+: c->g.length<=a->c[a]? = some (.lst ((mX w h q).map (NB q)))->Q (.loc a,c)):W (f (k+3) "neighbours_in" [.int w,.int h,PP q] g) Q:=by
 rw [PL,cD]
 simp only [b8]
 refine kZ (xs:=(d4 q.1 q.2 "lufr").map PP) (p:=fun d=>decide ((0<(bX d).1/\(bX d).1<4 * w)/\0<(bX d).2/\(bX d).2<4 * h)) (v:=fun d=>NB q (bX d)) ?_
 simp only [gD,bF,aQ,aO,aE,aG]
 refine Q9 k q _ _ fun b m j i=>?_
 refine (gE i).mpr ⟨oJ i,rfl,by rw [SQ,T3];have:=Rf q.1 q.2 "lufr";omega,?_,?_,?_⟩
 ·intro d c hd e
  obtain ⟨u,v,rfl⟩:=tU hd
  simp only [TR,Ug,tJ,bF,aQ,aO,aE,aG,QM,dR]
  exact ⟨rfl,Uk _⟩
 ·intro d c hd _ e
  obtain ⟨u,v,rfl⟩:=tU hd
  simp only [TR,Ug,gC,bF,aQ,aO,aE,aG]
  exact Rb (k+0) q (u,v) _ _ ⟨fP,rfl,Uk _⟩
 ·intro c e l
  refine H _ _ (j.trans e) (mP j) ?_
  rw [l]
  unfold mX
  rw [WM,TM]
  rfl
theorem Rh {b:Hm}{a:Nat}{xs:List D}{Q:Bool->Prop}(h:b[a]? = some (.lst xs)):W (kK b (.loc a)) Q↔Q (!xs.isEmpty):=by
 simp only [kK,h]
 exact W_some
theorem Ri {b:Hm}{a:Nat}{xs:List D}{y:D}{Q:D×Hm->Prop}(h:b[a]? = some (.lst (xs++[y]))):W (lZ (.loc a) [] b) Q↔Q (y,b.set a (.lst xs)):=by
 have:lZ (.loc a) [] b=some (y,b.set a (.lst xs)):=by
  simp only [lZ,h]
  simp
 rw [this]
 exact W_some
theorem Rj {i:Nat}{y:D}{ρ:aH}{a:Hm}{x:D}{k:List Int}{Q:D×Hm->Prop}(h:ρ[i]? = some (some x))(b:dC x=some k):W (n9 (aA i) (mC y) ρ a) Q↔Q (.loc a.length,a++[.dT [(k,y)]]):=by
 have:n9 (aA i) (mC y) ρ a=some (.loc a.length,a++[.dT [(k,y)]]):=by
  unfold n9 aA mC
  simp only [h,T1,bM,b,T9,Qo]
 rw [this]
 exact W_some
theorem Rk {c:MT}{b:MS}{Q:Fl×aH×Hm->Prop}(I:Nat->aH->Hm->Prop)
  (u:∀ m ρ e,I m ρ e->W (c ρ e) fun p=>if p.1=true then W (b ρ p.2) fun q=>match q.1 with
   | .nx=>∃ a,a<m/\I a q.2.1 q.2.2
   | .ct=>∃ a,a<m/\I a q.2.1 q.2.2
   | .bk=>Q (.nx,q.2.1,q.2.2)
   | .rt d=>Q (.rt d,q.2.1,q.2.2) else Q (.nx,ρ,p.2)):∀ (n m:Nat)(ρ:aH)(e:Hm),m<n->I m ρ e->W (l7 c b n ρ e) Q:=by
 intro n
 induction n with
 | zero=>intro m ρ e h;omega
 | succ n l=>
  intro m ρ e z s
  unfold l7
  rw [W_bind]
  refine bQ (u m ρ e s) fun p j=>?_
  obtain ⟨v,w⟩:=p
  cases v with
  | false=>exact W_some.mpr (by simpa using j)
  | true=>
   simp only [if_true] at j
   dsimp only
   rw [W_bind]
   refine bQ j fun q g=>?_
   obtain ⟨o,y,x⟩:=q
   cases o with
   | nx=>obtain ⟨a,r,i⟩:=g;exact l a _ _ (by omega) i
   | ct=>obtain ⟨a,r,i⟩:=g;exact l a _ _ (by omega) i
   | bk=>exact W_some.mpr g
   | rt d=>exact W_some.mpr g
theorem Fs {c:MT}{b:MS}{ρ:aH}{a:Hm}{Q:Fl×aH×Hm->Prop}(I:Nat->aH->Hm->Prop)(m:Nat)(h:m<1000000000)(g:I m ρ a)
  (i:∀ m ρ a,I m ρ a->W (c ρ a) fun p=>if p.1=true then W (b ρ p.2) fun q=>match q.1 with
   | .nx=>∃ e,e<m/\I e q.2.1 q.2.2
   | .ct=>∃ e,e<m/\I e q.2.1 q.2.2
   | .bk=>Q (.nx,q.2.1,q.2.2)
   | .rt d=>Q (.rt d,q.2.1,q.2.2) else Q (.nx,ρ,p.2)):W (nQ oG c b ρ a) Q:=by
 unfold nQ
 exact Rk I i oG m ρ a (by unfold oG;exact h) g
theorem Rl {q:Int×Int}{es:List (Int×Int)}{i:Nat}{d:D}(h:(es.map (NB q))[i]? = some d):∃ e,es[i]? = some e/\d=NB q e:=by
 rw [Tx] at h
 obtain ⟨e,a,b⟩:=SS.mp h
 exact ⟨e,a,b.symm⟩
theorem mem_nbE {w h:Int}{q e:Int×Int}:e∈mX w h q↔e∈d4 q.1 q.2 "lufr"/\fQ w h e:=by
 unfold mX fQ
 rw [T4,decide_eq_true_iff]
theorem Ft {b:Hm}{a:Nat}{v:Int×Int->D}{ps:List (Int×Int)}{Q:D×Hm->Prop}(h:b[a]? = some (.dT (aM v ps))):W (kU [.loc a] b) Q↔Q (.loc b.length,b++[.lst ((srt ps).map PP)]):=by
 have e:kU [.loc a] b=some (.loc b.length,b++[.lst ((srt ps).map PP)]):=by
  simp only [kU,h]
  rw [if_pos (fun p c=>by
   obtain ⟨q,_,rfl⟩:=Ts.mp c
   simp [aR]),EL]
  unfold aM
  rw [TM]
  rfl
 rw [e]
 exact W_some
noncomputable abbrev RF (w h:Int)(T:D)(c:Nat)(s:Int×Int)(a:Nat)(b d e:Option D):aH:=[some (.tup [.int w,.int h,T]),some (.loc c),some (PP s),some (.loc a),some (.loc (a+1)),b,d,e]
noncomputable abbrev Rm (w h:Int)(ps:List (Int×Int))(s:Int×Int)(T:D)(c:Nat)(a:Hm)(m:Nat)(ρ:aH)(b:Hm):Prop:=∃ F U,m=Mz F U/\m<=287/\Go w h ps s F U []/\Hd a b a.length (a.length+1) F U/\∃ d e g,ρ=RF w h T c s a.length d e g
noncomputable abbrev Fu (w h:Int)(ps:List (Int×Int))(s:Int×Int)(T:D)(c:Nat)(i:Hm)(a:Int×Int)(m b j:Nat)(ρ:aH)(g:Hm):Prop:=∃ d l,Mz d l<=m/\Go w h ps s d l [a]/\Hd i g i.length (i.length+1) d l/\g[b]? = some (.lst ((mX w h a).map (NB a)))/\(∀ e∈(mX w h a).take j,e∉ps->eK a e∈d)/\a∈d/\∃ n o,ρ=RF w h T c s i.length (some (PP a)) n o
theorem Ro (k:Nat){w h:Int}(hw:1<=w/\w<=6)(hh:1<=h/\h<=6){T:D}{v:Int×Int->D}{ps:List (Int×Int)}(np:ps.Nodup){l:Hm}{c:Nat}(hc:l[c]? = some (.dT (aM v ps))){s:Int×Int}(hs:s∈aJ w h "q") (Q:D×Hm->Prop)
  (H:∀ a p,l <+: p->l.length<=a->p[a]? = some (.lst ((cW w h ps s).map PP))->Q (.loc a,p)):W (f (k+4) "face_with" [.tup [.int w,.int h,T],.loc c,PP s] l) Q:=by
 rw [PN,cD,aZ,bL]
 rw [Rj (x:=PP s) rfl (gX s)]
 simp only [SY,S1]
 rw [aZ]
 simp only [bL,eH,aQ,aO,aE,aG]
 refine ⟨by show (1:Nat)<=S8;decide,?_⟩
 simp only [SY,S1]
 rw [aZ]
 have hI:Hd l (l++[C.dT [(aR s,D.bl true)]]++[C.lst [PP s]]) l.length (l.length+1) [s] [s]:=by
  refine ⟨(bC _ _).trans (bC _ _),SX _,Zo _,by omega,aS (bC _ _) (bM _ _),?_⟩
  have:=bM (l++[C.dT [(aR s,D.bl true)]]) (C.lst [PP s])
  rw [SV] at this
  exact this
 have el:(l++[C.dT [(aR s,D.bl true)]]).length=l.length+1:=SV
 rw [el]
 generalize l++[C.dT [(aR s,D.bl true)]]++[C.lst [PP s]]=μ1 at hI
 refine Fs (Rm w h ps s T c l) 287 (by decide) ⟨[s],[s],rfl,SX _,.start,hI,none,none,none,rfl⟩ ?_
 rintro m ρ X ⟨F,U,rfl,hm,G,I,o5,o6,o7,rfl⟩
 simp only [tJ,aE,aG]
 refine (Rh I.due).mpr ?_
 rcases Yo U with rfl|⟨o,i,rfl⟩
 ·rw [if_neg (by simp)]
  simp only [b8,bF,aQ,aO,aE,aG]
  rw [Ft I.dic,Q6 hw hh (G.fin hw hh hs)]
  exact H _ _ (I.pre.trans (bC _ _)) (mP I.pre) (bM _ _)
 ·rw [if_pos (by simp),aZ,bL]
  rw [Yp] at G I hm ⊢
  refine tO ?_
  simp only [aE,aG]
  refine ⟨tP I.due,?_⟩
  simp only [aO]
  have y:=I.due
  rw [UN] at y
  refine (Ri y).mpr ?_
  obtain ⟨G1,hz⟩:=G.pop
  have I1:Hd l (X.set (l.length+1) (.lst (o.map PP))) l.length (l.length+1) F o:=⟨fM I.pre I.lb _,I.la,I.lb,I.ne,by rw [iX I.ne];exact I.dic,gG y⟩
  have m1:Mz F o+1=Mz F (o++[i]):=by unfold Mz;rw [SV];rfl
  have rh:=G.rc i hz
  have hq:=(mem_partI.mp (rh.in hs)).2
  generalize X.set (l.length+1) (.lst (o.map PP))=μ3 at I1
  simp only [SY,S1,fN,gD,bF,aQ,aO,aT,aV,aE,aG,EZ,E4]
  refine Rg k w h i _ _ fun b μ4 p4 l4 g4=>?_
  refine (gE g4).mpr ?_
  have lb:l.length+1<b:=by
   have:l.length+1<μ3.length:=(SN.mp I1.due).1
   omega
  refine oI (Fu w h ps s T c l i (Mz F o) b)
   ⟨F,o,SX _,G1,I1.more p4,g4,(fun e he=>by simp at he),hz,o6,o7,rfl⟩ (fun j ρ p ⟨_,_,_,_,_,g,_⟩=>g) ?_ ?_
  ·rintro j d ρ μ5 hd ⟨K,Y,R,q,E,Z,hn,B,o6,o7,rfl⟩
   obtain ⟨e,he,rfl⟩:=Rl hd
   refine ⟨RF w h T c s l.length (some (PP i)) (some (PP e)) (some (PP (eK i e))),rfl,?_⟩
   have A:=mem_nbE.mp (Th he)
   have tk:=mU he
   have fin:∀ {u L:List (Int×Int)}{n:Hm},Mz u L<=Mz F o->Go w h ps s u L [i]->Hd l n l.length (l.length+1) u L->n[b]? = some (.lst ((mX w h i).map (NB i)))->(∀ x∈K,x∈u)->(e∉ps->eK i e∈u)->
     Fu w h ps s T c l i (Mz F o) b (j+1) (RF w h T c s l.length (some (PP i)) (some (PP e)) (some (PP (eK i e)))) n:=
    fun {u L n} a1 a2 a3 a4 a5 a6=>⟨u,L,a1,a2,a3,a4,fun e' M r=>by
     rw [tk] at M
     rcases Tf.mp M with z|z
     ·exact a5 _ (hn e' z r)
     ·rw [Tq.mp z] at r ⊢
      exact a6 r,a5 _ B,_,_,rfl⟩
   have hcm:=aS E.pre hc
   simp only [dE,Pj,cH,aT,aE,aG]
   rw [t8 np hcm]
   by_cases r:e∈ps
   ·rw [decide_eq_true r]
    simp only [US,S9,if_false,dQ]
    exact fin R q E Z (fun x N=>N) fun z=>absurd r z
   ·rw [decide_eq_false r]
    simp only [U6,if_true]
    have ml:=TQ (Nat.le_add_left _ _) (show 2 * (144 - K.length)+Y.length<=Mz F o from R)
    have st:St w h ps i (eK i e):=⟨e,A.1,A.2,r,(Fe hq A.1).mpr (.inr rfl)⟩
    have pw:=Q7 (i:=7) (ia:=3) (ib:=4) (ρ:=RF w h T c s l.length (some (PP i)) (some (PP e)) (some (PP (eK i e)))) (y:=eK i e) rfl rfl rfl E q.nd (q.len hw hh hs) (by omega)
    simp only [dE,cH,aT,aE,aG] at pw
    refine pw _ (fun hy=>?_) fun hy n I6 O=>?_
    ·exact fin R q E Z (fun x N=>N) fun _=>hy
    ·exact fin (TQ (q.less hw hh hs hy (rh.step st)) R) (q.push hy (rh.step st)) I6 (by rw [O b (by omega) (by omega)];exact Z) (fun x N=>Uv _ N) fun _=>by simp
  ·rintro ρ μ5 ⟨K,Y,R,q,E,Z,hn,B,o6',o7',rfl⟩
   rw [SQ,Xi] at hn
   refine ⟨Mz K Y,by omega,K,Y,rfl,by omega,q.done fun t ⟨e,h1,h2,h3,h4⟩=>?_,E,_,_,_,rfl⟩
   rcases (Fe hq h1).mp h4 with rfl|rfl
   ·exact B
   ·exact hn e (mem_nbE.mpr ⟨h1,h2⟩) h3
noncomputable def FA (a:Hm)(lo t:Nat)(c:List (List (Int×Int))):Prop:=lo<=t/\∃ bs:List Nat,a[t]? = some (.lst (bs.map D.loc))/\V6 (fun b L=>t<b/\a[b]? = some (.lst (L.map PP))) bs c
theorem FA.more {c a:Hm}{lo t:Nat}{b:List (List (Int×Int))}(h:FA c lo t b)(p:c <+: a):FA a lo t b:=by
 obtain ⟨l,bs,d,e⟩:=h
 exact ⟨l,bs,aS p d,V6.mapP e fun _ _ z=>⟨z.1,aS p z.2⟩⟩
structure FcI (w h:Int)(ps:List (Int×Int))(μ0 μ:Hm)(i:Nat)(K:List (Int×Int))(bs:List Nat):Prop where
 pre:μ0 <+: μ
 tl:μ[μ0.length]? = some (.lst (bs.map D.loc))
 sn:μ[μ0.length+1]? = some (.dT (aM (fun _=>.bl true) K))
 nd:K.Nodup
 mem:∀ p,p∈K↔∃ x∈(aJ w h "q").take i,Rc w h ps x p
 at_:V6 (fun b l=>μ0.length+1<b/\μ[b]? = some (.lst ((cW w h ps l).map PP))) bs (fR w h ps i)
theorem Rq (c:D){K:List (Int×Int)}(a:K.Nodup)(p:Int×Int):cZ (aM (fun _=>c) K) (aR p) c=aM (fun _=>c) (if p∈K then K else K++[p]):=by
 by_cases h:p∈K
 ·rw [if_pos h]
  unfold cZ
  rw [mV a h,XS,if_pos rfl]
  unfold aM
  rw [TM]
  refine UP fun q _=>?_
  show (if aR q=aR p then (aR q,c) else (aR q,c))=_
  split<;>rfl
 ·rw [if_neg h]
  exact tX (v:=fun _=>c) h
theorem Rt {w A B E G O:Option D}{μ0 i:Hm}{d b:Nat}{K L:List (Int×Int)}(lo:μ0.length<=d)(Z:d<b)(v:μ0 <+: i)(hd:i[d]? = some (.dT (aM (fun _=>.bl true) K)))(R:i[b]? = some (.lst (L.map PP)))(Y:K.Nodup)(hl:K.length+L.length<=600)(Q:Fl×aH×Hm->Prop)
  (H:∀ c a o,μ0 <+: a->a[d]? = some (.dT (aM (fun _=>.bl true) c))->c.Nodup->(∀ p,p∈c↔p∈K\/p∈L)->(∀ n,n≠d->a[n]? = i[n]?)->Q (.nx,[w,A,B,some (.loc d),E,G,o],a)) :
  W (d7 (gR (.loc b)) (cT 6) (dD (aA 3) (aA 6) (mC (.bl true))) ((L.map PP).length+1) 0 [w,A,B,some (.loc d),E,G,O] i) Q:=by
 refine oI (fun j r a=>∃ c o,μ0 <+: a/\a[d]? = some (.dT (aM (fun _=>.bl true) c))/\c.Nodup/\(∀ p,p∈c↔p∈K\/p∈L.take j)/\c.length<=K.length+j/\(∀ n,n≠d->a[n]? = i[n]?)/\r=[w,A,B,some (.loc d),E,G,o])
  ⟨K,O,v,hd,Y,by simp,SX _,fun _ _=>rfl,rfl⟩ (fun j r a ⟨_,_,_,_,_,_,_,k,_⟩=>by rw [k b (by omega)];exact R) ?_ ?_
 ·rintro j e r a T ⟨c,o,u,m,l,g,X,s,rfl⟩
  obtain ⟨p,M,rfl⟩:=qN T
  refine ⟨_,rfl,?_⟩
  have hj:j<L.length:=(SN.mp M).1
  simp only [SY,S1,k4,aV,aE,aG]
  refine (oM m (gX p) (by rw [SQ,T3];omega)).mpr ?_
  rw [Rq (.bl true) l]
  refine ⟨_,_,fM u lo _,gG m,?_,fun q=>?_,?_,fun n I=>by rw [iX I];exact s n I,rfl⟩
  ·split
   ·exact l
   ·rename_i h
    refine VT.mpr ⟨l,by simp,fun x U y N z=>?_⟩
    rw [Tq] at N
    exact h (by rw [<- N,<- z];exact U)
  ·rw [mU M,Tf,Tq]
   split
   ·rename_i h
    rw [g]
    constructor
    ·rintro (z|z)
     ·exact .inl z
     ·exact .inr (.inl z)
    ·rintro (z|z|z)
     ·exact .inl z
     ·exact .inr z
     ·rw [z];exact (g p).mp h
   ·rw [Tf,Tq,g,or_assoc]
  ·split
   ·omega
   ·rw [SV,VL];omega
 ·rintro r a ⟨c,o,u,m,l,g,X,s,rfl⟩
  rw [SQ,Xi] at g
  exact H c a o u m l g s
theorem Ru {w h:Int}{ps qs:List (Int×Int)}(e:∀ x,x∈ps↔x∈qs){s p:Int×Int}:Rc w h ps s p↔Rc w h qs s p:=by
 constructor
 ·intro a
  induction a with
  | refl=>exact .refl
  | step _ c j=>exact j.step (let ⟨x,b,d,g,i⟩:=c;⟨x,b,d,fun z=>g ((e x).mpr z),i⟩)
 ·intro a
  induction a with
  | refl=>exact .refl
  | step _ c j=>exact j.step (let ⟨x,b,d,g,i⟩:=c;⟨x,b,d,fun z=>g ((e x).mp z),i⟩)
theorem Fv {w h:Int}{ps qs:List (Int×Int)}(e:∀ x,x∈ps↔x∈qs):cW w h ps=cW w h qs:=by
 funext s
 unfold cW
 refine W7 fun x _=>?_
 rw [a1Z,rcB_iff,rcB_iff]
 exact Ru e
theorem Rv {w h:Int}{ps qs:List (Int×Int)}(e:∀ x,x∈ps↔x∈qs):fR w h ps=fR w h qs:=by
 funext n
 unfold fR iW
 rw [Fv e]
theorem Rw (k:Nat){w h:Int}(hw:1<=w/\w<=6)(A:1<=h/\h<=6){m:Int×Int->Str}{ps:List (Int×Int)}(np:ps.Nodup)(u:Hm)(Q:D×Hm->Prop)
  (H:∀ t j,u <+: j->FA j u.length t ((fR w h ps (aJ w h "q").length).map (cW w h ps))->Q (.loc t,j)):W (f (k+5) "faces" [SH w h (iV m ps)] u) Q:=by
 rw [PQ,cD,aZ]
 simp only [bL,bF,aQ,aO,aE]
 rw [PM,cD]
 simp only [b8,bF,aQ,aO,aT,aE,aV,QN,QR np]
 simp only [SY,S1]
 have g0:(u++[C.dT (aM (bI m) ps)])[u.length]? = some (.dT (aM (bI m) ps)):=bM _ _
 have q0:u <+: u++[C.dT (aM (bI m) ps)]:=bC _ _
 generalize u++[C.dT (aM (bI m) ps)]=μ1 at g0 q0
 rw [aZ]
 simp only [bL,eH,aO]
 refine ⟨Um _,?_⟩
 simp only [SY,S1]
 rw [aZ]
 simp only [bL,qJ,SY,S1]
 have el:(μ1++[C.lst []]).length=μ1.length+1:=SV
 rw [el,aZ]
 simp only [fN,gD,bF,aQ,aO,aT,aV,aE,aG,EZ,E4]
 have gt:(μ1++[C.lst []]++[C.dT []])[μ1.length]? = some (.lst []):=aS (bC _ _) (bM _ _)
 have U:(μ1++[C.lst []]++[C.dT []])[μ1.length+1]? = some (.dT []):=by
  have:=bM (μ1++[C.lst []]) (C.dT [])
  rw [el] at this
  exact this
 have q1:μ1 <+: μ1++[C.lst []]++[C.dT []]:=(bC _ _).trans (bC _ _)
 generalize μ1++[C.lst []]++[C.dT []]=μ2 at gt U q1
 refine Qj (k+2) w h hw A _ _ fun b μ3 p3 g3 l3=>?_
 refine (gE g3).mpr ?_
 have lb:μ1.length+1<b:=by
  have h5:μ1.length+1<μ2.length:=(SN.mp U).1
  have h6:μ2.length<=b:=l3
  omega
 have lv:=zV hw A
 refine oI (fun i R j=>∃ K bs Z o5 o6,FcI w h ps μ1 j i K bs/\j[b]? = some (.lst ((aJ w h "q").map PP))/\R=[some (SH w h (iV m ps)),some (.loc u.length),some (.loc μ1.length),some (.loc (μ1.length+1)),Z,o5,o6])
  ⟨[],[],none,none,none,⟨q1.trans p3,aS p3 gt,aS p3 U,XX,fun p=>by simp,.nil⟩,g3,rfl⟩ (fun i R j ⟨_,_,_,_,_,_,g,_⟩=>g) ?_ ?_
 ·rintro i d R s hd ⟨K,bs,Z,o5,o6,I,T,rfl⟩
  obtain ⟨q,B,rfl⟩:=qN hd
  refine ⟨_,rfl,?_⟩
  have G:=Th B
  have lK:K.length<=144:=TQ (oQ I.nd fun p hp=>by
   obtain ⟨x,E,a⟩:=(I.mem p).mp hp
   exact a.in (VU E)) lv
  simp only [SY,S1,dE,cH,aT,aE,aG]
  rw [t8 I.nd I.sn]
  have ts:=mU B
  by_cases O:q∈K
  ·rw [decide_eq_true O]
   simp only [US,S9,if_false,dQ]
   obtain ⟨x,E,a⟩:=(I.mem q).mp O
   have nl:iW w h ps q=false:=by
    cases e:iW w h ps q with
    | false=>rfl
    | true=>exact absurd a ((zW hw A B).mp e x E)
   refine ⟨K,bs,_,_,_,⟨I.pre,I.tl,I.sn,I.nd,fun p=>?_,?_⟩,T,rfl⟩
   ·rw [I.mem,ts]
    constructor
    ·rintro ⟨y,c,z⟩
     exact ⟨y,Uv _ c,z⟩
    ·rintro ⟨y,c,z⟩
     rcases Tf.mp c with c|c
     ·exact ⟨y,c,z⟩
     ·rw [Tq.mp c] at z
      exact ⟨x,E,a.trans z⟩
   ·rw [Fq B,nl,if_neg (by decide),Uh]
    exact I.at_
  ·rw [decide_eq_false O]
   simp only [U6,if_true]
   have hl:iW w h ps q=true:=(zW hw A B).mpr fun x E a=>O ((I.mem q).mpr ⟨x,E,a⟩)
   rw [aZ]
   simp only [bL,bF,aQ,aO,aE,aG]
   refine Ro k hw A np (aS (I.pre) g0) G _ fun a N M l5 g5=>?_
   simp only [SY,S1]
   have v:=aS M I.tl
   have sn5:=aS M I.sn
   have X:μ1.length+1<a:=by
    have h5:μ1.length+1<s.length:=(SN.mp I.sn).1
    have h6:s.length<=a:=l5
    omega
   have bl:bs.length<=144:=by
    rw [Yy I.at_]
    exact TQ (UA _ _) (TQ (by rw [Tu];omega) lv)
   rw [aZ,tI]
   refine tO ?_
   simp only [aE,aG]
   refine ⟨tP v,?_⟩
   simp only [aQ,aO,aE,aG]
   refine (EE v (by rw [SQ,T3];omega)).mpr ?_
   rw [fN,gD]
   simp only [aE,aG]
   have g6:(N.set μ1.length (.lst (bs.map D.loc++[.loc a])))[a]? = some (.lst ((cW w h ps q).map PP)):=by rw [iX (by omega)];exact g5
   refine (gE g6).mpr ?_
   refine Rt (μ0:=μ1) (d:=μ1.length+1) (K:=K) (by omega) X (fM (I.pre.trans M) (SX _) _) (by rw [iX (by omega)];exact sn5) g6 I.nd (by have:=Q4 (ps:=ps) hw A q;omega) _ fun K' μ6 o p6 s6 n6 m6 k6=>?_
   have stay:∀ n,μ1.length+1<n->μ6[n]? = N[n]?:=fun n hn=>by rw [k6 n (by omega),iX (by omega)]
   refine ⟨K',bs++[a],_,_,_,⟨p6,?_,s6,n6,fun p=>?_,?_⟩,by rw [stay b lb];exact aS M T,rfl⟩
   ·rw [k6 _ (by omega),gG v,UN]
    rfl
   ·rw [m6,I.mem,Fo G,ts]
    constructor
    ·rintro (⟨y,c,z⟩|z)
     ·exact ⟨y,Uv _ c,z⟩
     ·exact ⟨q,by simp,z⟩
    ·rintro ⟨y,c,z⟩
     rcases Tf.mp c with c|c
     ·exact .inl ⟨y,c,z⟩
     ·rw [Tq.mp c] at z
      exact .inr z
   ·rw [Fq B,hl,if_pos rfl]
    refine Yn (V6.mapP I.at_ fun b' l z=>⟨z.1,by rw [stay b' z.1];exact aS M z.2⟩) ⟨X,?_⟩
    rw [stay a X]
    exact g5
 ·rintro R s ⟨K,bs,Z,o5,o6,I,T,rfl⟩
  rw [SQ] at I
  simp only [b8,aE,aG]
  refine H _ _ (q0.trans I.pre) ⟨mP q0,bs,I.tl,?_⟩
  have:∀ {xs:List Nat}{Y:List (Int×Int)},V6 (fun b l=>μ1.length+1<b/\s[b]? = some (.lst ((cW w h ps l).map PP))) xs Y->V6 (fun b L=>μ1.length<b/\s[b]? = some (.lst (L.map PP))) xs (Y.map (cW w h ps)):=by
   intro xs Y z
   induction z with
   | nil=>exact .nil
   | cons r _ ih=>exact .cons ⟨a1D r.1,r.2⟩ ih
  exact this I.at_
theorem Ry (k:Nat){w h:Int}(hw:1<=w/\w<=6)(c:1<=h/\h<=6){m:Int×Int->Str}{ps:List (Int×Int)}(d:ps.Nodup)(b:Hm)(Q:D×Hm->Prop)
  (H:∀ t a,b <+: a->FA a b.length t ((fR w h ps (aJ w h "q").length).map (cW w h ps))->Q (.loc t,a)):W (f (k+5) "faces" [SH w h (iV m (srt ps))] b) Q:=by
 refine Rw k hw c ((gY ps).nodup_iff.mpr d) b Q fun t a p z=>H t a p ?_
 have e:∀ x,x∈srt ps↔x∈ps:=fun x=>(gY ps).mem_iff
 rw [Rv e,Fv e] at z
 exact z
section
variable {w h:Int}{ps:List (Int×Int)}{l l' p q:Int×Int}
noncomputable def gH (w h:Int)(ps:List (Int×Int)):List (Int×Int):=fR w h ps (aJ w h "q").length
end
noncomputable def eM (P:Prop):Nat:=@ite Nat P (X1 P) 1 0
theorem g7 {P:Prop}(h:P):eM P=1:=by unfold eM;rw [if_pos h]
theorem jW {P:Prop}(h:¬ P):eM P=0:=by unfold eM;rw [if_neg h]
theorem uA:eM True=1:=g7 trivial
theorem zX:eM False=0:=jW id
section
variable {α:Type}
inductive Cn (E:α->α->Prop)(s:α):α->Prop
 | refl:Cn E s s
 | step {p q:α}:Cn E s p->(E p q\/E q p)->Cn E s q
theorem Cn.trans {E:α->α->Prop}{s p q:α}(a:Cn E s p)(b:Cn E p q):Cn E s q:=by
 induction b with
 | refl=>exact a
 | step _ c d=>exact d.step c
theorem Cn.symm {E:α->α->Prop}{s p:α}(a:Cn E s p):Cn E p s:=by
 induction a with
 | refl=>exact .refl
 | step a c b=>exact (Cn.step .refl c.symm).trans b
theorem Cn.mono {E F:α->α->Prop}(h:∀ x y,E x y->F x y){s p:α}(a:Cn E s p):Cn F s p:=by
 induction a with
 | refl=>exact .refl
 | step _ c b=>exact b.step (c.imp (h _ _) (h _ _))
theorem lA {E F:α->α->Prop}{a b:α}(h:∀ x y,F x y↔E x y\/(x=a/\y=b))(x y:α):Cn F x y↔Cn E x y\/(Cn E x a/\Cn E b y)\/(Cn E x b/\Cn E a y):=by
 have m:∀ {x y},Cn E x y->Cn F x y:=fun c=>c.mono fun x y e=>(h x y).mpr (.inl e)
 have l:Cn F a b:=.step .refl (.inl ((h a b).mpr (.inr ⟨rfl,rfl⟩)))
 constructor
 ·intro c
  induction c with
  | refl=>exact .inl .refl
  | step _ c g=>
   rename_i p q _
   have k:(E p q\/E q p)\/(p=a/\q=b)\/(p=b/\q=a):=by
    rcases c with c|c
    ·rcases (h _ _).mp c with c|⟨c,d⟩
     ·exact .inl (.inl c)
     ·exact .inr (.inl ⟨c,d⟩)
    ·rcases (h _ _).mp c with c|⟨c,d⟩
     ·exact .inl (.inr c)
     ·exact .inr (.inr ⟨d,c⟩)
   rcases k with k|⟨rfl,rfl⟩|⟨rfl,rfl⟩
   ·rcases g with i|⟨i,j⟩|⟨i,j⟩
    ·exact .inl (i.step k)
    ·exact .inr (.inl ⟨i,j.step k⟩)
    ·exact .inr (.inr ⟨i,j.step k⟩)
   ·rcases g with i|⟨i,j⟩|⟨i,j⟩
    ·exact .inr (.inl ⟨i,.refl⟩)
    ·exact .inl (i.trans j.symm)
    ·exact .inl i
   ·rcases g with i|⟨i,j⟩|⟨i,j⟩
    ·exact .inr (.inr ⟨i,.refl⟩)
    ·exact .inl i
    ·exact .inl (i.trans j.symm)
 ·rintro (c|⟨c,d⟩|⟨c,d⟩)
  ·exact m c
  ·exact ((m c).trans l).trans (m d)
  ·exact ((m c).trans l.symm).trans (m d)
noncomputable def cK (R:α->α->Prop):List α->Nat
 | []=>0
 | x::l=>cK R l+eM ¬ ∃ y∈l,R y x
theorem zY {R a:α->α->Prop}:∀ {l:List α},(∀ x∈l,∀ y∈l,R x y↔a x y)->cK R l=cK a l
 | [],_=>rfl
 | x::l,h=>by
  have e:(∃ y∈l,R y x)↔∃ y∈l,a y x:=exists_congr fun y=>and_congr_right fun b=>h y (S3 _ b) x (Td ..)
  unfold cK
  rw [zY fun x c y b=>h x (S3 _ c) y (S3 _ b)]
  rw [e]
theorem uB {R:α->α->Prop}:∀ {l:List α},l≠[]->1<=cK R l
 | [],h=>absurd rfl h
 | [x],_=>by simp [cK,uA]
 | x::y::l,_=>TQ (uB (l:=y::l) (by simp)) (Nat.le_add_right ..)
theorem Fw {R:α->α->Prop}:∀ {l:List α},(∀ x∈l,∀ y∈l,R x y)->cK R l<=1
 | [],_=>Um _
 | [x],_=>by simp [cK,uA]
 | x::y::l,h=>by
  have e:∃ z∈y::l,R z x:=⟨y,Td ..,h _ (by simp) _ (by simp)⟩
  unfold cK
  rw [jW fun n=>n e]
  exact Fw fun x a y b=>h x (S3 _ a) y (S3 _ b)
theorem zZ {R:α->α->Prop}:∀ {l:List α},l.Nodup->(∀ x∈l,∀ y∈l,R x y->x=y)->cK R l=l.length
 | [],_,_=>rfl
 | x::l,nd,h=>by
  rw [TX] at nd
  have e:¬ ∃ y∈l,R y x:=fun ⟨y,a,r⟩=>nd.1 (h y (S3 _ a) x (Td ..) r ▸ a)
  unfold cK
  rw [g7 e,zZ nd.2 fun x b y a=>h x (S3 _ b) y (S3 _ a)]
  rfl
theorem Fx {P:α->Prop}{x:α}{l:List α}:(∃ y∈x::l,P y)↔P x\/∃ y∈l,P y:=by
 constructor
 ·rintro ⟨y,a,c⟩
  rcases To.mp a with rfl|a
  ·exact .inl c
  ·exact .inr ⟨y,a,c⟩
 ·rintro (c|⟨y,a,c⟩)
  ·exact ⟨x,Td ..,c⟩
  ·exact ⟨y,S3 _ a,c⟩
theorem Fy {E F:α->α->Prop}{a b:α}(h:∀ x y,F x y↔E x y\/(x=a/\y=b))(n:¬ Cn E a b):∀ l:List α,cK (Cn E) l=cK (Cn F) l+eM ((∃ x∈l,Cn E x a)/\∃ x∈l,Cn E x b)
 | []=>by simp [cK,zX]
 | x::l=>by
  have q:=Fy h n l
  unfold cK
  have p:(∃ y∈l,Cn F y x)↔(∃ y∈l,Cn E y x)\/(Cn E x b/\∃ y∈l,Cn E y a)\/(Cn E x a/\∃ y∈l,Cn E y b):=by
   constructor
   ·rintro ⟨y,e,c⟩
    rcases (lA h y x).mp c with c|⟨c,d⟩|⟨c,d⟩
    ·exact .inl ⟨y,e,c⟩
    ·exact .inr (.inl ⟨d.symm,y,e,c⟩)
    ·exact .inr (.inr ⟨d.symm,y,e,c⟩)
   ·rintro (⟨y,e,c⟩|⟨d,y,e,c⟩|⟨d,y,e,c⟩)
    ·exact ⟨y,e,(lA h y x).mpr (.inl c)⟩
    ·exact ⟨y,e,(lA h y x).mpr (.inr (.inl ⟨c,d.symm⟩))⟩
    ·exact ⟨y,e,(lA h y x).mpr (.inr (.inr ⟨c,d.symm⟩))⟩
  have m:(∃ y∈x::l,Cn E y a)↔Cn E x a\/∃ y∈l,Cn E y a:=Fx
  have o:(∃ y∈x::l,Cn E y b)↔Cn E x b\/∃ y∈l,Cn E y b:=Fx
  rw [p,m,o,q]
  by_cases g:Cn E x a
  ·have i:¬ Cn E x b:=fun c=>n (g.symm.trans c)
   have j:(∃ y∈l,Cn E y x)↔∃ y∈l,Cn E y a:=⟨fun ⟨y,e,c⟩=>⟨y,e,c.trans g⟩,fun ⟨y,e,c⟩=>⟨y,e,c.trans g.symm⟩⟩
   rw [j]
   simp only [g,i,true_or,false_or,true_and,false_and]
   by_cases A:∃ y∈l,Cn E y a<;>by_cases B:∃ y∈l,Cn E y b<;>simp only [A,B,true_and,and_true,false_and,and_false,or_true,or_false,true_or,not_true,not_false_iff,uA,zX]<;>omega
  ·by_cases i:Cn E x b
   ·have j:(∃ y∈l,Cn E y x)↔∃ y∈l,Cn E y b:=⟨fun ⟨y,e,c⟩=>⟨y,e,c.trans i⟩,fun ⟨y,e,c⟩=>⟨y,e,c.trans i.symm⟩⟩
    rw [j]
    simp only [g,i,true_or,false_or,true_and,false_and]
    by_cases A:∃ y∈l,Cn E y a<;>by_cases B:∃ y∈l,Cn E y b<;>simp only [A,B,true_and,and_true,false_and,and_false,or_true,or_false,true_or,false_or,not_true,not_false_iff,uA,zX]<;>omega
   ·simp only [g,i,false_or,false_and,or_false]
    omega
theorem Fz {E F:α->α->Prop}{a b:α}(h:∀ x y,F x y↔E x y\/(x=a/\y=b)){l:List α}(e:a∈l)(g:b∈l):cK (Cn E) l=cK (Cn F) l+eM ¬ Cn E a b:=by
 by_cases n:Cn E a b
 ·rw [jW (fun m=>m n),Y9]
  refine zY fun x _ y _=>⟨fun c=>(lA h x y).mpr (.inl c),fun c=>?_⟩
  rcases (lA h x y).mp c with c|⟨c,d⟩|⟨c,d⟩
  ·exact c
  ·exact (c.trans n).trans d
  ·exact (c.trans n.symm).trans d
 ·rw [g7 n,Fy h n l,g7 ⟨⟨a,e,.refl⟩,b,g,.refl⟩]
noncomputable def Of (l:List (α×α))(x y:α):Prop:=(x,y)∈l
theorem z7 {p:α×α}{l:List (α×α)}(x y:α):Of (p::l) x y↔Of l x y\/(x=p.1/\y=p.2):=by
 unfold Of
 rw [To,or_comm]
 obtain ⟨a,b⟩:=p
 rw [Vd]
noncomputable def eQ:List (α×α)->Nat
 | []=>0
 | p::l=>eQ l+eM (Cn (Of l) p.1 p.2)
theorem z8 {V:List α}(a:V.Nodup):∀ {l:List (α×α)},(∀ p∈l,p.1∈V/\p.2∈V)->V.length+eQ l=cK (Cn (Of l)) V+l.length
 | [],_=>by
  have e:cK (Cn (Of ([]:List (α×α)))) V=V.length:=zZ a fun x _ y _ c=>by
   induction c with
   | refl=>rfl
   | step _ c _=>rcases c with c|c<;>cases c
  rw [e];rfl
 | p::l,h=>by
  have i:=z8 a (l:=l) fun q g=>h q (S3 _ g)
  obtain ⟨b,d⟩:=h p (Td ..)
  have s:=Fz (E:=Of l) (F:=Of (p::l)) z7 b d
  unfold eQ
  rw [Ti]
  by_cases c:Cn (Of l) p.1 p.2
  ·rw [g7 c];rw [jW fun m=>m c] at s;omega
  ·rw [jW c];rw [g7 c] at s;omega
end
section
variable (U L f1 f2 f3 f4:Int->Int->Bool)
noncomputable def xl (r:Int):Nat->Bool
 | 0=>U 0 r
 | k+1=>((xl r k ^^ f1 k r) ^^ f2 k r) ^^ U (k+1) r
theorem Rz:∀ p q h c e:Bool,(p ^^ q)=(h ^^ (c ^^ e))->∀ a b d,((a ^^ b) ^^ (c ^^ d))=false->∀ g i c1 c3 j l,(((d ^^ c3) ^^ (g ^^ c1)) ^^ ((h ^^ i) ^^ (j ^^ l)))=false->
  ((((p ^^ a) ^^ b) ^^ j) ^^ (((q ^^ e) ^^ g) ^^ l))=(i ^^ (c3 ^^ c1)):=by decide +kernel
theorem RA:∀ c3 c1 l a b:Bool,(((false ^^ c3) ^^ (false ^^ c1)) ^^ ((false ^^ l) ^^ (a ^^ b)))=false->(a ^^ b)=(l ^^ (c3 ^^ c1)):=by decide
variable (hM:∀ k r,((f1 k r ^^ f2 k r) ^^ (f3 k r ^^ f4 k r))=false)
 (hC:∀ k r,(((f4 (k - 1) (r - 1) ^^ f3 k (r - 1)) ^^ (f2 (k - 1) r ^^ f1 k r)) ^^ ((L (k - 1) r ^^ L k r) ^^ (U k (r - 1) ^^ U k r)))=false)
 (z4:∀ r,f4 (-1) r=false)(z2:∀ r,f2 (-1) r=false)(zL:∀ r,L (-1) r=false)
include hM hC z4 z2 zL
theorem FC (r:Int):∀ k:Nat,(xl U f1 f2 (r - 1) k ^^ xl U f1 f2 r k)=(L k r ^^ (f3 k (r - 1) ^^ f1 k r))
 | 0=>by
  have h:=hC 0 r
  rw [show (0:Int) - 1 = -1 from rfl,z4,z2,zL] at h
  exact RA _ _ _ _ _ h
 | k+1=>by
  have a:=FC r k
  have h:=hC ((k:Int)+1) r
  rw [YT] at h
  exact Rz _ _ _ _ _ a _ _ _ (hM k (r - 1)) _ _ _ _ _ _ h
end
noncomputable def g8 (c:Int×Int->Bool)(p:Int×Int):Bool:=(c (p.1 - 1,p.2 - 1) ^^ c (p.1+1,p.2 - 1)) ^^ (c (p.1 - 1,p.2+1) ^^ c (p.1+1,p.2+1))
noncomputable def iY (c:Int×Int->Bool)(p:Int×Int):Bool:=(c (p.1 - 2,p.2) ^^ c (p.1+2,p.2)) ^^ (c (p.1,p.2 - 2) ^^ c (p.1,p.2+2))
noncomputable def gJ (c:Int×Int->Bool)(p:Int×Int):Bool:=g8 c p ^^ (if p.1 % 4=0 then iY c p else false)
noncomputable def qQ (p:Int×Int):Prop:=p.1 % 4=p.2 % 4/\p.1 % 2=0
noncomputable def dN (e:Int×Int):Prop:=(e.1 % 2=1/\e.2 % 2=1)\/(e.1 % 2=0/\e.2 % 2=0/\e.1 % 4≠e.2 % 4)
noncomputable def iZ (c d:Int×Int->Bool)(p:Int×Int):Bool:=c p ^^ d p
theorem FD:∀ a b c d a' b' c' d':Bool,(((a ^^ a') ^^ (b ^^ b')) ^^ ((c ^^ c') ^^ (d ^^ d')))=(((a ^^ b) ^^ (c ^^ d)) ^^ ((a' ^^ b') ^^ (c' ^^ d'))):=by decide +kernel
theorem RB:∀ a b c d:Bool,((a ^^ b) ^^ (c ^^ d))=((a ^^ c) ^^ (b ^^ d)):=by decide
theorem z9 (c d:Int×Int->Bool)(p:Int×Int):gJ (iZ c d) p=(gJ c p ^^ gJ d p):=by
 have m:g8 (iZ c d) p=(g8 c p ^^ g8 d p):=FD ..
 have s:iY (iZ c d) p=(iY c p ^^ iY d p):=FD ..
 unfold gJ
 rw [m,s]
 by_cases h:p.1 % 4=0
 ·simp only [if_pos h];exact RB ..
 ·simp only [if_neg h,Wx]
noncomputable def cM (e:Int×Int):Int×Int:=if e.1 % 2=1 then (if e.1 % 4=e.2 % 4 then (e.1 - 1,e.2 - 1) else (e.1 - 1,e.2+1)) else if e.2 % 4=0 then (e.1 - 2,e.2) else (e.1,e.2 - 2)
noncomputable def cN (e:Int×Int):Int×Int:=if e.1 % 2=1 then (if e.1 % 4=e.2 % 4 then (e.1+1,e.2+1) else (e.1+1,e.2 - 1)) else if e.2 % 4=0 then (e.1+2,e.2) else (e.1,e.2+2)
noncomputable def hZ (e p:Int×Int):Bool:=decide (p=e)
theorem d5 {a b c d:Int}(h:¬ (a=c/\b=d)):hZ (c,d) (a,b)=false:=decide_eq_false fun e=>h (by rw [Vd] at e;exact e)
theorem lB {a b c d a' b' c' d':Int}(h:(a=c/\b=d)↔(a'=c'/\b'=d')):hZ (c,d) (a,b)=decide ((a',b')=(c',d')):=by
 unfold hZ
 rw [decide_eq_decide,Vd,Vd]
 exact h
theorem Aa {e p:Int×Int}(c:dN e)(d:qQ p):gJ (hZ e) p=(decide (p=cM e) ^^ decide (p=cN e)):=by
 obtain ⟨x,y⟩:=e
 obtain ⟨u,v⟩:=p
 unfold qQ at d
 unfold dN at c
 unfold gJ g8 iY cM cN
 dsimp only at d c ⊢
 by_cases b:x % 2=1
 ·have s:iY (hZ (x,y)) (u,v)=false:=by
   unfold iY
   rw [d5 (by omega),d5 (by omega),d5 (by omega),d5 (by omega)];rfl
  unfold iY at s
  dsimp only at s
  rw [s,ite_self,Wx,if_pos b,if_pos b]
  by_cases a:x % 4=y % 4
  ·rw [if_pos a,if_pos a,lB (a':=u) (b':=v) (c':=x+1) (d':=y+1) (by omega),d5 (by omega),d5 (by omega),lB (a':=u) (b':=v) (c':=x - 1) (d':=y - 1) (by omega),Wx,Wy,a0c]
  ·rw [if_neg a,if_neg a,d5 (by omega),lB (a':=u) (b':=v) (c':=x - 1) (d':=y+1) (by omega),lB (a':=u) (b':=v) (c':=x+1) (d':=y - 1) (by omega),d5 (by omega),Wx,Wy]
 ·have m:g8 (hZ (x,y)) (u,v)=false:=by
   unfold g8
   rw [d5 (by omega),d5 (by omega),d5 (by omega),d5 (by omega)];rfl
  unfold g8 at m
  dsimp only at m
  rw [m,Wy,if_neg b,if_neg b]
  by_cases g:u % 4=0
  ·rw [if_pos g]
   by_cases a:y % 4=0
   ·rw [if_pos a,if_pos a,lB (a':=u) (b':=v) (c':=x+2) (d':=y) (by omega),lB (a':=u) (b':=v) (c':=x - 2) (d':=y) (by omega),d5 (by omega),d5 (by omega),Wx,Wx,a0c]
   ·rw [if_neg a,if_neg a,d5 (by omega),d5 (by omega),lB (a':=u) (b':=v) (c':=x) (d':=y+2) (by omega),lB (a':=u) (b':=v) (c':=x) (d':=y - 2) (by omega),Wy,Wy,a0c]
  ·rw [if_neg g]
   by_cases a:y % 4=0
   ·rw [if_pos a,if_pos a,decide_eq_false (fun e=>by rw [Vd] at e;omega),decide_eq_false (fun e=>by rw [Vd] at e;omega)];rfl
   ·rw [if_neg a,if_neg a,decide_eq_false (fun e=>by rw [Vd] at e;omega),decide_eq_false (fun e=>by rw [Vd] at e;omega)];rfl
noncomputable def cE (e:Int×Int):(Int×Int)×(Int×Int):=(cM e,cN e)
theorem RC:∀ a b c:Bool,((a ^^ b) ^^ (b ^^ c))=(a ^^ c):=by decide
theorem xor_mid':∀ a b c:Bool,((a ^^ b) ^^ (c ^^ b))=(a ^^ c):=by decide
theorem RD {l:List (Int×Int)}(j:∀ e∈l,dN e){u v:Int×Int}(w:Cn (Of (l.map cE)) u v):∃ c:Int×Int->Bool,(∀ e,c e=true->e∈l)/\∀ p,qQ p->gJ c p=(decide (p=u) ^^ decide (p=v)):=by
 induction w with
 | refl=>
  refine ⟨fun _=>false,fun e h=>(by cases h),fun p _=>?_⟩
  rw [a0b]
  unfold gJ g8 iY
  rw [show ((false ^^ false) ^^ (false ^^ false))=false from rfl,ite_self];rfl
 | step _ st n=>
  obtain ⟨c,m,i⟩:=n
  have b:∀ e∈l,(∀ x,iZ c (hZ e) x=true->x∈l):=fun e a x g=>by
   by_cases k:c x=true
   ·exact m x k
   ·unfold iZ at g
    rw [Xl] at k
    rw [k,Wy] at g
    rw [of_decide_eq_true g];exact a
  rcases st with st|st
  ·obtain ⟨e,a,h⟩:=Ts.mp st
   cases h
   refine ⟨iZ c (hZ e),b e a,fun p d=>?_⟩
   rw [z9,i p d,Aa (j e a) d,RC]
  ·obtain ⟨e,a,h⟩:=Ts.mp st
   cases h
   refine ⟨iZ c (hZ e),b e a,fun p d=>?_⟩
   rw [z9,i p d,Aa (j e a) d,xor_mid']
theorem RE {l:List (Int×Int)}(j:∀ e∈l,dN e){e:Int×Int}(i:dN e)(m:e∉l)(w:Cn (Of (l.map cE)) (cM e) (cN e)):∃ c:Int×Int->Bool,(∀ x,c x=true->x∈e::l)/\c e=true/\∀ p,qQ p->gJ c p=false:=by
 obtain ⟨c,b,h⟩:=RD j w
 have g:c e=false:=Xl _ ▸ fun k=>m (b e k)
 refine ⟨iZ c (hZ e),fun x a=>?_,?_,fun p d=>?_⟩
 ·by_cases k:c x=true
  ·exact S3 _ (b x k)
  ·unfold iZ at a
   rw [Xl] at k
   rw [k,Wy] at a
   rw [of_decide_eq_true a];exact Td ..
 ·unfold iZ hZ
  rw [g,decide_eq_true rfl];rfl
 ·rw [z9,h p d,Aa i d,a0b]
noncomputable def cU (c:Int×Int->Bool)(k r:Int):Bool:=c (4 * k,4 * r+2)
noncomputable def cL (c:Int×Int->Bool)(k r:Int):Bool:=c (4 * k+2,4 * r)
noncomputable def c1 (c:Int×Int->Bool)(k r:Int):Bool:=c (4 * k+1,4 * r+1)
noncomputable def c2 (c:Int×Int->Bool)(k r:Int):Bool:=c (4 * k+3,4 * r+1)
noncomputable def c3 (c:Int×Int->Bool)(k r:Int):Bool:=c (4 * k+1,4 * r+3)
noncomputable def c4 (c:Int×Int->Bool)(k r:Int):Bool:=c (4 * k+3,4 * r+3)
noncomputable def xX (c:Int×Int->Bool)(k:Nat)(r:Int):Bool:=xl (cU c) (c1 c) (c2 c) r k
noncomputable def qA (e:Int×Int):Int×Int:=if e.1 % 2=1 then (if e.2 % 4=1 then (e.1,e.2+1) else (e.1,e.2 - 1)) else if e.2 % 4=0 then (e.1,e.2 - 1) else (e.1 - 1,e.2)
noncomputable def qB (e:Int×Int):Int×Int:=if e.1 % 2=1 then (if e.1 % 4=1 then (e.1+1,e.2) else (e.1 - 1,e.2)) else if e.2 % 4=0 then (e.1,e.2+1) else (e.1+1,e.2)
noncomputable def xq (c:Int×Int->Bool)(q:Int×Int):Bool:=
 if q.1 % 4=1 then xX c (q.1 / 4).toNat (q.2 / 4) else if q.1 % 4=3 then (xX c (q.1 / 4).toNat (q.2 / 4) ^^ c1 c (q.1 / 4) (q.2 / 4)) ^^ c2 c (q.1 / 4) (q.2 / 4)
 else if q.2 % 4=1 then xX c (q.1 / 4).toNat (q.2 / 4) ^^ c1 c (q.1 / 4) (q.2 / 4) else xX c (q.1 / 4).toNat (q.2 / 4) ^^ c3 c (q.1 / 4) (q.2 / 4)
section
variable {c:Int×Int->Bool}
theorem Ab (k:Nat)(r:Int):xq c (4 * k+1,4 * r+2)=xX c k r:=by
 unfold xq
 dsimp only
 rw [if_pos (by omega),show (4 * (k:Int)+1) / 4=k by omega,show (4 * r+2) / 4=r by omega,UE]
theorem Ac (k:Nat)(r:Int):xq c (4 * k+3,4 * r+2)=((xX c k r ^^ c1 c k r) ^^ c2 c k r):=by
 unfold xq
 dsimp only
 rw [if_neg (by omega),if_pos (by omega),show (4 * (k:Int)+3) / 4=k by omega,show (4 * r+2) / 4=r by omega,UE]
theorem Ad (k:Nat)(r:Int):xq c (4 * k+2,4 * r+1)=(xX c k r ^^ c1 c k r):=by
 unfold xq
 dsimp only
 rw [if_neg (by omega),if_neg (by omega),if_pos (by omega),show (4 * (k:Int)+2) / 4=k by omega,show (4 * r+1) / 4=r by omega,UE]
theorem Ae (k:Nat)(r:Int):xq c (4 * k+2,4 * r+3)=(xX c k r ^^ c3 c k r):=by
 unfold xq
 dsimp only
 rw [if_neg (by omega),if_neg (by omega),if_neg (by omega),show (4 * (k:Int)+2) / 4=k by omega,show (4 * r+3) / 4=r by omega,UE]
theorem fill_bool:(∀ a b:Bool,(a ^^ (a ^^ b))=b)/\(∀ a b d:Bool,(((a ^^ b) ^^ d) ^^ (a ^^ b))=d)/\(∀ a b d e g:Bool,((b ^^ d) ^^ (e ^^ g))=false->(((a ^^ b) ^^ d) ^^ (a ^^ e))=g)/\∀ a b l p q:Bool,(a ^^ b)=(l ^^ (p ^^ q))->((a ^^ p) ^^ (b ^^ q))=l:=by decide
theorem fill (hc:∀ p,qQ p->gJ c p=false)(g:∀ p:Int×Int,p.1<0->c p=false){e:Int×Int}(m:dN e)(o:0<e.1):(xq c (qA e) ^^ xq c (qB e))=c e:=by
 have l:∀ k r,((c1 c k r ^^ c2 c k r) ^^ (c3 c k r ^^ c4 c k r))=false:=fun k r=>by
  have h:=hc (4 * k+2,4 * r+2) ⟨by dsimp only;omega,by dsimp only;omega⟩
  unfold gJ g8 at h
  dsimp only at h
  rw [if_neg (by omega),Wx,show 4 * k+2 - 1=4 * k+1 by omega,show 4 * k+2+1=4 * k+3 by omega,show 4 * r+2 - 1=4 * r+1 by omega,show 4 * r+2+1=4 * r+3 by omega] at h
  exact h
 have n:∀ k r,(((c4 c (k - 1) (r - 1) ^^ c3 c k (r - 1)) ^^ (c2 c (k - 1) r ^^ c1 c k r)) ^^ ((cL c (k - 1) r ^^ cL c k r) ^^ (cU c k (r - 1) ^^ cU c k r)))=false:=fun k r=>by
  have h:=hc (4 * k,4 * r) ⟨by dsimp only;omega,by dsimp only;omega⟩
  unfold gJ g8 iY at h
  dsimp only at h
  unfold c1 c2 c3 c4 cL cU
  rw [show 4 * (k - 1)+3=4 * k - 1 by omega,show 4 * (r - 1)+3=4 * r - 1 by omega,show 4 * (k - 1)+2=4 * k - 2 by omega,show 4 * (r - 1)+2=4 * r - 2 by omega]
  rw [if_pos (by omega)] at h
  exact h
 have i:=FC (cU c) (cL c) (c1 c) (c2 c) (c3 c) (c4 c) l n (fun r=>g _ (by dsimp only;omega)) (fun r=>g _ (by dsimp only;omega)) (fun r=>g _ (by dsimp only;omega))
 obtain ⟨x,y⟩:=e
 unfold dN at m
 unfold qA qB
 dsimp only at m o ⊢
 obtain ⟨k,q⟩:∃ k:Nat,x / 4=k:=⟨(x / 4).toNat,by omega⟩
 obtain ⟨r,s⟩:∃ r:Int,y / 4=r:=⟨_,rfl⟩
 by_cases d:x % 2=1
 ·rw [if_pos d,if_pos d]
  by_cases a:x % 4=1
  ·obtain rfl:x=4 * k+1:=by omega
   rw [if_pos a,show 4 * (k:Int)+1+1=4 * k+2 by omega]
   by_cases b:y % 4=1
   ·obtain rfl:y=4 * r+1:=by omega
    rw [if_pos b,show 4 * r+1+1=4 * r+2 by omega,Ab,Ad]
    exact fill_bool.1 _ _
   ·obtain rfl:y=4 * r+3:=by omega
    rw [if_neg b,show 4 * r+3 - 1=4 * r+2 by omega,Ab,Ae]
    exact fill_bool.1 _ _
  ·obtain rfl:x=4 * k+3:=by omega
   rw [if_neg a,show 4 * (k:Int)+3 - 1=4 * k+2 by omega]
   by_cases b:y % 4=1
   ·obtain rfl:y=4 * r+1:=by omega
    rw [if_pos b,show 4 * r+1+1=4 * r+2 by omega,Ac,Ad]
    exact fill_bool.2.1 _ _ _
   ·obtain rfl:y=4 * r+3:=by omega
    rw [if_neg b,show 4 * r+3 - 1=4 * r+2 by omega,Ac,Ae]
    exact fill_bool.2.2.1 _ _ _ _ _ (l k r)
 ·rw [if_neg d,if_neg d]
  by_cases a:y % 4=0
  ·obtain rfl:x=4 * k+2:=by omega
   obtain rfl:y=4 * r:=by omega
   rw [if_pos a,if_pos a,show 4 * r - 1=4 * (r - 1)+3 by omega,Ae,Ad]
   exact fill_bool.2.2.2 _ _ _ _ _ (i r k)
  ·obtain rfl:x=4 * k:=by omega
   obtain rfl:y=4 * r+2:=by omega
   cases k with
   | zero=>omega
   | succ j=>
    rw [if_neg a,if_neg a,show 4 * ((j+1:Nat):Int) - 1=4 * j+3 by omega,Ac,Ab]
    exact fill_bool.1 _ _
end
noncomputable def Dq (w h:Int)(ps:List (Int×Int))(p q:Int×Int):Prop:=∃ e,dN e/\fQ w h e/\e∉ps/\p=qA e/\q=qB e
theorem RG {w h:Int}{ps bs:List (Int×Int)}(q:∀ b∈bs,¬ fQ w h b)(s:∀ x∈ps++bs,dN x/\0<=x.1){e:Int×Int}(r:dN e)(a:fQ w h e)(E:e∉ps)(K:Cn (Of ((ps++bs).map cE)) (cM e) (cN e)):¬ Cn (Dq w h (e::ps)) (qA e) (qB e):=by
 obtain ⟨c,n,B,o⟩:=RE (fun x G=>(s x G).1) r (fun m=>(Tf.mp m).elim E fun m=>q e m a) K
 have l:∀ p:Int×Int,p.1<0->c p=false:=fun p L=>by
  rw [<- Xl]
  intro k
  rcases To.mp (n p k) with rfl|m
  ·exact absurd a.1.1 (by omega)
  ·exact absurd (s p m).2 (by omega)
 have st:∀ x y,Dq w h (e::ps) x y->xq c x=xq c y:=fun x y ⟨g,u,i,j,v,A⟩=>by
  have f:=fill o l u i.1.1
  have z:c g=false:=by
   rw [<- Xl]
   intro k
   rcases To.mp (n g k) with rfl|m
   ·exact j (Td ..)
   ·exact (Tf.mp m).elim (fun m=>j (S3 _ m)) fun m=>q g m i
  rw [z,<- v,<- A] at f
  revert f
  cases xq c x<;>cases xq c y<;>decide
 intro I
 have all:∀ {y},Cn (Dq w h (e::ps)) (qA e) y->xq c (qA e)=xq c y:=fun w=>by
  induction w with
  | refl=>rfl
  | step _ d H=>exact H.trans (d.elim (st _ _) fun d=>(st _ _ d).symm)
 have f:=fill o l r a.1.1
 rw [all I,a0b,B] at f
 cases f
section
variable {w h:Int}{Qs Es Bs Vs:List (Int×Int)}
noncomputable def Fn (w h:Int)(Qs ps:List (Int×Int)):Nat:=cK (Cn (Dq w h ps)) Qs
noncomputable def Gn (Bs ps:List (Int×Int)):Nat:=eQ ((ps++Bs).map cE)
theorem FE {e:Int×Int}{ps:List (Int×Int)}(l:dN e)(n:fQ w h e)(o:e∉ps)(h1:qA e∈Qs)(j:qB e∈Qs):Fn w h Qs (e::ps)=Fn w h Qs ps+eM (¬ Cn (Dq w h (e::ps)) (qA e) (qB e)):=by
 refine Fz (fun x y=>⟨?_,?_⟩) h1 j
 ·rintro ⟨g,c,d,i,a,b⟩
  by_cases k:g=e
  ·rw [k] at a b;exact .inr ⟨a,b⟩
  ·exact .inl ⟨g,c,d,fun m=>(To.mp m).elim k i,a,b⟩
 ·rintro (⟨g,c,d,i,a,b⟩|⟨a,b⟩)
  ·exact ⟨g,c,d,fun m=>i (S3 _ m),a,b⟩
  ·exact ⟨e,l,n,o,a,b⟩
structure Sh (w h:Int)(Qs Es Bs Vs:List (Int×Int)):Prop where
 es:∀ e,e∈Es↔dN e/\fQ w h e
 en:Es.Nodup
 bs:∀ b∈Bs,dN b/\¬ fQ w h b/\0<=b.1
 qs:∀ e∈Es,qA e∈Qs/\qB e∈Qs
 qn:Qs.Nodup
 q0:Qs≠[]
 vs:∀ e,e∈Es\/e∈Bs->cM e∈Vs/\cN e∈Vs
 vn:Vs.Nodup
 v0:Vs≠[]
 eu:Bs.length+Es.length+1=Qs.length+Vs.length
 one:eQ (Bs.map cE)<=1
theorem Sh.step (S:Sh w h Qs Es Bs Vs){e:Int×Int}{ps:List (Int×Int)}(l:∀ x∈ps,x∈Es)(g:e∈Es)(i:e∉ps):Gn Bs (e::ps)+Fn w h Qs ps<=Fn w h Qs (e::ps)+Gn Bs ps:=by
 obtain ⟨c,d⟩:=(S.es e).mp g
 obtain ⟨m,n⟩:=S.qs e g
 rw [FE c d i m n]
 show eQ ((ps++Bs).map cE)+eM (Cn (Of ((ps++Bs).map cE)) (cM e) (cN e))+_<=_+eQ ((ps++Bs).map cE)
 by_cases k:Cn (Of ((ps++Bs).map cE)) (cM e) (cN e)
 ·rw [g7 k,g7 (RG (fun b j=>(S.bs b j).2.1) (fun x a=>?_) c d i k)]
  ·omega
  ·rcases Tf.mp a with a|a
   ·have:=(S.es x).mp (l x a)
    exact ⟨this.1,by have:=this.2.1.1;omega⟩
   ·exact ⟨(S.bs x a).1,(S.bs x a).2.2⟩
 ·rw [jW k];omega
theorem Sh.more (S:Sh w h Qs Es Bs Vs){ps:List (Int×Int)}:∀ {rs:List (Int×Int)},(∀ x∈rs++ps,x∈Es)->(rs++ps).Nodup->Gn Bs (rs++ps)+Fn w h Qs ps<=Fn w h Qs (rs++ps)+Gn Bs ps
 | [],_,_=>Y8 (Nat.add_comm ..)
 | e::rs,hp,nd=>by
  rw [TR] at hp nd ⊢
  rw [TX] at nd
  have a:=S.more (rs:=rs) (fun x c=>hp x (S3 _ c)) nd.2
  have b:=S.step (ps:=rs++ps) (fun x c=>hp x (S3 _ c)) (hp e (Td ..)) nd.1
  omega
theorem Sh.bare (S:Sh w h Qs Es Bs Vs){ps:List (Int×Int)}(e:∀ x∈Es,x∈ps):Fn w h Qs ps=Qs.length:=
 zZ S.qn fun x _ y _ c=>by
  induction c with
  | refl=>rfl
  | step _ c _=>rcases c with ⟨g,a,b,d,_⟩|⟨g,a,b,d,_⟩<;>exact absurd (e g ((S.es g).mpr ⟨a,b⟩)) d
theorem Sh.euler (S:Sh w h Qs Es Bs Vs){ps:List (Int×Int)}(l:∀ x∈ps,x∈Es)(o:ps.Nodup):Fn w h Qs ps=Gn Bs ps:=by
 have n:=S.more (rs:=ps) (ps:=[]) (by rw [Uh];exact l) (by rw [Uh];exact o)
 rw [Uh] at n
 have y:1<=Fn w h Qs []:=uB S.q0
 have q:Gn Bs []<=1:=S.one
 have c:∀ x∈Es.filter (fun e=>!decide (e∈ps))++ps,x∈Es:=fun x g=>(Tf.mp g).elim (fun m=>(T4.mp m).1) (l x)
 have i:(Es.filter (fun e=>!decide (e∈ps))++ps).Nodup:=VT.mpr ⟨S.en.sublist WH,o,fun a r b s e=>by
  have:=(T4.mp r).2
  rw [e,decide_eq_true s] at this
  cases this⟩
 have all:∀ x∈Es,x∈Es.filter (fun e=>!decide (e∈ps))++ps:=fun x g=>by
  by_cases k:x∈ps
  ·exact T5 _ k
  ·exact Uv _ (T4.mpr ⟨g,by rw [decide_eq_false k];rfl⟩)
 have j:=S.more c i
 rw [S.bare all] at j
 have len:=oQ S.en all
 have d:=z8 S.vn (l:=((Es.filter (fun e=>!decide (e∈ps))++ps)++Bs).map cE) fun p m=>by
  obtain ⟨e,u,rfl⟩:=Ts.mp m
  exact S.vs e ((Tf.mp u).imp (c e) id)
 have z:1<=cK (Cn (Of (((Es.filter (fun e=>!decide (e∈ps))++ps)++Bs).map cE))) Vs:=uB S.v0
 rw [SQ,SV] at d
 have v:=S.eu
 unfold Gn at j n q ⊢
 omega
theorem Sh.none (S:Sh w h Qs Es Bs Vs):Fn w h Qs []=1:=by
 have a:=S.euler (ps:=[]) (fun x b=>by cases b) XX
 have c:1<=Fn w h Qs []:=uB S.q0
 have d:Gn Bs []<=1:=S.one
 omega
theorem RH (P:Prop):eM P<=1:=by
 by_cases k:P
 ·rw [g7 k];exact SX _
 ·rw [jW k];exact Um _
theorem Sh.next (S:Sh w h Qs Es Bs Vs){e:Int×Int}{ps:List (Int×Int)}(a:e∈Es)(d:e∉ps):Fn w h Qs ps<=Fn w h Qs (e::ps)/\Fn w h Qs (e::ps)<=Fn w h Qs ps+1:=by
 obtain ⟨b,c⟩:=(S.es e).mp a
 obtain ⟨g,i⟩:=S.qs e a
 rw [FE b c d g i]
 have:=RH (¬ Cn (Dq w h (e::ps)) (qA e) (qB e))
 omega
theorem FF {ps qs:List (Int×Int)}(e:∀ x,x∈ps↔x∈qs):Fn w h Qs ps=Fn w h Qs qs:=by
 have:Dq w h ps=Dq w h qs:=funext fun x=>funext fun y=>propext (exists_congr fun g=>and_congr_right fun _=>and_congr_right fun _=>and_congr (not_congr (e g)) Iff.rfl)
 unfold Fn
 rw [this]
end
noncomputable def cO (w h:Int):List (Int×Int):=((Tz w.toNat).flatMap fun (k:Nat)=>[(4 * (k:Int)+2,0),(4 * (k:Int)+2,4 * h)])++(Tz h.toNat).flatMap fun (k:Nat)=>[(0,4 * (k:Int)+2),(4 * w,4 * (k:Int)+2)]
noncomputable def fS (w h:Int):List (Int×Int):=((Tz (w.toNat+1)).flatMap fun (i:Nat)=>(Tz (h.toNat+1)).map fun (j:Nat)=>(4 * (i:Int),4 * (j:Int)))++(Tz w.toNat).flatMap fun (i:Nat)=>(Tz h.toNat).map fun (j:Nat)=>(4 * (i:Int)+2,4 * (j:Int)+2)
noncomputable def jX (w h:Int)(p:Int×Int):Bool:=p.1 % 4 == 0&&(p.1 == 0||p.1 == 4 * w||p.2 == 0||p.2 == 4 * h)
section
variable {w h:Int}
theorem Af {p:Int×Int}(m:((p.1 % 4=0/\p.2 % 4=0)/\(0<=p.1/\p.1<=4 * w.toNat)/\0<=p.2/\p.2<=4 * h.toNat)\/((p.1 % 4=2/\p.2 % 4=2)/\(0<p.1/\p.1<4 * w.toNat)/\0<p.2/\p.2<4 * h.toNat)):p∈fS w h:=by
 unfold fS
 rw [Tf]
 obtain ⟨x,y⟩:=p
 dsimp only at m
 have e:∀ {x r:Int}{n:Nat},x % 4=r->0<=x->x<4 * n->(x / 4).toNat<n/\4 * ((x / 4).toNat:Int)+r=x:=fun a b c=>by omega
 rcases m with ⟨⟨a,b⟩,c,d⟩|⟨⟨a,b⟩,c,d⟩
 ·have X:=e (n:=w.toNat+1) a c.1 (by omega)
  have Y:=e (n:=h.toNat+1) b d.1 (by omega)
  refine .inl (Yd.mpr ⟨_,TV.mpr X.1,Ts.mpr ⟨_,TV.mpr Y.1,?_⟩⟩)
  rw [Vd]
  exact ⟨(UL _).symm.trans X.2,(UL _).symm.trans Y.2⟩
 ·have X:=e a (Xd c.1) c.2
  have Y:=e b (Xd d.1) d.2
  refine .inr (Yd.mpr ⟨_,TV.mpr X.1,Ts.mpr ⟨_,TV.mpr Y.1,?_⟩⟩)
  rw [Vd]
  exact ⟨X.2,Y.2⟩
noncomputable def FG (w h:Int)(p:Int×Int):Bool:=decide (((p.1 % 4=0/\p.2 % 4=0)/\(0<=p.1/\p.1<=4 * w.toNat)/\0<=p.2/\p.2<=4 * h.toNat)\/((p.1 % 4=2/\p.2 % 4=2)/\(0<p.1/\p.1<4 * w.toNat)/\0<p.2/\p.2<4 * h.toNat))
theorem RI:∀ w∈[(1:Int),2,3,4,5,6],∀ h∈[(1:Int),2,3,4,5,6],((cJ w h).filter gF++cO w h).all (fun e=>FG w h (cM e)&&FG w h (cN e))=true:=by decide +kernel
theorem Ag (hw:1<=w/\w<=6)(b:1<=h/\h<=6){e:Int×Int}(a:e∈(cJ w h).filter gF++cO w h):cM e∈fS w h/\cN e∈fS w h:=by
 have:=Vp.mp (RI w (dM hw) h (dM b)) e a
 rw [S0] at this
 exact ⟨Af (of_decide_eq_true this.1),Af (of_decide_eq_true this.2)⟩
theorem FH:∀ w∈[(1:Int),2,3,4,5,6],∀ h∈[(1:Int),2,3,4,5,6],(fS w h).Nodup/\((fS w h).filter (jX w h)).length=(cO w h).length/\(cO w h).length+((cJ w h).filter gF).length+1=((cJ w h).filter qL).length+(fS w h).length:=by decide +kernel
noncomputable def RJ (w h:Int)(b:Int×Int):Bool:=decide (((b.1 % 2=1/\b.2 % 2=1)\/(b.1 % 2=0/\b.2 % 2=0/\b.1 % 4≠b.2 % 4))/\¬ ((0<b.1/\b.1<4 * w)/\0<b.2/\b.2<4 * h)/\0<=b.1)
noncomputable def FI (w h:Int):List (Int×Int):=((Tz w.toNat).map fun (i:Nat)=>(4 * (i:Int)+4,0))++(((Tz h.toNat).map fun (j:Nat)=>(4 * w,4 * (j:Int)+4))++(((Tz w.toNat).map fun (i:Nat)=>(4 * (w - 1 - i),4 * h))++(Tz h.toNat).map fun (j:Nat)=>(0,4 * (h - 1 - j))))
noncomputable def Ah (l:List ((Int×Int)×(Int×Int))):Int×Int->List (Int×Int)->Bool
 | _,[]=>true
 | a,b::r=>decide ((a,b)∈l\/(b,a)∈l)&&Ah l b r
theorem FJ {l:List ((Int×Int)×(Int×Int))}{s p:Int×Int}:∀ {a:Int×Int}{r:List (Int×Int)},Cn (Of l) s a->Ah l a r=true->p∈a::r->Cn (Of l) s p
 | a,[],c,_,m=>by rcases Tq.mp m with rfl;exact c
 | a,b::r,c,k,m=>by
  obtain ⟨d,e⟩:=(S0 _ _).mp k
  rcases To.mp m with rfl|m
  ·exact c
  ·have d:(a,b)∈l\/(b,a)∈l:=of_decide_eq_true d
   exact FJ (c.step d) e m
theorem FK:∀ w∈[(1:Int),2,3,4,5,6],∀ h∈[(1:Int),2,3,4,5,6],((cO w h).all fun b=>RJ w h b&&(jX w h (cM b)&&jX w h (cN b)))=true/\Ah ((cO w h).reverse.map cE) (0,0) (FI w h)=true/\(((fS w h).filter (jX w h)).all fun p=>decide (p∈(0,0)::FI w h))=true:=by decide +kernel
theorem Ai (hw:1<=w/\w<=6)(a:1<=h/\h<=6){b:Int×Int}(m:b∈cO w h):(dN b/\¬ fQ w h b/\0<=b.1)/\jX w h (cM b)=true/\jX w h (cN b)=true:=by
 have t:=(S0 _ _).mp (Vp.mp (FK w (dM hw) h (dM a)).1 b m)
 have k:((b.1 % 2=1/\b.2 % 2=1)\/(b.1 % 2=0/\b.2 % 2=0/\b.1 % 4≠b.2 % 4))/\¬ ((0<b.1/\b.1<4 * w)/\0<b.2/\b.2<4 * h)/\0<=b.1:=of_decide_eq_true t.1
 exact ⟨k,(S0 _ _).mp t.2⟩
theorem RK (hw:1<=w/\w<=6)(a:1<=h/\h<=6):eQ ((cO w h).reverse.map cE)<=1:=by
 obtain ⟨g,i,_⟩:=FH w (dM hw) h (dM a)
 obtain ⟨_,j,l⟩:=FK w (dM hw) h (dM a)
 have d:=z8 (V:=(fS w h).filter (jX w h)) (g.sublist WH) (l:=(cO w h).reverse.map cE) fun q m=>by
  obtain ⟨b,e,rfl⟩:=Ts.mp m
  rw [UC] at e
  have t:=(Ai hw a e).2
  have c:=Ag hw a (T5 _ e)
  exact ⟨T4.mpr ⟨c.1,t.1⟩,T4.mpr ⟨c.2,t.2⟩⟩
 have all:∀ p∈(fS w h).filter (jX w h),Cn (Of ((cO w h).reverse.map cE)) (0,0) p:=fun p m=>FJ .refl j (of_decide_eq_true (Vp.mp l p m))
 have o:=Fw (R:=Cn (Of ((cO w h).reverse.map cE))) (l:=(fS w h).filter (jX w h)) fun x n y r=>(all x n).symm.trans (all y r)
 rw [SQ,Uo,i] at d
 omega
end
section
variable {w h:Int}{ps:List (Int×Int)}{s p q e:Int×Int}
noncomputable def dA (r c:Int):Int×Int:=if r % 2=1 then (if c=1 then (0,1) else (0,-1)) else if c=0 then (0,-1) else (-1,0)
noncomputable def dB (r c:Int):Int×Int:=if r % 2=1 then (if r=1 then (1,0) else (-1,0)) else if c=0 then (0,1) else (1,0)
theorem RL:qA e=(e.1+(dA (e.1 % 4) (e.2 % 4)).1,e.2+(dA (e.1 % 4) (e.2 % 4)).2):=by
 unfold qA dA
 rw [gW e.1]
 split
 ·split<;>rw [UL]<;>rfl
 ·split
  ·rw [UL];rfl
  ·rw [UL];rfl
theorem RM:qB e=(e.1+(dB (e.1 % 4) (e.2 % 4)).1,e.2+(dB (e.1 % 4) (e.2 % 4)).2):=by
 unfold qB dB
 rw [gW e.1]
 split
 ·split<;>rw [UL]<;>rfl
 ·split
  ·rw [UL]
  ·rw [UL]
theorem RN:∀ r∈[(0:Int),1,2,3],∀ c∈[(0:Int),1,2,3],bK (dS r c) "lufr" = true->(jV r c "q" = [dA r c,dB r c]\/jV r c "q" = [dB r c,dA r c]):=by decide +kernel
theorem qR (a:dN e):q∈d4 e.1 e.2 "q"↔q=qA e\/q=qB e:=by
 rw [zU,RL,RM]
 rcases RN _ (t7 e.1) _ (t7 e.2) ((oS _ _).mpr a) with h|h
 ·rw [h,S5,S5,Wb,To,Tq]
 ·rw [h,S5,S5,Wb,To,Tq,or_comm]
theorem RO (z:s∈aJ w h "q"):Rc w h ps s p↔Cn (Dq w h ps) s p:=by
 constructor
 ·intro a
  induction a with
  | refl=>exact .refl
  | step a c d=>
   rename_i p q
   obtain ⟨e,m,o,r,u⟩:=c
   rw [mem_near] at m
   have n:dN e:=(oS _ _).mp m.2
   have v:p∈d4 e.1 e.2 "q":=mem_near.mpr ⟨bes_sym.mp m.1,(mem_partI.mp (a.in z)).2⟩
   rw [qR n] at v u
   rcases v with rfl|rfl<;>rcases u with rfl|rfl
   ·exact d
   ·exact d.step (.inl ⟨e,n,o,r,rfl,rfl⟩)
   ·exact d.step (.inr ⟨e,n,o,r,rfl,rfl⟩)
   ·exact d
 ·intro a
  have st:∀ {x y},x∈aJ w h "q"->(∃ e,dN e/\fQ w h e/\e∉ps/\(x=qA e\/x=qB e)/\(y=qA e\/y=qB e))->St w h ps x y:=fun {x y} A ⟨e,b,g,i,j,l⟩=>
   ⟨e,mem_near.mpr ⟨bes_sym.mp (mem_near.mp ((qR b).mpr j)).1,(oS _ _).mpr b⟩,g,i,(qR b).mpr l⟩
  induction a with
  | refl=>exact .refl
  | step a c d=>
   refine d.step (st (d.in z) ?_)
   rcases c with ⟨e,b,g,i,j,l⟩|⟨e,b,g,i,j,l⟩
   ·exact ⟨e,b,g,i,.inl j,.inr l⟩
   ·exact ⟨e,b,g,i,.inr l,.inl j⟩
theorem FL (hw:1<=w/\w<=6)(a:1<=h/\h<=6):∀ n,n<=(aJ w h "q").length->(fR w h ps n).length=cK (Rc w h ps) ((aJ w h "q").take n).reverse
 | 0,_=>by simp [fR,cK]
 | n+1,hn=>by
  have b:=FL hw a n (by omega)
  have g:(aJ w h "q")[n]? = some (aJ w h "q")[n]:=SO hn
  have i:(aJ w h "q").take (n+1)=(aJ w h "q").take n++[(aJ w h "q")[n]]:=by rw [a2g,g];rfl
  have d:=zW (ps:=ps) hw a g
  unfold fR at b ⊢
  rw [i,We,SV,b,YF]
  refine congrArg (fun z=>cK (Rc w h ps) ((aJ w h "q").take n).reverse+z) (?_:(List.filter (iW w h ps) [(aJ w h "q")[n]]).length=eM (¬ ∃ y∈((aJ w h "q").take n).reverse,Rc w h ps y (aJ w h "q")[n]))
  rw [V4,List.filter_nil]
  by_cases k:iW w h ps (aJ w h "q")[n]=true
  ·rw [if_pos k,g7]
   ·rfl
   ·rintro ⟨y,l,c⟩
    exact d.mp k y (UC.mp l) c
  ·rw [if_neg k,jW]
   ·rfl
   ·intro z
    exact k (d.mpr fun p j c=>z ⟨p,UC.mpr j,c⟩)
theorem uC (hw:1<=w/\w<=6)(a:1<=h/\h<=6):(gH w h ps).length=Fn w h (aJ w h "q").reverse ps:=by
 unfold gH Fn
 rw [FL hw a _ (SX _),Xi]
 exact zY fun x b y _=>RO (UC.mp b)
theorem FN {a:Type}{l:List a}(h:l.Nodup):l.reverse.Nodup:=Xg.mpr (h.imp fun h e=>h e.symm)
theorem RP (d:e∈aJ w h "lufr"):qA e∈aJ w h "q"/\qB e∈aJ w h "q":=by
 obtain ⟨a,g⟩:=mem_partI.mp d
 have c:dN e:=(oS _ _).mp g
 have q:∀ q,q∈d4 e.1 e.2 "q"->q∈aJ w h "q":=fun q m=>by
  rw [mem_near] at m
  have b:=Ff m.2
  refine mem_partI.mpr ⟨?_,m.2⟩
  rcases m.1 with rfl|rfl|rfl|rfl
  ·exact ⟨k8 a.1 b.1 (.inl rfl),a.2⟩
  ·exact ⟨a.1,k8 a.2 b.2 (.inl rfl)⟩
  ·exact ⟨a.1,k8 a.2 b.2 (.inr (.inr rfl))⟩
  ·exact ⟨k8 a.1 b.1 (.inr (.inr rfl)),a.2⟩
 exact ⟨q _ ((qR c).mpr (.inl rfl)),q _ ((qR c).mpr (.inr rfl))⟩
theorem Aj (hw:1<=w/\w<=6)(c:1<=h/\h<=6):Sh w h (aJ w h "q").reverse (aJ w h "lufr") (cO w h).reverse (fS w h):=by
 obtain ⟨g,i,d⟩:=FH w (dM hw) h (dM c)
 rw [<- qM,<- zM] at d
 have one:((1:Int),(2:Int))∈aJ w h "q":=mem_partI.mpr ⟨⟨by dsimp only;omega,by dsimp only;omega⟩,(Fc _ _).mpr (.inl ⟨by decide,by decide⟩)⟩
 refine ⟨fun e=>?_,QX hw c,fun b m=>?_,fun e a=>?_,FN (Fm hw c),fun z=>?_,fun e a=>?_,g,fun z=>?_,?_,RK hw c⟩
 ·rw [mem_partI,oS,and_comm];rfl
 ·exact (Ai hw c (UC.mp m)).1
 ·rw [UC,UC];exact RP a
 ·have:=UC.mpr one
  rw [z] at this
  cases this
 ·rcases a with a|a
  ·exact Ag hw c (Uv _ (qM w h ▸ a))
  ·exact Ag hw c (T5 _ (UC.mp a))
 ·have:((0:Int),(0:Int))∈fS w h:=Af (.inl ⟨⟨by decide,by decide⟩,⟨by decide,a2w (by decide) (a1y _)⟩,by decide,a2w (by decide) (a1y _)⟩)
  rw [z] at this
  cases this
 ·rw [Uo,Uo];exact d
theorem Ak (hw:1<=w/\w<=6)(a:1<=h/\h<=6)(b:∀ x∈ps,x∈aJ w h "lufr") (d:ps.Nodup):(gH w h ps).length=eQ ((cO w h++ps).reverse.map cE):=by
 have e:=(Aj hw a).euler (ps:=ps.reverse) (fun x c=>b x (UC.mp c)) (FN d)
 rw [uC hw a,YF,<- FF fun x=>UC]
 exact e
theorem FP (hw:1<=w/\w<=6)(a:1<=h/\h<=6){qs:List (Int×Int)}(b:e∈aJ w h "lufr") (c:e∉ps)(d:∀ x,x∈qs↔x=e\/x∈ps):(gH w h ps).length<=(gH w h qs).length/\(gH w h qs).length<=(gH w h ps).length+1:=by
 have:=(Aj hw a).next b c
 rw [uC hw a,uC hw a,FF (qs:=e::ps) fun x=>(d x).trans To.symm]
 exact this
theorem RQ (hw:1<=w/\w<=6)(a:1<=h/\h<=6):(gH w h []).length=1:=by
 rw [uC hw a];exact (Aj hw a).none
end
noncomputable def tA (i j:Int):Int×Int:=if i % 2=1 then (if i=j then (1,1) else (1,-1)) else if j=0 then (2,0) else (0,2)
theorem RR (e:Int×Int):cM e=(e.1 - (tA (e.1 % 4) (e.2 % 4)).1,e.2 - (tA (e.1 % 4) (e.2 % 4)).2):=by
 unfold cM tA
 rw [gW e.1]
 split
 ·split<;>rfl
 ·split
  ·rw [a3b]
  ·rw [a3b]
theorem RS (e:Int×Int):cN e=(e.1+(tA (e.1 % 4) (e.2 % 4)).1,e.2+(tA (e.1 % 4) (e.2 % 4)).2):=by
 unfold cN tA
 rw [gW e.1]
 split
 ·split<;>rfl
 ·split
  ·rw [UL]
  ·rw [UL]
noncomputable def oT:List (aF×D):=[(.inr "l",P 2 0),(.inr "u",P 0 2),(.inr "f",P 1 1),(.inr "r",P 1 (-1))]
theorem RT {x y:Int}:bK (a9 x y) "lufr" = true->d8 oT (.inr (a9 x y))=some (PP (tA (x % 4) (y % 4))):=by
 unfold a9
 refine qK (M:=fun i j=>bK (dS i j) "lufr" = true->d8 oT (.inr (dS i j))=some (PP (tA i j))) (fun i j a b=>?_) x y
 rcases a with rfl|rfl|rfl|rfl<;>rcases b with rfl|rfl|rfl|rfl<;>first|exact fun h=>absurd h (by decide +kernel)|exact fun _=>by kernel_rfl
theorem FQ (k:Nat)(e:Int×Int)(j:bK (a9 e.1 e.2) "lufr" = true) (b:Hm)(Q:D×Hm->Prop)(h:∀ a c,b <+: c->b.length<=a->c[a]? = some (.lst ([cM e,cN e].map PP))->Q (.loc a,c)):W (f (k+2) "_law_tips" [PP e] b) Q:=by
 rw [PU,cD]
 simp only [aZ,Eu,aT]
 refine EC ?_
 simp only [EA,Ez,aV,gC,aQ,aO,yW,EB,fP,true_and]
 refine ⟨bM _ _,by show (4:Nat)<=15;decide,?_⟩
 simp only [bF,aQ,aO,aE]
 rw [ES]
 have i:((b++[C.dK []]).set b.length (.dK oT))[b.length]? = some (.dK oT):=by simp
 have g:b <+: (b++[C.dK []]).set b.length (.dK oT):=fM (bC _ _) (SX _) _
 refine zE k e.1 e.2 _ _ fun l d=>?_
 refine (ED (kvs:=oT) (aS d i) rfl (RT j)).mpr ?_
 refine (Pp).mpr ?_
 simp only [b8,eH,aQ,aO,gC,aT,aE,aG,aV,PP,kY,jT,jQ,eI,SY,S1,fP,true_and]
 refine h _ _ (g.trans (d.trans (bC _ _))) (TQ (g.trans d).length_le (SX _)) ?_
 rw [RR,RS]
 exact bM _ _
noncomputable def lC (h:Int)(n:Nat):List (Int×Int):=(Tz n).flatMap fun (k:Nat)=>[(4 * (k:Int)+2,0),(4 * (k:Int)+2,4 * h)]
noncomputable def lD (w:Int)(n:Nat):List (Int×Int):=(Tz n).flatMap fun (k:Nat)=>[(0,4 * (k:Int)+2),(4 * w,4 * (k:Int)+2)]
theorem FR (h:Int)(n:Nat):lC h (n+1)=lC h n++[(4 * (n:Int)+2,0),(4 * (n:Int)+2,4 * h)]:=by
 unfold lC;rw [Zp,YG];simp
theorem FT (w:Int)(n:Nat):lD w (n+1)=lD w n++[(0,4 * (n:Int)+2),(4 * w,4 * (n:Int)+2)]:=by
 unfold lD;rw [Zp,YG];simp
theorem uD (h:Int):∀ n:Nat,(lC h n).length=2 * n
 | 0=>rfl
 | n+1=>by rw [FR,SV,uD h n];rfl
theorem Al (h:Int):∀ n:Nat,(lD h n).length=2 * n
 | 0=>rfl
 | n+1=>by rw [FT,SV,Al h n];rfl
theorem RU (k:Nat)(w h:Int)(hw:1<=w/\w<=6)(n:1<=h/\h<=6)(d:Hm)(Q:D×Hm->Prop)(H:∀ a b,d <+: b->d.length<=a->b[a]? = some (.lst ((cO w h).map PP))->Q (.loc a,b)):W (f (k+1) "_law_border" [.int w,.int h] d) Q:=by
 rw [P0,cD]
 simp only [aZ,bL,eH,aO]
 refine ⟨Um _,?_⟩
 simp only [SY,S1,fN,qI (j:=0),aQ,aO,aE,aG]
 refine ⟨by omega,?_⟩
 refine mQ (lo:=0) (fun i j b=>d <+: b/\∃ a o,d.length<=a/\b[a]? = some (.lst ((lC h i).map PP))/\j=[some (.int w),some (.int h),some (.loc a),o]) ⟨bC _ _,d.length,none,SX _,bM _ _,rfl⟩ ?_ ?_
 ·rintro i j g m ⟨c,a,o,l,e,rfl⟩
  refine ⟨_,rfl,?_⟩
  simp only [SY,S1,bL,aT,aE,aG,eH,aQ,aO,gC,aV,mS,eI,fP,true_and]
  refine (oK (aS (bC _ _) e) (bM _ _) ?_).mpr ?_
  ·rw [SQ,uD,T3]
   show _+2<=_
   omega
  ·refine ⟨c.trans ((bC _ _).trans (bC _ _)),_,_,?_,?_,rfl⟩
   ·have:=c.length_le
    simp only [SV,Ti,UO]
    omega
   ·rw [bM,FR,UN,a0z]
    rfl
 ·rintro j g ⟨c,a,o,l,e,rfl⟩
  simp only [SY,S1,fN,qI (j:=0),aQ,aO,aE,aG]
  refine ⟨by omega,?_⟩
  refine mQ (lo:=0) (fun i j b=>d <+: b/\∃ a o,d.length<=a/\b[a]? = some (.lst ((lC h w.toNat++lD w i).map PP))/\j=[some (.int w),some (.int h),some (.loc a),o]) ⟨c,a,o,l,by rw [show lD w 0=[] from rfl,Uh];exact e,rfl⟩ ?_ ?_
  ·rintro i j g m ⟨c,a,o,l,e,rfl⟩
   refine ⟨_,rfl,?_⟩
   simp only [SY,S1,bL,aT,aE,aG,eH,aQ,aO,gC,aV,mS,eI,fP,true_and]
   refine (oK (aS (bC _ _) e) (bM _ _) ?_).mpr ?_
   ·rw [SQ,SV,uD,Al,T3]
    show _+2<=_
    omega
   ·refine ⟨c.trans ((bC _ _).trans (bC _ _)),_,_,?_,?_,rfl⟩
    ·have:=c.length_le
     simp only [SV,Ti,UO]
     omega
    ·rw [bM,FT,<- Tc,UN (l₁:=lC h w.toNat++lD w i),a0z]
     rfl
  ·rintro j g ⟨c,a,o,l,e,rfl⟩
   simp only [b8,aE,aG]
   exact H _ _ c l e
inductive Top (up:Int×Int->Int×Int):Int×Int->Int×Int->Nat->Prop
 | at {p:Int×Int}:up p=p->Top up p p 0
 | on {p t:Int×Int}{n:Nat}:up p≠p->Top up (up p) t n->Top up p t (n+1)
theorem Top.root {b:Int×Int->Int×Int}{p t:Int×Int}{n:Nat}(a:Top b p t n):b t=t:=by
 induction a with
 | «at» h=>exact h
 | on _ _ c=>exact c
theorem Top.hang {b:Int×Int->Int×Int}{x y:Int×Int}(d:b x=x)(g:b y=y)(ne:x≠y){p t:Int×Int}{n:Nat}(a:Top b p t n):∃ m,m<=n+1/\Top (fun q=>if q=x then y else b q) p (if t=x then y else t) m:=by
 have i:Top (fun q=>if q=x then y else b q) y y 0:=.at (by rw [if_neg (UM ne)];exact g)
 induction a with
 | «at» h=>
  rename_i p
  by_cases e:p=x
  ·rw [if_pos e]
   refine ⟨1,SX _,.on ?_ ?_⟩
   ·rw [if_pos e,e]
    exact UM ne
   ·rw [if_pos e]
    exact i
  ·rw [if_neg e]
   exact ⟨0,Um _,.at (by rw [if_neg e];exact h)⟩
 | on h a c=>
  rename_i p t n
  obtain ⟨m,j,c⟩:=c
  have e:p≠x:=fun e=>h (by rw [e];exact d)
  refine ⟨m+1,by omega,.on ?_ ?_⟩
  ·rw [if_neg e];exact h
  ·rw [if_neg e];exact c
structure Uf (l:List ((Int×Int)×(Int×Int)))(V:List (Int×Int))(up tp:Int×Int->Int×Int):Prop where
 go:∀ p∈V,up p∈V
 to:∀ p∈V,tp p∈V/\∃ n,n<=l.length/\Top up p (tp p) n
 cn:∀ p∈V,∀ q∈V,tp p=tp q↔Cn (Of l) p q
theorem Uf.start (V:List (Int×Int)):Uf [] V id id:=by
 refine ⟨fun p h=>h,fun p h=>⟨h,0,SX _,.at rfl⟩,fun p _ q _=>⟨fun e=>?_,fun c=>?_⟩⟩
 ·obtain rfl:p=q:=e
  exact .refl
 ·induction c with
  | refl=>rfl
  | step _ c _=>rcases c with c|c<;>cases c
section
variable {l:List ((Int×Int)×(Int×Int))}{V:List (Int×Int)}{up tp:Int×Int->Int×Int}{a b:Int×Int}
theorem Uf.same (U:Uf l V up tp)(j:a∈V)(m:b∈V)(e:tp a=tp b):Uf ((a,b)::l) V up tp:=by
 refine ⟨U.go,fun p h=>?_,fun p g q i=>?_⟩
 ·obtain ⟨c,n,d,o⟩:=U.to p h
  exact ⟨c,n,Nat.le_succ_of_le d,o⟩
 ·rw [lA z7,<- U.cn p g q i,<- U.cn p g a j,<- U.cn b m q i,<- U.cn p g b m,<- U.cn a j q i]
  try dsimp only
  constructor
  ·exact .inl
  ·rintro (h|⟨c,d⟩|⟨c,d⟩)
   ·exact h
   ·exact c.trans (e.trans d)
   ·exact c.trans (e.symm.trans d)
theorem Uf.join (U:Uf l V up tp)(g:a∈V)(i:b∈V)(e:tp a≠tp b):Uf ((a,b)::l) V (fun q=>if q=tp a then tp b else up q) (fun q=>if tp q=tp a then tp b else tp q):=by
 obtain ⟨_,_,_,v⟩:=U.to a g
 obtain ⟨r,_,_,w⟩:=U.to b i
 refine ⟨fun p h=>?_,fun p h=>?_,fun p j q o=>?_⟩
 ·split
  ·exact r
  ·exact U.go p h
 ·obtain ⟨c,n,d,s⟩:=U.to p h
  obtain ⟨m,x,u⟩:=s.hang v.root w.root e
  refine ⟨?_,m,by rw [Ti];omega,u⟩
  try dsimp only
  split
  ·exact r
  ·exact c
 ·rw [lA z7,<- U.cn p j q o,<- U.cn p j a g,<- U.cn b i q o,<- U.cn p j b i,<- U.cn a g q o]
  try dsimp only
  by_cases c:tp p=tp a
  ·by_cases d:tp q=tp a
   ·rw [if_pos c,if_pos d]
    exact ⟨fun _=>.inl (c.trans d.symm),fun _=>rfl⟩
   ·rw [if_pos c,if_neg d]
    constructor
    ·exact fun z=>.inr (.inl ⟨c,z⟩)
    ·rintro (z|⟨_,z⟩|⟨z,_⟩)
     ·exact absurd (z.symm.trans c) d
     ·exact z
     ·exact absurd (c.symm.trans z) e
  ·by_cases d:tp q=tp a
   ·rw [if_neg c,if_pos d]
    constructor
    ·exact fun z=>.inr (.inr ⟨z,d.symm⟩)
    ·rintro (z|⟨z,_⟩|⟨z,_⟩)
     ·exact absurd (z.trans d) c
     ·exact absurd z c
     ·exact z
   ·rw [if_neg c,if_neg d]
    constructor
    ·exact .inl
    ·rintro (z|⟨z,_⟩|⟨_,z⟩)
     ·exact z
     ·exact absurd z c
     ·exact absurd z.symm d
end
theorem RV (v:Int×Int->D){K:List (Int×Int)}(a:K.Nodup)(p:Int×Int):cZ (aM v K) (aR p) (v p)=aM v (if p∈K then K else K++[p]):=by
 by_cases h:p∈K
 ·rw [if_pos h]
  unfold cZ
  rw [mV a h,XS,if_pos rfl]
  unfold aM
  rw [TM]
  refine UP fun q _=>?_
  show (if aR q=aR p then (aR q,v p) else (aR q,v q))=_
  by_cases e:q=p
  ·rw [if_pos (by rw [e]),e]
  ·rw [if_neg fun z=>e (k5 z)]
 ·rw [if_neg h]
  exact tX h
theorem RW (g:Int×Int->Int×Int){K:List (Int×Int)}(a:K.Nodup){p:Int×Int}(h:p∈K)(y:Int×Int):cZ (aM (fun q=>PP (g q)) K) (aR p) (PP y)=aM (fun q=>PP (if q=p then y else g q)) K:=by
 unfold cZ
 rw [mV a h,XS,if_pos rfl]
 unfold aM
 rw [TM]
 refine UP fun q _=>?_
 show (if aR q=aR p then (aR q,PP y) else (aR q,PP (g q)))=(aR q,PP (if q=p then y else g q))
 by_cases e:q=p
 ·rw [if_pos (by rw [e]),if_pos e]
 ·rw [if_neg (fun z=>e (k5 z)),if_neg e]
theorem FU {p q:Int×Int}{e:Hm}{Q:D×Hm->Prop}:W (bE true (PP p) (PP q) e) Q↔Q (.bl (!decide (p=q)),e):=by
 unfold PP P
 rw [Pn]
 have:(p.1 == q.1&&(p.2 == q.2&&true))=decide (p=q):=by
  obtain ⟨a,b⟩:=p
  obtain ⟨c,d⟩:=q
  rw [a0d,a1Z,S0,beq_iff_eq,beq_iff_eq,decide_eq_true_iff,Vd]
 rw [this]
theorem RX (k:Nat){V:List (Int×Int)}(g:V.Nodup){a:Int×Int->Int×Int}(go:∀ p∈V,a p∈V){c:Hm}{u:Nat}(e:c[u]? = some (.dT (aM (fun q=>PP (a q)) V))){p t:Int×Int}{n:Nat}(j:p∈V)(l:n<=400)(T:Top a p t n)(Q:D×Hm->Prop)(H:Q (PP t,c)):W (f (k+1) "_law_top" [.loc u,PP p] c) Q:=by
 rw [P1,cD,aZ]
 refine Fs (fun m i b=>b=c/\∃ q,q∈V/\Top a q t m/\i=[some (.loc u),some (PP q)]) n (by omega) ⟨rfl,p,j,T,rfl⟩ ?_
 rintro m i b ⟨rfl,q,d,T,rfl⟩
 simp only [cH,aT,aE,aG]
 refine (EF e (gX q) (mV g d)).mpr ?_
 rw [FU]
 cases T with
 | «at» h=>
  rw [decide_eq_true h]
  simp only [US,S9,if_false,dR,b8,aE,aG]
  exact H
 | on h T=>
  rw [decide_eq_false h]
  simp only [U6,if_true,dR,bL,aT,aE,aG]
  refine (EF e (gX q) (mV g d)).mpr ?_
  exact ⟨_,XA _,rfl,a q,go q d,T,rfl⟩
theorem RY {m:ME}{ρ:aH}{b:Hm}{a:Nat}{v:Int×Int->D}{ps:List (Int×Int)}(c:∀ Q:D×Hm->Prop,W (m ρ b) Q↔Q (.loc a,b))(h:b[a]? = some (.dT (aM v ps))){Q:D×Hm->Prop}:W (oD m ρ b) Q↔Q (.loc b.length,b++[.lst (ps.map PP)]):=by
 unfold oD
 rw [W_bind,c]
 have e:sP (.loc a) b=some (.loc b.length,b++[.lst (ps.map PP)]):=by
  simp only [sP,h,TM]
  rfl
 dsimp only
 rw [e]
 exact W_some
theorem RZ {K:List (Int×Int)}(b:K.Nodup)(p:Int×Int):(if p∈K then K else K++[p]).Nodup:=by
 split
 ·exact b
 ·rename_i h
  refine VT.mpr ⟨b,by simp,fun x c y a z=>?_⟩
  rw [Tq] at a
  exact h (by rw [<- a,<- z];exact c)
theorem R0 (K:List (Int×Int))(p:Int×Int):(if p∈K then K else K++[p]).length<=K.length+1:=by
 split
 ·omega
 ·rw [SV];exact SX _
theorem R6 (K:List (Int×Int))(p:Int×Int):p∈(if p∈K then K else K++[p])/\∀ q∈K,q∈(if p∈K then K else K++[p]):=by
 split
 ·rename_i h;exact ⟨h,fun q h=>h⟩
 ·exact ⟨by simp,fun q h=>Uv _ h⟩
section
variable {x0 x1 x2 x5 x6 x7 x8 x9:Option D}{μ0 μ:Hm}{c u:Nat}{L:List (Int×Int)}
theorem R8 (k:Nat)(Z:∀ e∈L,bK (a9 e.1 e.2) "lufr" = true) (ll:L.length<=400)(N:μ0 <+: μ)(lu:μ0.length<=u)(hc:μ0[c]? = some (.lst (L.map PP)))(hd:μ[u]? = some (.dT []))(Q:Fl×aH×Hm->Prop)
  (H:∀ V b o l,μ0 <+: b->V.Nodup->V.length<=2 * L.length->(∀ e∈L,cM e∈V/\cN e∈V)->b[u]? = some (.dT (aM PP V))->Q (.nx,[x0,x1,x2,some (.loc c),some (.loc u),o,l,x7,x8,x9],b)) :
  W (d7 (gR (.loc c)) (cT 5) (dG (cY (aL (f (k+2) "_law_tips") (aC (aA 5) aD))) (cT 6) (dD (aA 4) (aA 6) (aA 6))) ((L.map PP).length+1) 0 [x0,x1,x2,some (.loc c),some (.loc u),x5,x6,x7,x8,x9] μ) Q:=by
 refine oI (fun i n b=>∃ V o l,μ0 <+: b/\V.Nodup/\V.length<=2 * i/\(∀ e∈L.take i,cM e∈V/\cN e∈V)/\b[u]? = some (.dT (aM PP V))/\n=[x0,x1,x2,some (.loc c),some (.loc u),o,l,x7,x8,x9])
  ⟨[],x5,x6,N,XX,SX _,fun e h=>by simp at h,hd,rfl⟩ (fun i n b ⟨_,_,_,p,_⟩=>aS p hc) ?_ ?_
 ·rintro i d n v hd ⟨V,o,l,K,I,y,s,w,rfl⟩
  obtain ⟨e,E,rfl⟩:=qN hd
  have hi:i<L.length:=(SN.mp E).1
  refine ⟨_,rfl,?_⟩
  simp only [SY,S1,fN,gD,bF,aQ,aO,aE,aG]
  refine FQ k e (Z e (Th E)) _ _ fun a μ2 Y la R=>?_
  refine (gE R).mpr ?_
  have ua:u≠a:=by
   have:=(SN.mp w).1
   omega
  refine oI (fun j n b=>∃ m l,μ0 <+: b/\b[a]? = some (.lst ([cM e,cN e].map PP))/\m.Nodup/\m.length<=2 * i+j/\(∀ q∈V,q∈m)/\(∀ q∈[cM e,cN e].take j,q∈m)/\b[u]? = some (.dT (aM PP m))/\n=[x0,x1,x2,some (.loc c),some (.loc u),some (PP e),l,x7,x8,x9])
   ⟨V,l,K.trans Y,R,I,y,fun q h=>h,fun q h=>by simp at h,aS Y w,rfl⟩ (fun j n b ⟨_,_,_,g,_⟩=>g) ?_ ?_
  ·rintro j d n O hd ⟨m,l,M,T,z,X,A,B,x,rfl⟩
   obtain ⟨q,U,rfl⟩:=qN hd
   have hj:j<2:=(SN.mp U).1
   refine ⟨_,rfl,?_⟩
   simp only [SY,S1,k4,aE,aG]
   refine (oM x (gX q) (by rw [SQ,T3];omega)).mpr ?_
   rw [RV PP z]
   have G:=R6 m q
   refine ⟨_,_,fM M lu _,by rw [iX (UM ua)];exact T,RZ z q,?_,fun r h=>G.2 r (A r h),fun r h=>?_,gG x,rfl⟩
   ·have:=R0 m q
    omega
   ·rw [mU U] at h
    rcases Tf.mp h with h|h
    ·exact G.2 r (B r h)
    ·rw [Tq.mp h];exact G.1
  ·rintro n O ⟨m,l,M,T,z,X,A,B,x,rfl⟩
   refine ⟨m,_,_,M,z,by simpa [Nat.mul_succ] using X,fun r h=>?_,x,rfl⟩
   rw [mU E] at h
   rcases Tf.mp h with h|h
   ·exact ⟨A _ (s r h).1,A _ (s r h).2⟩
   ·rw [Tq.mp h]
    exact ⟨B _ (by simp),B _ (by simp)⟩
 ·rintro n v ⟨V,o,l,K,I,y,s,w,rfl⟩
  rw [SQ] at y
  rw [SQ,Xi] at s
  exact H V v o l K I y s w
end
section
variable {x0 x1 x2 x5 x6 x8 x9:Option D}{μ0 μ:Hm}{c u:Nat}{L V:List (Int×Int)}
theorem Sa {a:Type}{l:List a}{i:Nat}{e:a}(h:l[i]? = some e):(l.take (i+1)).reverse=e::(l.take i).reverse:=by
 rw [mU h,YF];rfl
noncomputable def FV (k:Nat):MS:=aK (kB (fH (cY (aL (f (k+2) "_law_tips") (aC (aA 5) aD))) lQ (aL (f (k+2) "_law_top") (aC (aA 4) (aC (aA 10) aD)))) (eX [8,9])) (bT (aU (aB (bE true) (aA 8) (aA 9))) (aK (dD (aA 4) (aA 8) (aA 9)) (aX 7 (aB cA (aA 7) (mC (.int 1))))) bS)
theorem Sb (k:Nat)(hL:∀ e∈L,bK (a9 e.1 e.2) "lufr" = true) (ll:L.length<=400)(Y:V.Nodup)(lV:V.length<=800)(hV:∀ e∈L,cM e∈V/\cN e∈V)(M:μ0 <+: μ)(lu:μ0.length<=u)(hc:μ0[c]? = some (.lst (L.map PP)))(hd:μ[u]? = some (.dT (aM PP V)))(Q:Fl×aH×Hm->Prop)
  (H:∀ (j:Int×Int->Int×Int) g b l m o,μ0 <+: b->g+(L.length:Int)=V.length+eQ (L.reverse.map cE)->b[u]? = some (.dT (aM (fun q=>PP (j q)) V))->Q (.nx,[x0,x1,x2,some (.loc c),some (.loc u),l,x6,some (.int g),m,o],b)) :
  W (d7 (gR (.loc c)) (cT 5) (FV k) ((L.map PP).length+1) 0 [x0,x1,x2,some (.loc c),some (.loc u),x5,x6,some (.int V.length),x8,x9] μ) Q:=by
 refine oI (fun i A b=>∃ (j h:Int×Int->Int×Int)(g:Int)(l m o:Option D),μ0 <+: b/\Uf ((L.take i).reverse.map cE) V j h/\g+(i:Int)=V.length+eQ ((L.take i).reverse.map cE)/\b[u]? = some (.dT (aM (fun q=>PP (j q)) V))/\A=[x0,x1,x2,some (.loc c),some (.loc u),l,x6,some (.int g),m,o])
  ⟨id,id,V.length,x5,x8,x9,M,Uf.start V,rfl,hd,rfl⟩ (fun i A b ⟨_,_,_,_,_,_,p,_⟩=>aS p hc) ?_ ?_
 ·rintro i d A s hd ⟨j,h,g,l,m,o,I,U,E,w,rfl⟩
  obtain ⟨e,x,rfl⟩:=qN hd
  have hi:i<L.length:=(SN.mp x).1
  obtain ⟨r,y⟩:=hV e (Th x)
  refine ⟨_,rfl,?_⟩
  unfold FV
  rw [aZ]
  simp only [SY,S1,Eu]
  refine kZ (xs:=[cM e,cN e].map PP) (p:=fun _=>true) (v:=fun d=>PP (h (bX d))) ?_
  simp only [gD,bF,aQ,aO,aE,aG]
  refine FQ k e (hL e (Th x)) _ _ fun a N K la X=>?_
  refine (gE X).mpr ?_
  refine ⟨oJ X,rfl,by show (2:Nat)<=S8;decide,?_,?_,?_⟩
  ·intro d b _ _
   exact (w_mTrue).mpr ⟨rfl,Uk _⟩
  ·intro d b hd _ hp
   obtain ⟨q,G,rfl⟩:=Ts.mp hd
   have qV:q∈V:=by
    rcases To.mp G with rfl|G
    ·exact r
    ·rw [Tq.mp G];exact y
   obtain ⟨_,n,hn,T⟩:=U.to q qV
   rw [SQ,Uo,Tu] at hn
   simp only [TR,Ug,bF,aQ,aO,aE,aG]
   refine RX (k+1) Y U.go (aS (K.trans hp) w) qV (by omega) T _ ⟨?_,Uk _⟩
   obtain ⟨qx,qy⟩:=q
   rfl
  ·intro v Z g3
   have g4:v[N.length]? = some (.lst [PP (h (cM e)),PP (h (cN e))]):=g3
   refine (Pq g4).mpr ?_
   simp only [SY,S1,dE,cH,aT,aE,aG]
   rw [FU]
   have p4:μ0 <+: v:=I.trans (K.trans Z)
   have B:=aS (K.trans Z) w
   have O:=U.cn _ r _ y
   rw [Sa x,S5]
   have R:eQ (cE e::((L.take i).reverse.map cE))=eQ ((L.take i).reverse.map cE)+eM (Cn (Of ((L.take i).reverse.map cE)) (cM e) (cN e)):=rfl
   by_cases z:h (cM e)=h (cN e)
   ·rw [decide_eq_true z]
    simp only [US,dR,S9,if_false,dQ]
    refine ⟨j,h,g,_,_,_,p4,U.same r y z,?_,B,rfl⟩
    rw [R,g7 (O.mp z)]
    omega
   ·rw [decide_eq_false z]
    simp only [U6,dR,if_true,aZ,k4,aE,aG]
    refine (oM B (gX _) (by rw [SQ,T3];omega)).mpr ?_
    rw [RW j Y (U.to _ r).1]
    simp only [bL,aT,aE,aG,aV,jQ,SY,S1]
    refine ⟨_,_,g - 1,_,_,_,fM p4 lu _,U.join r y z,?_,gG B,rfl⟩
    rw [R,jW fun q=>z (O.mpr q)]
    omega
 ·rintro A s ⟨j,h,g,l,m,o,I,U,E,w,rfl⟩
  rw [SQ,Xi] at E
  exact H j g s l m o I E w
end
theorem Se {w h:Int}(hw:1<=w/\w<=6)(a:1<=h/\h<=6):(cO w h).length<=24:=by
 have:(cO w h).length=(lC h w.toNat).length+(lD w h.toNat).length:=SV
 rw [this,uD,Al]
 omega
theorem Am (k:Nat){w h:Int}(hw:1<=w/\w<=6)(n:1<=h/\h<=6){v:Int×Int->D}{ps:List (Int×Int)}(U:ps.Nodup)(E:∀ x∈ps,x∈aJ w h "lufr") (O:ps.length<=300){l:Hm}{m:Nat}(B:l[m]? = some (.dT (aM v ps)))(Q:D×Hm->Prop)
  (H:∀ j,l <+: j->Q (.int (eQ ((cO w h++ps).reverse.map cE)),j)):W (f (k+3) "_law_due" [.int w,.int h,.loc m] l) Q:=by
 have p:∀ e∈cO w h++ps,bK (a9 e.1 e.2) "lufr" = true:=fun e i=>by
  rcases Tf.mp i with i|i
  ·exact (oS _ _).mpr (Ai hw n i).1.1
  ·exact (mem_partI.mp (E e i)).2
 have bl:=Se hw n
 have q:(cO w h++ps).length<=400:=by rw [SV];omega
 rw [P2,cD,aZ]
 simp only [bL,aT,bF,aQ,aO,aE,aG]
 refine RU (k+1) w h hw n _ _ fun a b r T z=>?_
 refine (RY (fun Q=>by simp only [aE,aG]) (aS r B)).mpr ?_
 refine (oK (aS (bC _ _) z) (bM _ _) (by rw [SQ,SQ,T3];omega)).mpr ?_
 rw [<- UN]
 simp only [SY,S1]
 have y:l <+: b++[C.lst (ps.map PP)]++[C.lst ((cO w h++ps).map PP)]:=r.trans ((bC _ _).trans (bC _ _))
 have d:=bM (b++[C.lst (ps.map PP)]) (C.lst ((cO w h++ps).map PP))
 generalize (b++[C.lst (ps.map PP)]).length=c at d ⊢
 generalize b++[C.lst (ps.map PP)]++[C.lst ((cO w h++ps).map PP)]=μ2 at d y ⊢
 rw [aZ]
 simp only [bL,qJ,SY,S1]
 rw [aZ]
 simp only [fN,gD,aE,aG]
 refine (gE (aS (bC _ _) d)).mpr ?_
 refine R8 k p q (μ0:=μ2) (bC _ _) (SX _) d (bM _ _) _ fun V L I X s G R K o=>?_
 rw [aZ]
 simp only [bL,bF,aQ,aO,aE,aG]
 refine (zB o).mpr ?_
 simp only [SY,S1]
 rw [SQ,aZ]
 simp only [fN,gD,aE,aG]
 refine (gE (aS s d)).mpr ?_
 refine Sb k p q G (by omega) K s (SX _) d o _ fun up g M I Y Z u N A=>?_
 simp only [b8,aT,bF,aQ,aO,aE,aG]
 refine (mR (aS u d)).mpr ?_
 refine (zB A).mpr ?_
 simp only [jQ,eI,SQ]
 rw [show ((cO w h++ps).length:Int) - (V.length:Int)+g=(eQ ((cO w h++ps).reverse.map cE):Int) by omega]
 exact H _ (y.trans u)
theorem FW (k:Nat){ns:List Int}{c:Nat}(i:Int)(o:0<=i){a:Hm}(hc:a[c]? = some (.lst (ns.map D.int)))(Q:D×Hm->Prop)(h:∀ d,a <+: d->Q (.int (cell ns i),d)):W (f (k+1) "_law_draw" [.loc c,.int i] a) Q:=by
 rw [EG,cD]
 simp only [b8,aT,aV,aE,aG,aO,aQ,eH]
 refine ⟨by decide,?_⟩
 refine Pu ?_
 simp only [aE]
 refine ⟨_,rfl,?_⟩
 simp only [tQ,aT,aV,aE,aG,eI]
 obtain ⟨n,rfl⟩:∃ n:Nat,i=n:=⟨i.toNat,by omega⟩
 refine ⟨_,aS (bC _ _) hc,?_⟩
 rw [EH]
 generalize hl:(ns.drop n).take 1=l
 have e:l.length<=1:=by rw [<- hl,Tu];omega
 have m:(1:Nat)+(l.map D.int).length<=S8:=by
  rw [SQ,T3];omega
 have g:(a++[C.lst [D.int 0]]++[C.lst (l.map D.int)])[a.length]? = some (C.lst [D.int 0]):=aS (bC _ _) (bM _ _)
 have j:(a++[C.lst [D.int 0]]++[C.lst (l.map D.int)])[(a++[C.lst [D.int 0]]).length]? = some (C.lst (l.map D.int)):=bM _ _
 rw [oK g j m]
 simp only [yW,aV]
 have b:=EI ns n
 rw [hl] at b
 refine (iU (bM _ _) b).mpr ?_
 exact h _ ((bC _ _).trans ((bC _ _).trans (bC _ _)))
theorem Sf {n:Int}(b:0<=n)(h1:n<2147483629){a:Hm}{Q:D×Hm->Prop}:W (nD (.int n) (.int 2) a) Q↔Q (.int (n ^ (2:Int).toNat),a):=Pm ⟨by decide,by decide,by omega⟩
noncomputable def oU (w h:Int)(c b d i:Nat)(a:Hm)(r:Fl×aH×Hm):Prop:=∃ z:Int,r.1=.nx/\r.2.1=[some (.int w),some (.int h),some (.loc c),some (.loc b),some (.loc d),some (.int i),some (.int z)]/\a <+: r.2.2
noncomputable def An (w h:Int)(c b i:Nat)(z:Int)(a:Hm)(r:Fl×aH×Hm):Prop:=∃ ps m,r.1=.nx/\r.2.1=[some (.int w),some (.int h),some (.loc c),some (.loc b),some (.loc a.length),some (.int i),some (.int z)]/\Mk w h ps m/\a <+: r.2.2/\r.2.2[a.length]? = some (.dT (aM (bI m) ps))
theorem Sg (k:Nat){w h:Int}(hw:1<=w/\w<=6)(L:1<=h/\h<=6){ns:List Int}{K:Hm}{c:Nat}(hc:K[c]? = some (.lst (ns.map D.int)))(Q:D×Hm->Prop)
  (H:∀ a l m d,K <+: d->K.length<=a->Mk w h l m->d[a]? = some (.dT (aM (bI m) l))->Q (.loc a,d)):W (f (k+3) "_law_dug" [.int w,.int h,.loc c] K) Q:=by
 rw [P5,cD,aZ]
 simp only [bL,bF,aQ,aO,aE,aG,aV]
 refine zK k w h "lufr" hw L _ _ fun b g G Z lb=>?_
 simp only [SY,S1]
 rw [aZ]
 simp only [bL,qJ,SY,S1]
 rw [aZ]
 simp only [fN,qI (j:=0),aQ,aO,bF,aE,aG]
 refine (mR (aS (bC _ _) Z)).mpr ?_
 have ln:=tZ hw.2 L.2 "lufr"
 rw [SQ]
 refine ⟨by omega,?_⟩
 rw [UE]
 refine mQ (lo:=0) (fun i u d=>∃ R I l m,(i=0\/∃ r:Int,I=some (.int r))/\u=[some (.int w),some (.int h),some (.loc c),some (.loc b),some (.loc g.length),R,I]/\Mk w h l m/\g <+: d/\d[g.length]? = some (.dT (aM (bI m) l)))
  ⟨_,_,[],fun _=>"h",.inl rfl,rfl,⟨XX,(fun _ z=>nomatch z),fun _=>.inr (.inr rfl)⟩,bC _ _,bM _ _⟩ ?_ ?_
 ·rintro i u d hi ⟨R,I,l,m,E,rfl,M,p,y⟩
  refine ⟨_,rfl,?_⟩
  simp only [SY,S1,a0z]
  have A:0<=(i:Int) / 60:=by omega
  rw [aZ]
  refine bQ (Q:=oU w h c b g.length i d) ?_ ?_
  ·simp only [dE,cH,aT,aE,aG,aV]
   rw [dJ (by decide),jS]
   simp only [dR]
   by_cases z:(i:Int) % 60=0
   ·rw [beq_iff_eq.mpr z]
    simp only [if_true,bL,bF,aQ,aO,aT,aE,aG,aV]
    rw [gU (by decide) (by decide)]
    refine FW (k+1) _ A (aS (G.trans p) hc) _ fun T x=>?_
    unfold oU
    exact ⟨_,rfl,rfl,x⟩
   ·rw [beq_eq_false_iff_ne.mpr z]
    simp only [S9,if_false,dQ]
    rcases E with E|⟨r,rfl⟩
    ·rw [E] at z
     exact absurd rfl z
    ·unfold oU
     exact ⟨r,rfl,rfl,Uk _⟩
  rintro ⟨X,ρ,T⟩ ⟨z,n,o,x⟩
  dsimp only at n o x
  subst n o
  dsimp only
  rw [aZ]
  refine bQ (Q:=oU w h c b g.length i d) ?_ ?_
  ·simp only [dE,cH,aT,aE,aG,aV,yY,dR]
   by_cases B:z<1
   ·rw [decide_eq_true B]
    simp only [if_true,bL,bF,aQ,aO,aT,aE,aG,aV]
    rw [gU (by decide) (by decide)]
    refine FW (k+1) _ A (aS (G.trans (p.trans x)) hc) _ fun U j=>?_
    generalize cell ns ((i:Int) / 60)=v
    rw [jR (.inr (by decide)),jR (.inr (by decide)),eI,eI,dJ (by decide)]
    rw [Sf (VW _ (by decide)) (Vb _ (by decide))]
    unfold oU
    exact ⟨_,rfl,rfl,x.trans j⟩
   ·rw [decide_eq_false B]
    simp only [S9,if_false,dQ]
    unfold oU
    exact ⟨z,rfl,rfl,x⟩
  rintro ⟨X,ρ,U⟩ ⟨z,n,o,j⟩
  dsimp only at n o j
  subst n o
  dsimp only
  rw [aZ]
  refine bQ (Q:=An w h c b i z g) ?_ ?_
  ·simp only [dE,cH,aT,aE,aG,aV]
   rw [dJ (by decide),Po]
   simp only [dR]
   by_cases B:z % 4>0
   ·rw [decide_eq_true B]
    simp only [if_true,k4,aT,aE,aG,aV]
    rw [dJ (by decide),jQ]
    have z2:=Vb z (show (0:Int)<4 by decide)
    obtain ⟨s,ok,es⟩:=zS (i:=z % 4 - 1) (by omega)
    rw [es,W_some]
    have N:(aJ w h "lufr")[i]? = some (aJ w h "lufr")[i]:=SO hi
    have he:=Th N
    generalize (aJ w h "lufr")[i]=e at N he
    refine (iU (aS (p.trans j) Z) (d:=PP e) (oR (by omega) (by rw [UE,Tx,N];rfl))).mpr ?_
    refine zT hw.2 L.2 M (aS j y) he ok _ fun q O M2=>?_
    unfold An
    exact ⟨q,O,rfl,rfl,M2,fM (p.trans j) (SX _) _,gG (aS j y)⟩
   ·rw [decide_eq_false B]
    simp only [S9,if_false,dQ]
    unfold An
    exact ⟨l,m,rfl,rfl,M,p.trans j,aS j y⟩
  rintro ⟨X,ρ,μ5⟩ ⟨q,O,n,o,M2,p5,Y⟩
  dsimp only at n o p5 Y
  subst n o
  dsimp only
  simp only [bL,aT,aE,aG,aV,SY,S1]
  rw [gU (by decide) (by decide)]
  exact ⟨_,_,q,O,.inr ⟨_,rfl⟩,rfl,M2,p5,Y⟩
 ·rintro u d ⟨R,I,l,m,E,rfl,M,p,y⟩
  simp only [b8,aE,aG]
  exact H _ l m d (G.trans p) G.length_le M y
theorem uE (k:Nat){w h:Int}(hw:1<=w/\w<=6)(d:1<=h/\h<=6){ps:List (Int×Int)}{mk:Int×Int->Str}(g:ps.Nodup){b:Hm}{m:Nat}(e:b[m]? = some (.dT (aM (bI mk) ps)))(Q:D×Hm->Prop)
  (H:∀ a,b <+: a->Q (.int (gH w h ps).length,a)):W (f (k+6) "_law_counted" [.int w,.int h,.loc m] b) Q:=by
 rw [P4,cD]
 simp only [b8,bF,aQ,aO,gC,aE,aG]
 refine (QY e fun Q=>by simp only [aE,aG]).mpr ⟨by show (3:Nat)<=S8;decide,?_⟩
 refine Ry k hw d g _ _ fun t l i A=>?_
 obtain ⟨_,bs,c,j⟩:=A
 refine (mR c).mpr ?_
 rw [SQ,j.length,SQ]
 exact H _ i
theorem FX {i j:Type}{g:i->j}:∀ {l:List i},(l.map g).Nodup->∀ a∈l,∀ b∈l,g a=g b->a=b
 | [],_,_,h,_,_,_=>nomatch h
 | x::l,nd,a,ha,b,hb,e=>by
  rw [S5,TX] at nd
  rcases To.mp ha with d|d
  ·rcases To.mp hb with c|c
   ·rw [d,c]
   ·exact absurd (Ts.mpr ⟨b,c,by rw [<- e,d]⟩) nd.1
  ·rcases To.mp hb with c|c
   ·exact absurd (Ts.mpr ⟨a,d,by rw [e,c]⟩) nd.1
   ·exact FX nd.2 a d b c e
theorem Si:(((cJ 6 6).filter gF).map fun p=>Tb.hashT [p.1,p.2]).Nodup:=by decide +kernel
theorem FY {w h:Int}(hw:1<=w/\w<=6)(e:1<=h/\h<=6){p:Int×Int}(d:p∈aJ w h "lufr"):p∈(cJ 6 6).filter gF:=by
 rw [<- qM]
 obtain ⟨⟨a,b⟩,c⟩:=mem_partI.mp d
 exact mem_partI.mpr ⟨⟨⟨a.1,by omega⟩,b.1,by omega⟩,c⟩
theorem Sj {j:Type}{H:List Int->j}{E ps:List (Int×Int)}(h:(E.map fun p=>H [p.1,p.2]).Nodup)(c:∀ x∈ps,x∈E)(i:ps.Nodup)(v:Int×Int->D):((aM v ps).map fun p=>H p.1).Nodup:=by
 unfold aM XY
 rw [TM,TZ]
 exact VH (fun {a b} d g n e=>n (FX h a (c a d) b (c b g) e)) i
theorem Mk.hash {w h:Int}{ps:List (Int×Int)}{m:Int×Int->Str}(M:Mk w h ps m)(hw:1<=w/\w<=6)(a:1<=h/\h<=6)(v:Int×Int->D):((aM v ps).map fun p=>Tb.hashT p.1).Nodup:=
 Sj Si (fun x b=>FY hw a (M.ed x b)) M.nd v
theorem FZ {b:Hm}{a:Nat}{kvs:List (List Int×D)}{Q:D×Hm->Prop}(h:b[a]? = some (.dT kvs))(h1:(kvs.map fun p=>Tb.hashT p.1).Nodup):W (jP [.loc a] b) Q↔Q (.loc b.length,b++[.dT kvs]):=by
 simp only [jP,h]
 rw [if_pos h1]
 exact W_some
theorem Sk {b:Hm}{a:Nat}{kvs:List (List Int×D)}{y d:D}{k:List Int}{Q:D×Hm->Prop}(h:b[a]? = some (.dT kvs))(c:dC y=some k)(e:b7 kvs k=some d):W (kT (.loc a) [y] b) Q↔Q (d,b.set a (.dT (kS kvs k))):=by
 have:kT (.loc a) [y] b=some (d,b.set a (.dT (kS kvs k))):=by
  simp only [kT,h,c,T1,e,T9]
 rw [this]
 exact W_some
theorem Sm (v:Int×Int->D)(ps:List (Int×Int))(p:Int×Int):kS (aM v ps) (aR p)=aM v (ps.filter fun q=>!decide (q=p)):=by
 unfold kS aM
 rw [WM]
 congr 1
 refine W7 fun q _=>?_
 show (!decide (aR q=aR p))=_
 congr 1
 rw [decide_eq_decide]
 exact Qu
theorem Sn {c:Hm}{a b:Nat}{kvs:List (List Int×D)}{Q:D×Hm->Prop}(d:c[a]? = some (.dT kvs))(e:c[b]? = some (.dT [])):W (fK false (.loc a) (.loc b) c) Q↔Q (.bl kvs.isEmpty,c):=by
 have:fK false (.loc a) (.loc b) c=some (.bl kvs.isEmpty,c):=by
  simp only [fK,d,e]
  cases kvs with
  | nil=>rfl
  | cons x l=>rw [if_neg (by simp)];rfl
 rw [this]
 exact W_some
theorem So {a:Hm}{A B:Nat}{ds:List D}{Q:D×Hm->Prop}(c:a[A]? = some (.lst ds))(d:a[B]? = some (.lst [])):W (bE true (.loc A) (.loc B) a) Q↔Q (.bl (!ds.isEmpty),a):=by
 have b:∀ {x:Nat}{xs:List D},a[x]? = some (.lst xs)->j9 a (.loc x)=some (.lst xs):=fun h=>by simp only [j9,h]
 have e:c9 8 a (.loc A) (.loc B)=some ds.isEmpty:=by
  show (j9 a (.loc A)).bind (fun u=>(j9 a (.loc B)).bind fun v=>jA (c9 7 a) u v)=_
  rw [b c,b d]
  show i9 (c9 7 a) ds []=_
  cases ds<;>rfl
 unfold bE
 rw [e]
 exact W_some
theorem F0 {c:Hm}{a:Nat}{b:Bool}{z:Int}(hz:z=0\/z=1)(h:c[a]? = some (.lst [.int 0,.int 1])){Q:D×Hm->Prop}:W (cB b (.int z) (.loc a) c) Q↔Q (.bl (!b),c):=by
 have e:cB b (.int z) (.loc a) c=some (.bl (!b),c):=by
  simp only [cB,h,lY,bN,T1]
  rcases hz with rfl|rfl<;>cases b<;>rfl
 rw [e]
 exact W_some
theorem Mk.less {w h:Int}{ps:List (Int×Int)}{m:Int×Int->Str}(M:Mk w h ps m)(p:Int×Int):Mk w h (ps.filter fun q=>!decide (q=p)) m:=
 ⟨M.nd.sublist WH,fun q a=>M.ed q (T4.mp a).1,M.ok⟩
theorem mem_less {ps:List (Int×Int)}{p q:Int×Int}:q∈ps.filter (fun q=>!decide (q=p))↔q∈ps/\q≠p:=by
 rw [T4,Ws,decide_eq_false_iff_not]
theorem Mk.few {w h:Int}{ps:List (Int×Int)}{m:Int×Int->Str}(M:Mk w h ps m)(hw:1<=w/\w<=6)(c:1<=h/\h<=6):ps.length<=300:=by
 have a:=oQ M.nd (t:=(cJ 6 6).filter gF) fun x d=>FY hw c (M.ed x d)
 have b:((cJ 6 6).filter gF).length<=300:=by decide +kernel
 exact TQ a b
theorem Sq {m:ME}{ρ:aH}{b:Hm}{a:Nat}{v:Int×Int->D}{ps:List (Int×Int)}(h:b[a]? = some (.dT (aM v ps)))(c:∀ Q:D×Hm->Prop,W (m ρ b) Q↔Q (.loc a,b)){Q:D×Hm->Prop}:W (mK m ρ b) Q↔Q (.loc b.length,b++[.lst ((srt ps).map PP)]):=by
 unfold mK
 rw [W_bind,c]
 exact Ft h
theorem Ss (ns:List Int)(lo a:Option Int):∃ b:List Int,fF (ns.map D.int) lo a=b.map D.int:=by
 unfold fF
 exact ⟨_,by rw [<- YL,<- YK]⟩
theorem Su (ns:List Int):∃ a:List Int,a.length<=ns.length/\fF (ns.map D.int) (some 2) none=a.map D.int:=by
 unfold fF
 refine ⟨_,?_,by rw [<- YL,<- YK]⟩
 rw [Tu,T8]
 omega
theorem Sv (q:Int×Int):bX (PP q)=q:=rfl
noncomputable abbrev R9 (ns:List Int)(w h:Int)(a:Nat)(b c d e g:Option D):aH:=[some (.rol (ns.map D.int)),some (.int w),some (.int h),some (.loc a),b,c,d,e,g]
noncomputable def Ao (ns:List Int)(w h:Int)(a b:Nat)(z:Int)(d e:Option D)(g:Hm)(r:Fl×aH×Hm):Prop:=∃ c,r.1=.nx/\r.2.1=R9 ns w h a (some (.int z)) (some (.loc b)) c d e/\g <+: r.2.2
theorem Sw (k:Nat){ns:List Int}{w h:Int}(hw:1<=w/\w<=6)(i:1<=h/\h<=6){ps:List (Int×Int)}{m:Int×Int->Str}(M:Mk w h ps m){d:Hm}{a b:Nat}(N:d[a]? = some (.dT (aM (bI m) ps))){row:List (Int×Int)}(s:d[b]? = some (.lst (row.map PP)))(O:∀ e∈row,e∈aJ w h "lufr"/\e∉ps) {K L:Option D} :
  W (bT (aU (aB (bE true) (aA 5) (cQ aD))) (aK (aX 6 (aL jP (aC (aA 3) aD))) (aK (dD (aA 6) (aB aN (aA 5) (aB bG (aB cS (aL (f (k+6) "_law_draw") (aC (aA 0) (aC (mC (.int 0)) aD))) (mC (.int 48))) (aL c6 (aC (aA 5) aD)))) (mC (.str "h"))) (aK (bT (aU (aB (bE true) (aL (f (k+6) "_law_counted") (aC (aA 1) (aC (aA 2) (aC (aA 6) aD)))) (aL (f (k+6) "_law_due") (aC (aA 1) (aC (aA 2) (aC (aA 6) aD)))))) (bB (mC (.bl false))) bS) (bT (aU (aB (cB true) (aB cA (aL (f (k+6) "_law_counted") (aC (aA 1) (aC (aA 2) (aC (aA 6) aD)))) (aA 4)) (cQ (aC (mC (.int 0)) (aC (mC (.int 1)) aD))))) (bB (mC (.bl false))) bS)))) bS (R9 ns w h a (some (.int (gH w h ps).length)) (some (.loc b)) none K L) d)
  (Ao ns w h a b (gH w h ps).length K L d):=by
 simp only [dE,cH,aT,aE,aG,eH,aO]
 refine ⟨Um _,?_⟩
 rw [So (aS (bC _ _) s) (bM _ _)]
 simp only [dR]
 cases g:row with
 | nil=>
  simp only [Wb,a1G,US,S9,if_false,dQ]
  unfold Ao
  exact ⟨_,rfl,rfl,bC _ _⟩
 | cons Y I=>
  rw [<- g]
  have z:(row.map PP).isEmpty=false:=by rw [g];rfl
  rw [z]
  have pos:0<row.length:=by rw [g];exact Zh _
  simp only [U6,if_true]
  rw [aZ]
  simp only [bL,bF,aQ,aO,aE,aG]
  rw [FZ (aS (bC _ _) N) (M.hash hw i _)]
  simp only [SY,S1]
  have r:d <+: d++[C.lst []]++[C.dT (aM (bI m) ps)]:=(bC _ _).trans (bC _ _)
  have p:=bM (d++[C.lst []]) (C.dT (aM (bI m) ps))
  have E:d.length<=(d++[C.lst []]).length:=(bC _ _).length_le
  generalize (d++[C.lst []]).length=c at p E ⊢
  generalize d++[C.lst []]++[C.dT (aM (bI m) ps)]=μ1 at r p ⊢
  rw [aZ]
  simp only [k4,aT,aE,aG,aV,bF,aQ,aO]
  refine mT _ ns 0 (by decide) _ _ fun l n=>?_
  rw [gU (by decide) (by decide)]
  refine (mR (aS (r.trans n) s)).mpr ?_
  rw [SQ,dJ (by omega)]
  have B:=VW (cell ns 0 / 48) (show (row.length:Int)≠0 by omega)
  have Q:=Vb (cell ns 0 / 48) (show (0:Int)<(row.length:Int) by omega)
  generalize cell ns 0 / 48 % (row.length:Int)=j at B Q
  have v:row[j.toNat]? = some row[j.toNat]:=SO (by omega)
  obtain ⟨u,y⟩:=O _ (Th v)
  generalize row[j.toNat]=e at v u y
  refine (iU (aS (r.trans n) s) (d:=PP e) (oR B (by rw [Tx,v];rfl))).mpr ?_
  have lp:=M.few hw i
  refine (oM (aS n p) (gX e) (by rw [SQ,T3];omega)).mpr ?_
  rw [EM]
  have M2:=M.put u (c:="h") (.inr (.inr rfl))
  rw [if_neg y] at M2 ⊢
  have G:d <+: l.set c (C.dT (aM (bI fun q=>if q=e then "h" else m q) (ps++[e]))):=fM (r.trans n) E _
  have o:(l.set c (C.dT (aM (bI fun q=>if q=e then "h" else m q) (ps++[e]))))[c]? = _:=gG (aS n p)
  generalize l.set c (C.dT (aM (bI fun q=>if q=e then "h" else m q) (ps++[e])))=μ3 at G o ⊢
  rw [aZ]
  simp only [dE,cH,aT,aE,aG,aV,bF,aQ,aO]
  refine uE k hw i M2.nd o _ fun T A=>?_
  refine Am (k+3) hw i M2.nd M2.ed (M2.few hw i) (aS A o) _ fun U H=>?_
  rw [yX,<- Ak hw i M2.ed M2.nd]
  simp only [beq_self_eq_true,US,dR,S9,if_false,dQ,aE,aG]
  refine uE k hw i M2.nd (aS (A.trans H) o) _ fun X R=>?_
  simp only [jQ,eH,aQ,aO,aV,aE,aG]
  refine ⟨fP,?_⟩
  have nx:=FP hw i (ps:=ps) (qs:=ps++[e]) u y fun x=>by rw [Tf,Tq,or_comm]
  rw [F0 (by omega) (bM _ _)]
  simp only [US,dR,S9,if_false,dQ]
  unfold Ao
  exact ⟨_,rfl,rfl,G.trans (A.trans (H.trans (R.trans (bC _ _))))⟩
noncomputable abbrev Sx (k:Nat):MS:=aK (bT (aU (aB (fK false) (aA 3) jN)) (bB (aB (bE false) (aA 4) (mC (.int 1)))) bS) (aK (aX 7 (aL jP (aC (aA 3) aD))) (aK (gO (mI kT (aA 7) (aC (aB aN (mK (aA 3)) (aB bG (aB cS (aL (f (k+6) "_law_draw") (aC (aA 0) (aC (mC (.int 1)) aD))) (mC (.int 24))) (aL c6 (aC (aA 3) aD)))) aD))) (aK (aX 8 (aL (f (k+6) "_law_counted") (aC (aA 1) (aC (aA 2) (aC (aA 7) aD))))) (bB (iD (aB (bE false) (aA 8) (aL (f (k+6) "_law_due") (aC (aA 1) (aC (aA 2) (aC (aA 7) aD))))) (aB (cB false) (aB cA (aA 4) (aA 8)) (cQ (aC (mC (.int 0)) (aC (mC (.int 1)) aD)))))))))
noncomputable def Sy (r:Fl×aH×Hm):Prop:=r.1=.rt (.bl true)
theorem Sz (k:Nat){ns:List Int}{w h:Int}(hw:1<=w/\w<=6)(d:1<=h/\h<=6){ps:List (Int×Int)}{m:Int×Int->Str}(M:Mk w h ps m){o:Hm}{a:Nat}(G:o[a]? = some (.dT (aM (bI m) ps))){N O R T:Option D} :
  W (Sx k (R9 ns w h a (some (.int (gH w h ps).length)) N O R T) o) Sy:=by
 rw [aZ]
 simp only [dE,cH,aT,aE,aG,qJ]
 rw [Sn (aS (bC _ _) G) (bM _ _)]
 simp only [dR]
 have b:=aS (bC o (C.dT [])) G
 generalize o++[C.dT []]=μ1 at b ⊢
 cases c:ps with
 | nil=>
  subst c
  simp only [aM,Wb,a1G,if_true,b8,aT,aE,aG,aV]
  rw [jS,RQ hw d]
  exact rfl
 | cons Z L=>
  rw [<- c]
  have v:(aM (bI m) ps).isEmpty=false:=by rw [c];rfl
  have pos:0<ps.length:=by rw [c];exact Zh _
  rw [v]
  simp only [S9,if_false,dQ]
  rw [aZ]
  simp only [bL,bF,aQ,aO,aE,aG]
  rw [FZ b (M.hash hw d _)]
  simp only [SY,S1]
  have B:μ1 <+: μ1++[C.dT (aM (bI m) ps)]:=bC _ _
  have r:=bM μ1 (C.dT (aM (bI m) ps))
  generalize μ1++[C.dT (aM (bI m) ps)]=μ2 at B r ⊢
  rw [aZ]
  simp only [tI]
  refine Qp ?_
  simp only [aE,aG,aQ,aO,aT]
  refine ⟨Qq r,?_⟩
  refine (Sq (aS B b) fun Q=>by simp only [aE,aG]).mpr ?_
  simp only [bF,aQ,aO,aE,aG,aV]
  have E:=bC μ2 (C.lst ((srt ps).map PP))
  have s:=bM μ2 (C.lst ((srt ps).map PP))
  generalize μ2.length=l at s ⊢
  generalize μ2++[C.lst ((srt ps).map PP)]=μ3 at E s ⊢
  refine mT _ ns 1 (by decide) _ _ fun i A=>?_
  rw [gU (by decide) (by decide)]
  refine (zB (aS (B.trans (E.trans A)) b)).mpr ?_
  rw [SQ,dJ (by omega)]
  have H:=VW (cell ns 1 / 24) (show (ps.length:Int)≠0 by omega)
  have I:=Vb (cell ns 1 / 24) (show (0:Int)<(ps.length:Int) by omega)
  generalize cell ns 1 / 24 % (ps.length:Int)=j at H I
  have Y:=(gY ps).length_eq
  have u:(srt ps)[j.toNat]? = some (srt ps)[j.toNat]:=SO (by omega)
  have n:=(gY ps).mem_iff.mp (Th u)
  generalize (srt ps)[j.toNat]=e at u n
  refine (iU (aS A s) (d:=PP e) (oR H (by rw [Tx,u];rfl))).mpr ?_
  have g:=aS (E.trans A) r
  refine (Sk g (gX e) (mV M.nd n)).mpr ?_
  rw [Sm]
  have M2:=M.less e
  have p:(i.set μ1.length (C.dT (aM (bI m) (ps.filter fun q=>!decide (q=e)))))[μ1.length]? = _:=gG g
  generalize i.set μ1.length (C.dT (aM (bI m) (ps.filter fun q=>!decide (q=e))))=μ5 at p ⊢
  rw [aZ]
  simp only [bL,bF,aQ,aO,aE,aG]
  refine uE k hw d M2.nd p _ fun U K=>?_
  simp only [SY,S1,b8,tK,aT,bF,aQ,aO,aE,aG]
  refine Am (k+3) hw d M2.nd M2.ed (M2.few hw d) (aS K p) _ fun X p7=>?_
  rw [jS,<- Ak hw d M2.ed M2.nd]
  simp only [beq_self_eq_true,if_true,aT,aE,aG,jQ,eH,aQ,aO,aV]
  refine ⟨fP,?_⟩
  have nx:=FP hw d (ps:=ps.filter fun q=>!decide (q=e)) (qs:=ps) (M.ed e n) (fun z=>(mem_less.mp z).2 rfl) fun x=>by
   rw [mem_less]
   by_cases z:x=e
   ·rw [z];exact ⟨fun _=>.inl rfl,fun _=>n⟩
   ·exact ⟨fun y=>.inr ⟨y,z⟩,fun y=>y.elim (fun y=>absurd y z) fun y=>y.1⟩
  rw [F0 (by omega) (bM _ _)]
  exact rfl
noncomputable def Ap (ns:List Int)(r:Fl×aH×Hm):Prop:=∃ w h a ps m,r.1=.nx/\(1<=w/\w<=6)/\(1<=h/\h<=6)/\r.2.1=R9 ns w h a none none none none none/\Mk w h ps m/\r.2.2[a]? = some (.dT (aM (bI m) ps))
theorem SA (k:Nat)(ns:List Int)(hns:ns.length<=63)(μ:Hm):W (f (k+7) "law" [.rol (ns.map D.int)] μ) fun r=>r.1=.bl true:=by
 rw [P6,cD,aZ]
 simp only [bL,bF,aQ,aO,aE,aG,aV]
 refine mT _ ns 0 (by decide) _ _ fun μ1 p1=>?_
 refine ER _ _ _ _ fun μ2 p2=>?_
 simp only [SY,S1]
 rw [aZ]
 simp only [bL,bF,aQ,aO,aE,aG,aV]
 refine mT _ ns 1 (by decide) _ _ fun μ3 p3=>?_
 refine ER _ _ _ _ fun μ4 p4=>?_
 simp only [SY,S1]
 have hw:=EO (cell ns 0)
 have c:=EO (cell ns 1)
 generalize k7 (cell ns 0)=w at hw
 generalize k7 (cell ns 1)=h at c
 rw [aZ]
 simp only [bL,bF,aQ,aO,aE,aG]
 refine zA ?_
 simp only [aE]
 refine ⟨_,rfl,?_⟩
 simp only [tQ,Pt,aV]
 obtain ⟨ms,lm,em⟩:=Su ns
 rw [em]
 refine QK (k+3) hw c (ns:=ms) (by omega) (bM _ _) _ fun Z y m μ6 p6 l6 M g4=>?_
 simp only [SY,S1]
 rw [aZ]
 refine bQ (Q:=Ap ns) ?_ ?_
 ·simp only [dE,cH,aT,bF,aQ,aO,aE,aG,aV]
  refine mT _ ns 0 (by decide) _ _ fun K p7=>?_
  rw [gU (by decide) (by decide),dJ (by decide),jS]
  simp only [dR]
  cases cell ns 0 / 24 % 2 == 1 with
  | false=>
   simp only [S9,if_false,dQ]
   unfold Ap
   exact ⟨w,h,Z,y,m,rfl,hw,c,rfl,M,aS p7 g4⟩
  | true=>
   simp only [if_true]
   rw [aZ]
   simp only [bL,aT,bF,aQ,aO,aE,aG,aV]
   refine mT _ ns 1 (by decide) _ _ fun L G=>?_
   rw [dJ (by decide),eI]
   simp only [SY,S1]
   rw [aZ]
   simp only [bL,aT,bF,aQ,aO,aE,aG,aV]
   refine mT _ ns 1 (by decide) _ _ fun N Q=>?_
   rw [gU (by decide) (by decide),dJ (by decide),eI]
   simp only [SY,S1]
   have l:1<=1+cell ns 1 % 6/\1+cell ns 1 % 6<=6:=by omega
   have j:1<=1+cell ns 1 / 6 % 6/\1+cell ns 1 / 6 % 6<=6:=by omega
   generalize 1+cell ns 1 % 6=w2 at l
   generalize 1+cell ns 1 / 6 % 6=A at j
   simp only [bL,bF,aQ,aO,aE,aG]
   refine zA ?_
   simp only [aE]
   refine ⟨_,rfl,?_⟩
   simp only [tQ,aV]
   obtain ⟨ls,el⟩:=Ss ns (some 2) (some 6)
   rw [el]
   refine Sg (k+3) l j (ns:=ls) (bM _ _) _ fun a5 H m5 z u E Y g5=>?_
   simp only [SY,S1]
   unfold Ap
   exact ⟨w2,A,a5,H,m5,rfl,l,j,rfl,Y,g5⟩
 rintro ⟨B,X,K⟩ ⟨w,h,a,y,m,n,hw,c,o,M,g⟩
 dsimp only at n o g
 subst n o
 dsimp only
 rw [aZ]
 simp only [bL,bF,aQ,aO,aE,aG]
 refine uE k hw c M.nd g _ fun L G=>?_
 simp only [SY,S1]
 rw [aZ]
 simp only [dE,cH,aT,bF,aQ,aO,aE,aG]
 refine Am (k+3) hw c M.nd M.ed (M.few hw c) (aS G g) _ fun N Q=>?_
 rw [yX,<- Ak hw c M.ed M.nd]
 simp only [beq_self_eq_true,US,dR,S9,if_false,dQ]
 rw [aZ]
 simp only [bL]
 refine kZ (xs:=(aJ w h "lufr").map PP) (p:=fun d=>!decide (bX d∈y)) (v:=fun d=>d) ?_
 simp only [gD,bF,aQ,aO,aE,aG,aV]
 refine zK (k+4) w h "lufr" hw c _ _ fun b z u p E=>?_
 have i:=aS (G.trans (Q.trans u)) g
 refine (gE p).mpr ⟨oJ p,rfl,?_,?_,?_,?_⟩
 ·have:=tZ (w:=w) (h:=h) hw.2 c.2 "lufr"
  rw [SQ,T3];omega
 ·intro d I hd O
  obtain ⟨q,hq,rfl⟩:=Ts.mp hd
  simp only [TR,Ug,cH,aT,aE,aG]
  rw [t8 M.nd (aS O i) q]
  simp only [dR,Sv]
  exact ⟨rfl,Uk _⟩
 ·intro d I hd _ O
  simp only [TR,Ug,aE,aG]
  exact ⟨trivial,Uk _⟩
 ·intro R v s
  have er:(((aJ w h "lufr").map PP).filter fun d=>!decide (bX d∈y)).map (fun d=>d)=((aJ w h "lufr").filter fun q=>!decide (q∈y)).map PP:=by
   rw [a0m,WM]
   rfl
  rw [er] at s
  simp only [SY,S1]
  rw [aZ]
  refine bQ (Sw k (ns:=ns) hw c M (aS v i) s fun e he=>?_) ?_
  ·obtain ⟨h1,A⟩:=T4.mp he
   exact ⟨h1,of_decide_eq_false (by rw [Ws] at A;exact A)⟩
  rintro ⟨B,X,T⟩ ⟨x6,n,o,x⟩
  dsimp only at n o x
  subst n o
  dsimp only
  refine bQ (Sz k hw c M (aS (v.trans x) i)) fun r hr=>?_
  obtain ⟨B,X,U⟩:=r
  obtain rfl:B=.rt (.bl true):=hr
  exact rfl
theorem SD:∀ ns:List Int,ns.length<=63->∃ a,iS S ds 7 "law" [.rol (ns.map D.int)] []=some (.bl true,a):=fun ns b=>by
 obtain ⟨⟨d,a⟩,c,e⟩:=SA 0 ns b []
 dsimp only at e
 subst e
 refine ⟨a,?_⟩
 unfold f at c
 exact c
end Lw
namespace Lw
open PySem L2 L3
theorem dz (Q:W0):tG (Kx Q) ds:=by unfold tG;kernel_rfl
theorem cz (Q:W0):Er (Kx Q) S.con=true:=by kernel_rfl
theorem nz (Q:W0):S.no.map (Yb (Kx Q) U8)=S.no.map fun _=>some none:=by kernel_rfl
theorem SE {P:Tj}{w:TH}{Q:W0}
  {h:Uj}{mg:Str → Option SK}(X:(Kx Q).In h)(G:h.Ns U8 mg):TxtOk P w (Kx Q) mg S ds ∧ ∃ f a,Fun (Kx Q) "law" "law" (aY 30) f a ∧ mg "law" = some (.ref f) ∧ ∀ (s:SM)(u:SK),ZL s a ⟨[u],[]⟩ [("_law_script",u)]:=by
 refine ⟨⟨Pa (by decide +kernel),Pb fun p b=>(Em X G (dz Q) p b).1,Pc (Ph X G (cz Q)),fun x c e=>?_,Pd (Pg X G (nz Q))⟩,Pf X G (dz Q) (by kernel_rfl) (by kernel_rfl)⟩
 ·cases e
end Lw
open PySem PySem.W PyProof.Rows
set_option maxRecDepth 100000 in
set_option maxHeartbeats 0 in
theorem PySem.Challenge.cw_creasecourt_k27_whole_faces_counted_by_c_holds : PySem.Challenge.rw_creasecourt_k27_whole_faces_counted_by_c.Holds := by
 w_on
 refine holds_law (by decide +kernel) fun a=>?_
 refine holds_open (q:=Lw.Vw) (loose:=[]) (Xt:=fun s=>xlAt Lw.Vw [] s&&recOk (a2I (a1t (a0h Us))) s) (XP:=XL Lw.Vw []) (Yf:=Hook.obs (a3T Lw.Kx Lw.As Lw.pB)) (Ya:=Hook.val (a3T Lw.Kx Lw.As Lw.pB)) (YP:=Hook.says (a3T Lw.Kx Lw.As Lw.pB)) (N:=1794) Lw.run (Hook.of _) (Hook.keeps _) (fun s e=>xl_of s (Wz.mp e).1) XL.keeps (by rfl) (by rfl) (by rfl) (fun s e=>recFacts_of (Wz.mp e).2) (by rfl) (by first|assumption|decide +kernel) (by decide +kernel) ⟨rfl,rfl,rfl,rfl,rfl,by decide +kernel⟩ ?hw ?hc
 case hw=>w_witness2
 k_fill
 refine L3.walkM (l:=Us) (S:=Lw.S) (ds:=Lw.ds) (k:=7) (st:=Lw.aY 30) (x:="_law_script") rfl rfl ⟨rfl,by decide,by decide⟩ (fun w h Y=>PySem.W.kIn_of Y) (by kernel_rfl) (by kernel_rfl) ?F (fun c h _=>Lw.SD c h)
 case F=>
  intro w d h b G
  refine' Lw.SE (P:=Ut) (w:=w)  b G
