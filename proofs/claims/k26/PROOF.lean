import PyProof.Rows.All
import Wide.All
import OpenK.AllK
import Wide.FinOn
import PyProof.EqAt
import PyProof.EqKinds
import PyProof.TupleCall
import KE.KDictSum
import PyProof.SliceStr2
import PyProof.NeKinds
import PyProof.StrWalks
import PyProof.ConsumeWalk
import KE.KSortTup
import PyProof.StationsW
import OpenK.KOwn
import PyProof.RulesAs
import PyProof.NsDelKeeps
import PyProof.InstStoreFacts
import OpenK.KCls
import PyProof.ExcArgs
import PyProof.ExcAttrAll.ValueError
import KE.KIsAll
import PyProof.Rows.SetFrom
import PyProof.Rows.SortStr
import PyProof.SumAny
import PyProof.EnumMake
import KE.KRevIter
import PyProof.MeetsStr
import PyProof.ListRange
import PyProof.Rows.Range3
import KE.KDictList
import PyProof.PureStr
import PyProof.WalkInts
import PyProof.ConsumeS
import PyProof.ZipIter
import PyProof.AttrMissHeap
import KE.KDictOf
import PyProof.DictItems
import KE.KItemsList
import KE.KEqDict
import PyProof.DictValues
import PyProof.DictWalks
import PyProof.Rows.StrNews
import PySem.Challenge.RW_creasecourt_k26_faces_hang_together
open Array renaming getElem?_toList->UY,toList_push->U8,toList_inj->Vj,toList_append->Vq,length_toList->WA,getD->WI,getElem?_eq_none->Yk,replicate->Zk,toList_setIfInBounds->ZG,getElem?_eq_getElem->ZP,size_setIfInBounds->ZY,toList_reverse->a0q,toList_extract->a0r,append_assoc->a0M,toList->a2p,map->a3t
open Bool renaming false_eq_true->Te,and_eq_true->Ti,false_ne_true->Uc,not_true->Ut,not_false->V5,and_eq_true_iff->Wt,or_eq_true->WH,not_eq_true'->X9,false_and->ZO,and_true->Z5,eq_iff_iff->a1V,or_false->a2n,false_or->a2o
open Classical renaming byContradiction->XM,choose->YO,propDecidable->Zq,choose_spec->ZN
open False renaming elim->VB
open ForInStep renaming yield->Wx
open Int renaming toNat_natCast->V0,add_assoc->We,emod_add_emod->Wm,emod_lt_of_pos->WR,add_zero->Xa,emod_nonneg->XJ,sub_add_cancel->XY,le_of_lt->Yu,le_refl->Zp,add_sub_cancel->a1v,add_right_neg->a1I,add_comm->a2N
open List renaming getElem?_eq_some_iff->S2,length_map->S6,getElem?_eq_getElem->S7,size_toArray->Ta,set_cons_zero->Tc,length_append->Td,set_cons_succ->Tf,getElem?_append_left->Tq,map_cons->Tr,mem_of_getElem?->Ts,mem_cons_self->Tt,append_assoc->Tu,mem_cons_of_mem->Tw,getElem?_append_right->Tx,getElem?_map->TB,length_cons->TF,getD_eq_getElem?_getD->TL,cons_append->TM,mem_singleton->TN,mem_map->TQ,mem_append->TU,length_take->TX,nil_append->T3,mem_cons->T5,prefix_refl->T9,pairwise_iff_getElem->Ub,map_map->Ud,take_append_drop->Ue,getD->Ug,range->Ui,length_drop->Uk,mem_range->Ul,length_filter_le->Um,getElem?_toArray->Uo,getElem?_eq_none->Up,pairwise_map->Ur,zipWith_cons_cons->Us,mem_append_right->Uu,getElem?_set_self->Uw,take_length->Ux,nodup_cons->Uy,append_nil->Uz,all_cons->UE,find?_cons->UG,mem_append_left->UH,getElem?_set_ne->UI,getElem?_take_of_lt->UJ,toList_toArray->UM,mem_filter->UN,length->US,drop_of_length_le->UU,map_append->UW,map_congr_left->UX,getElem?_reverse->UZ,pairwise_append->U4,drop_eq_getElem_cons->U7,length_nil->Vh,length_eq_zero_iff->Vk,take_of_length_le->Vo,length_reverse->Vs,replicate->Vv,mem_of_mem_take->Vx,ext_getElem?->VA,getElem_of_mem->VG,getElem?_range->VH,getElem_mem->VN,pairwise_cons->VP,drop_zero->VQ,perm_append_comm->VR,mem_iff_getElem?->VS,length_singleton->VT,length_replicate->VU,getElem?_replicate->V4,getElem?_drop->V9,length_set->Wc,take_sublist->Wh,nodup_append->Wi,take_zero->Wr,getElem?_of_mem->Ws,filter_cons->Wv,all_eq_true->Ww,getElem?_eq_none_iff->Wz,filter_append->WM,getElem?_cons_succ->WQ,filter_congr->W0,set_append_right->Xe,eq_nil_or_concat->Xf,concat_eq_append->Xg,mem_flatMap->Xh,lookup_cons->Xi,any_cons->Xu,filter_map->XE,Nodup->XT,rel_of_pairwise_cons->X3,reverse_perm->X5,range'->X6,length_range->X7,drop_sublist->X8,nodup_range->Yg,map_nil->Ym,pairwise_reverse->Yv,lookup->YA,take_succ_cons->YJ,filter_sublist->YK,filter_eq_self->YL,filterMap_cons->YM,mem_filterMap->YR,map_inj_right->YS,getElem_take->YX,range'_succ->Zc,take_append_of_le_length->Zh,drop_append_of_le_length->Zi,of_mem_zip->Zn,foldl_cons->Zo,take_left->ZJ,nodup_nil->ZK,drop_left->ZL,drop_drop->ZM,extract_eq_drop_take->ZW,map_drop->Z4,pairwise_singleton->Z8,zipWith->a0a,map_id'->a0b,length_pos_of_mem->a0c,filter_eq_nil_iff->a0d,getElem?_zipWith->a0m,dropLast_eq_take->a0n,contains_iff_mem->a0o,mem_of_mem_drop->a0z,take_set_of_le->a0G,takeWhile_cons->a0H,map_eq_nil_iff->a0I,length_zipWith->a0J,length_pos_iff->a0K,flatMap_append->a0L,zip_cons_cons->a0V,take_add_one->a1r,reverse_cons->a1s,map_inj_left->a1t,getElem_drop->a1u,take_prefix->a1D,mem_reverse->a1E,getElem_inj->a1F,ext_getElem->a1G,countP_cons->a1H,range_succ->a1R,drop_left'->a1S,map_take->a2m,map_id->a2K
open List.Pairwise renaming sublist->U5,imp_of_mem->Wj,nil->Yt,map->a2L,filterMap->a2M
open List.Perm renaming refl->XA,eq_of_pairwise->XS,trans->YW
open List.Sublist renaming length_le->a3m
open Nat renaming le_refl->Th,ne_of_lt->TJ,lt_of_lt_of_le->T1,le_trans->T8,zero_le->Uv,ne_of_gt->Vi,lt_irrefl->Vn,add_sub_cancel_left->VD,zero_add->VM,lt_or_ge->Wy,not_lt_zero->WK,min_eq_left->WL,sub_self->W6,lt_trichotomy->W7,lt_trans->W8,le_of_lt->W9,not_lt->Xs,lt_succ_self->Yj,add_zero->Ys,mul_le_mul->YE,le_succ->YF,succ_pos->Y5,succ_mul->Y6,lt_succ_of_lt->Y7,le_of_eq->Y8,lt_succ_iff->ZC,add_assoc->Z7,exists_eq_add_of_le->Z9,sub_zero->a0l,mul_le_mul_right->a0F,lt_of_succ_lt->a1B,le_of_lt_succ->a1C,le_of_not_lt->a1P,le_add_left->a1Z,min_self->a2I,lt_asymm->a2J,log2_lt->a3l,mod_lt->a3H
open Ne renaming symm->U6
open Option renaming bind_eq_some_iff->S0,map_eq_some_iff->S8,bind_some->T6,map_some->Uj,isSome_map->WS,isSome_some->a0x,isSome_none->a0y,getD_none->a0U,none->a2l
open Option.some renaming inj->TZ
open Or renaming inr->a0w,inl->a1A
open Prod.mk renaming inj->Yr
open PyProof.Rows renaming seqObj->UR,SortSt->Vt,callWith_type1->Vu,IntsAre->Wl,callWith_builtin1->WJ,SortKind->WU,entry_list_sort->WY,slot_list_sort->Xj,args_list_sort->Xo,sortedHeap->YC,AllBare->Y0,listUpdate_at->Za,lt_int->Zz,envOfC->ZA,pendingOf->ZR,seqEpoch_at->Z0,subscriptTail->a0D,subscriptTail_builtinR->a1a,plain_sorted->a1b,entry_sorted->a1d,args_sorted1->a1e,mergeAt'->a1L,kind_sorted->a1M,arrOf->a1N,Subscript_->a2k,IsTup->a2z,list_sort_plain->a2V,get?_update_seq->a2W,wpAny_notIn_heap->a2Y,split_pos->a2Z,sortedAll_old->a3a,sortedAll_at->a3b,oneLt_int->a3c,mul_int->a3d,kindOf->a3e,floordiv_int->a3f,entry_proto_collect'->a3g,entry_list_iadd'->a3h,call_len_slot->a3i,assign_Tuple_tuple->a3j,assign_Tuple->a3k,sortedHeap_old->a3v,mirror->a3B,keyLt'->a3C
open PyProof.Rows.Boot renaming sorted->V1,tuple->WW,list->W5,dict->Yy,str->a1k,len->a1l,isinstance->a1m,int->a1n,bool->a1o
open PyProof.Rows.SortSt renaming mk'->TV
open PySem renaming wpAny_bind->S3,Value->S4,Shared->S5,wpAny_pure->Tg,sizeLine->Tj,Program->TC,wpAny->TH,model->TK,Around->TR,sizeLine_eq->TY,World->T7,starEach->Uh,wpAny_mono->Uq,Heap->UA,wpAny_holding->UB,compareOp->UC,DictEntry->UD,mem_of_lookup->UL,sysModules->U0,wpAny_newObj_type->U1,wpAny_call_entry->U9,bootBuiltins->Va,Pos->Vc,mainGlobals->Vf,cLine->Vg,Paired->Vr,wpAny_Call_Name_kw->Vy,Obj->VC,wpAny_truthy_bool->VJ,assignEach->VL,FuncData->VO,NameKind->V3,attributeBase->V6,backTo->Wa,Scope->Wb,wpAny_setField_rec->Wg,wpAny_passesOwn->Wn,behindInMarks->Wq,wpAny_dictEntries->Wu,tupleKind->WD,Keyword->WE,rawInt->WO,binaryOp->WT,Params->WV,codeAny_builtin->WZ,wpAny_rule->W3,call_meets->W4,wpAny_Call_method0_late->Xb,foldedSetIterable->Xm,compEnvC->Xn,wpAny_notOrdered_dict->XB,evalArgs_none->XD,CmpOp->XF,plainId_quiet->XN,wpAny_field->XQ,sliceBounds->XR,wpAny_dictEpoch->XW,atKey->X2,intKind->X4,swapsWith->Yb,typeIs_str->Yd,codeAny->Yl,wpAny_newList->Yn,pyNext->Yo,SetTable->Yx,wpAny_isOneOf_itemiter->YB,call_meetsIn->YD,wpAny_updateSeq->YG,wpAny_execs_nil->YH,letOwnedTupleGo->YI,keywordEach->YT,firstArgMember->YU,Env->YY,assign->Zf,wpAny_pyIter_slot->Zr,valueAt->Zs,getItem->Zt,codeAny_mono->Zu,callerA->Zv,BindsTo->ZF,pyIter->ZQ,PassesOwn->ZV,subscripted->ZZ,wpAny_setField->a0e,wpAny_newTuple->a0f,wpAny_load->a0g,typeOf->a0h,bindArgs->a0i,backToKw->a0j,Operator->a0k,wpAny_standAt->a0A,wpAny_attempt->a0B,swappedStores->a0C,wpAny_pyNext_tuple_item->a0N,wpAny_callSpecial?_slot->a0O,strValues->a0P,bindL->a0Q,bindC->a0R,wpAny_typeOf->a0W,wpAny_pyNext_tuple_end->a0X,wpAny_pyNext_list_item->a0Y,wpAny_Call_method_late->a0Z,isTrue->a1c,Tok->a1f,Sem->a1h,Result->a1i,wpAny_pyNext_list_end->a1w,wpAny_isOneOf_keyiter->a1x,setField->a1K,Model->a1Q,IntMulOk->a1T,GenState->a1U,pairTrees_cons_walk->a1W,wpAny_pyIter_tuple->a2a,wpAny_getItem_heap->a2b,wpAny_Name->a2c,typeLookup->a2d,pairTrees_nil_walk->a2e,getattributeRaised->a2g,closureFor->a2h,checkCount->a2i,builtinsNs->a2j,wpAny_pyIter_list->a2q,wpAny_assign_Name->a2r,storedH->a2s,slot_list_getitem->a2t,relabel->a2u,wpAny_isInstance->a2B,wpAny_execs_cons->a2C,updateSeq->a2D,lastMarks->a2E,cellsFrom->a2F,call->a2G,wpAny_specialOf->a2S,wpAny_loadPart'->a2T,typeNameOfWhole->a2U,Fin->a2X,wpAny_fieldsOf->a3u,sliceRange_one->a3w,recursionLimit->a3x,putAt->a3y,numbered_texts->a3z,newExc->a3A,isSubtype_stop->a3E,callType_codes->a3F,Slot->a3G,IsPart->a3I
open PySem.Around renaming under_plainId->VZ
open PySem.Builtin renaming sorted->YQ
open PySem.Builtin.Dict renaming showsAll->VF,updateFrom->Y9,pairItems->Ze,noArgs->ZE,selfAndRest->a3p,pendingCount->a3q,dictSlotNone->a3r,addKeywords->a3s
open PySem.Builtin.Dict_items renaming ownsTuple->VY,ownedTupleIsFree->X0,ownedTupleFields->X1,pairFromOwner->Yc,newIterator->Yi,dictOf->Yz
open PySem.Builtin.Int renaming intBits->Ua,intTooBig->WN
open PySem.Builtin.List renaming listExtendWith->V7,listTooLong->XG,listSameRef->YZ,listItems->Zd,listUpdate->a3o
open PySem.Builtin.Range renaming rangeSize->a2R
open PySem.Builtin.Str renaming glued->T4,occurrences->UK,strSliceIndices->Vd,tooLong->Xc
open PySem.Builtin.Tuple renaming tupleHashOf->a2P,tupleCompareSizes->a2Q
open PySem.Calls renaming callWith_builtin->VI,spliced_cons->WG,spliced_nil->WX,call_function_entry->XZ,Name_function_global->ZD,evalArgs_plain->a0p
open PySem.Challenge renaming rw_creasecourt_k26_faces_hang_together->UO,pw_creasecourt_k26_faces_hang_together->UP
open PySem.Data renaming fields->a2O,dict->a3K
open PySem.F renaming slot_dict_items->WB,plainAttrs_dict->WC,slot_dict_getitem->Zl,args_dict_items_1->Zm,entry_dict_items->Zy,type_dict_items->ZH,plainAttrs_list->ZI,slot_dict_keys->ZU,slot_dict_get->Z3
open PySem.Heap renaming get?_push_of_some->S9,lt_size->Tp,get?_push_size->Tz,get?_update_other->Vp,get?_update_self->Wf,SameBut->W2,size_push->XU,ExtBut->Zj,size_update->a1J
open PySem.Heap.DictOf renaming new->a3J
open PySem.Heap.DictOfH renaming new->a3n
open PySem.Heap.IsSliceOf renaming new->a2A
open PySem.Heap.SameBut renaming update->Yh,refl->ZX
open PySem.NameKind renaming free->VE,cell->VX
open PySem.Obj renaming mapSeq->UQ,data_mapFields->a1q,mapFields->a2y
open PySem.Paired renaming length->Vb,snoc->XX
open PySem.PassesOwn renaming never->a0v
open PySem.SeqAt renaming ne_of_list_tuple->Vm,EqAt->Zw
open PySem.SeqAt.EqAt renaming int_int->Z2
open PySem.SetTable renaming below->XC,slot->a1g,has->a1y
open PySem.SetTable.below renaming go->Xr
open PySem.SetTable.layClean renaming free->Xw
open PySem.SetTable.probe renaming go->Xq
open PySem.Str renaming ofString->Yp,length->YV,join->Y4
open PySem.StrLaws renaming glued_eq_join->Z1
open PySem.Txt renaming split->Xp
open PySem.Value renaming ref->To,none->UT,type->Wo,bool->Xd,int->XO,str->Y1,isStrOf->a1X,builtin->a1Y,isInt->a2w
open PySem.W renaming Frag->S1,kasC_bind->Tn,kasC_pure->Tv,kasC_range->Ve,keepIn->Vl,kia_one->Vz,fnOf->VW,kasC_modify->V2,kasC_get->Xk,kasC->Xl,findIn->XH,nsIn->Ye,codeIn->Yq,kasC_lift->Yw,methodObj->YN,mg_of->Zx,hashAt->ZS,cellsFrom_some->ZT,specialIn->a0s,kitx_list->a0t,kitx_dict->a0u,plainGet->a0E,instObj->a0S,OpenLaw->a0T,kitOne->a1j,WalkO->a1z,isFn->a1O,kdl_slot_keys_iter->a2f,kHook->a3D
open PySem.W.OpenLaw renaming row->Z6
open PySem.W.OpenRow renaming toRowW->a1p
open PySem.W.RowW renaming records->a2x
open PySem.W.WData renaming int->Xv,weightAll->XI,layable->Zb,weight->Zg,layableAll->a2H
open PySem.W.WShape renaming has->a2v
open Sum renaming inr->Y2,inl->Y3
open True renaming intro->V8
local macro_rules|`(tactic| omega) => `(tactic| lia)
set_option compiler.extract_closed false
set_option bootstrap.genMatcherCode false
set_option Elab.async false
set_option linter.all false
set_option maxRecDepth 100000
set_option linter.all false
namespace L2
open PySem PySem.Spec PyProof.Rows
noncomputable abbrev aG:=Sum Int Str
noncomputable def lB:aG->S4->Bool
 | .inl k,v=>a2w k v
 | .inr x,v=>a1X x v
noncomputable def Au (w:T7):aG->Int
 | .inl k=>hashInt k
 | .inr x=>hashStr w x
theorem i8:∀ {k:aG}{v:S4},lB k v=true->(∃ i t,k=Y3 i/\v=XO i t)\/(∃ x t,k=Y2 x/\v=Y1 x t)
 | .inl i,v,h=>by
  obtain ⟨t,e⟩:=Value.isInt_shape (k:=i) (v:=v) h
  exact .inl ⟨i,t,rfl,e⟩
 | .inr x,v,h=>by
  obtain ⟨t,e⟩:=Value.isStrOf_shape (x:=x) (v:=v) h
  exact .inr ⟨x,t,rfl,e⟩
theorem F7 (i:Int)(t:a1f):lB (.inl i) (.int i t)=true:=by simp [lB,a2w]
theorem F8 (x:Str)(t:a1f):lB (.inr x) (.str x t)=true:=by simp [lB,a1X]
theorem F9 (a b:Int):decide ((Y3 a:aG)=Y3 b)=(a == b):=by
 by_cases e:a=b
 ·subst e;simp
 ·have h:¬ (Y3 a:aG)=Y3 b:=fun q=>e (Sum.inl.inj q)
  rw [decide_eq_false h]
  exact (beq_eq_false_iff_ne.mpr e).symm
theorem Ga (a b:Str):decide ((Y2 a:aG)=Y2 b)=decide (a=b):=by
 by_cases e:a=b
 ·subst e;simp
 ·have h:¬ (Y2 a:aG)=Y2 b:=fun q=>e (Sum.inr.inj q)
  rw [decide_eq_false h,decide_eq_false e]
theorem Gb (a:Int)(b:Str):decide ((Y3 a:aG)=Y2 b)=false:=decide_eq_false (fun q=>nomatch q)
theorem Gd (a:Str)(b:Int):decide ((Y2 a:aG)=Y3 b)=false:=decide_eq_false (fun q=>nomatch q)
noncomputable def dD (prog:TC)(w:T7):PySem.KeyKind prog w aG where
 is:=lB
 hash:=Au w
 inj:=fun v a b g d=>by
  rcases i8 g with ⟨i,t,rfl,rfl⟩|⟨x,t,rfl,rfl⟩
  ·rcases i8 d with ⟨j,u,rfl,e⟩|⟨y,u,rfl,e⟩
   ·injection e with e1 _;rw [e1]
   ·exact nomatch e
  ·rcases i8 d with ⟨j,u,rfl,e⟩|⟨y,u,rfl,e⟩
   ·exact nomatch e
   ·injection e with e1 _;rw [e1]
 byValue:=fun k v h=>by
  rcases i8 h with ⟨i,t,rfl,rfl⟩|⟨x,t,rfl,rfl⟩<;>rfl
 pyHash:=fun c h=>by
  rcases i8 c with ⟨i,t,rfl,rfl⟩|⟨x,t,rfl,rfl⟩
  ·exact wpAny_pyHash_int h
  ·exact wpAny_pyHash_str h
 eqBool:=fun l c h=>by
  rcases i8 l with ⟨i,t,rfl,rfl⟩|⟨x,t,rfl,rfl⟩
  ·rcases i8 c with ⟨j,u,rfl,rfl⟩|⟨y,u,rfl,rfl⟩
   ·rw [F9] at h;exact wpAny_eqBool_int h
   ·rw [Gb] at h;exact SeqAt.EqAt.int_str i t y u _ _ _ _ h
  ·rcases i8 c with ⟨j,u,rfl,rfl⟩|⟨y,u,rfl,rfl⟩
   ·rw [Gd] at h;exact SeqAt.EqAt.str_int x t j u _ _ _ _ h
   ·rw [Ga] at h;exact wpAny_eqBool_str h
 «strs»:=fun k x t v h=>by
  rcases i8 h with ⟨i,u,rfl,e⟩|⟨y,u,rfl,e⟩
  ·exact nomatch e
  ·injection e with e1 _
   subst e1
   cases v<;>rfl
theorem Ge (prog:TC)(w:T7)(i:Int)(t:a1f):(dD prog w).is (.inl i) (.int i t)=true:=F7 i t
theorem Gf (prog:TC)(w:T7)(x:Str)(t:a1f):(dD prog w).is (.inr x) (.str x t)=true:=F8 x t
end L2
namespace L2
open PySem PySem.Spec PyProof.Rows
inductive V where
 | non|bl (b:Bool)|int (i:Int)|str (x:Str)|byt (b:Array UInt8)|flt (b:UInt64)|ref (a:Addr)|ty (n:String)
 deriving DecidableEq
noncomputable def RelV:V->S4->Prop
 | .non,u=>u=UT
 | .bl b,u=>u=Xd b
 | .int i,u=>∃ t,u=XO i t
 | .str x,u=>∃ t,u=Y1 x t
 | .byt b,u=>∃ t,u=Value.bytes b t
 | .flt b,u=>∃ t,u=Value.float b t
 | .ref a,u=>u=To a
 | .ty n,u=>u=Wo n
noncomputable abbrev Vals:List V->List S4->Prop:=Vr RelV
theorem Vals.length {xs:List V}{us:List S4}(r:Vals xs us):xs.length=us.length:=Vb r
theorem Vals.get:∀ {xs:List V}{us:List S4}{i:Nat}{x:V},Vals xs us->xs[i]? = some x->∃ u,us[i]? = some u/\RelV x u
 | _,_,_,_,.nil,e=>by simp at e
 | _,_,0,_,.cons r _,e=>by simp at e;subst e;exact ⟨_,rfl,r⟩
 | _,_,i+1,x,.cons _ t,e=>by
  obtain ⟨u,a,b⟩:=Vals.get (i:=i) (x:=x) t (by simpa using e)
  exact ⟨u,by simpa using a,b⟩
theorem Vals.set {x:V}{u:S4}(r:RelV x u):∀ {xs:List V}{us:List S4}(i:Nat),Vals xs us->Vals (xs.set i x) (us.set i u)
 | _,_,_,.nil=>.nil
 | _,_,0,.cons _ t=>.cons r t
 | _,_,i+1,.cons q t=>.cons q (Vals.set r i t)
theorem Vals.append:∀ {xs ys:List V}{us ws:List S4},Vals xs us->Vals ys ws->Vals (xs++ys) (us++ws)
 | _,_,_,_,.nil,s=>s
 | _,_,_,_,.cons r t,s=>.cons r (Vals.append t s)
theorem Vals.take:∀ {xs:List V}{us:List S4}(n:Nat),Vals xs us->Vals (xs.take n) (us.take n)
 | _,_,0,_=>.nil
 | _,_,_+1,.nil=>.nil
 | _,_,n+1,.cons r t=>.cons r (Vals.take n t)
theorem Vals.drop:∀ {xs:List V}{us:List S4}(n:Nat),Vals xs us->Vals (xs.drop n) (us.drop n)
 | _,_,0,r=>r
 | _,_,_+1,.nil=>.nil
 | _,_,n+1,.cons _ t=>Vals.drop n t
noncomputable def RelO:Option V->Option S4->Prop
 | some v,some u=>RelV v u
 | none,none=>True
 | _,_=>False
noncomputable def KV {κ:Type}:List (κ×V)->List (κ×S4)->Prop:=Vr fun (p:κ×V)(q:κ×S4)=>p.1=q.1/\RelV p.2 q.2
noncomputable def kV:aG->V
 | .inl i=>.int i
 | .inr x=>.str x
inductive HO where
 | lst (xs:List V)
 | tup (xs:List V)
 | dK (kvs:List (aG×V))|dT (kvs:List (List aG×V))
 | set (S:Int->Bool)(n:Nat)
 | ins (C dx:Addr)(fs:List (Str×V))
 | own (x:Addr)
 | xd (fs:List (Str×V))
 | met (f x:Addr)
 | rng (lo hi:Int)
 | frz (o:VC)(u:HO)
 | tbl (ps:Array S4)
 | ext (φ:UA->Prop)
noncomputable abbrev Hp:=Addr->Option HO
noncomputable def aN (H:Hp)(a:Addr)(o:HO):Hp:=fun b=>if b=a then some o else H b
theorem cV {H:Hp}{a:Addr}{o:HO}:aN H a o a=some o:=by unfold aN;rw [if_pos rfl]
theorem bS {H:Hp}{a b:Addr}{o:HO}(h:b≠a):aN H a o b=H b:=by unfold aN;rw [if_neg h]
theorem lC {H:Hp}{a b:Addr}{o:HO}(h:H a=some o)(h':H b=none):a≠b:=by
 intro e;subst e;rw [h] at h';cases h'
section
variable (P:TC)(w:T7)
noncomputable def TupN (h:UA)(a:Addr)(xs:Array S4):Prop:=∃ o,h.get? a=some o/\o.cls=.type "tuple"/\∃ n,o.data=.seq xs n/\o.dict=none
theorem TupN.tup {h:UA}{a:Addr}{xs:Array S4}(x:TupN h a xs):a2z h a xs:=let ⟨o,e,c,n,d,_⟩:=x;⟨o,e,c,n,d⟩
theorem TupN.new (h:UA)(items:Array S4):TupN (h.push { cls:=.type "tuple",data:=.seq items }) h.objs.size items:=⟨_,Tz _ rfl,rfl,_,rfl,rfl⟩
noncomputable def ObjOk (H:Hp)(h:UA)(a:Addr):HO->Prop
 | .lst c=>c.length<=Tj/\∃ (b:List S4)(n:Nat),Vals c b/\h.get? a=some { cls:=.type "list",data:=.seq b.toArray n }
 | .tup c=>c.length<=Tj/\∃ b:List S4,Vals c b/\TupN h a b.toArray
 | .dK kvs=>kvs.length<=Tj/\(a == U0)=false/\∃ j,KV kvs j/\h.DictOf (dD P w) a j
 | .dT kvs=>kvs.length<=Tj/\(a == U0)=false/\∃ c:List (List aG×Addr×S4),
   Vr (fun (p:List aG×V)(q:List aG×Addr×S4)=>p.1=q.1/\H q.2.1=some (.tup (p.1.map kV))/\RelV p.2 q.2.2) kvs c /\
   ∃ o e l,h.get? a=some o/\o.ExactDict/\o.data=.dict e l/\e.toList=c.map (entryOfKey (WD (dD P w)))/\(c.map (·.1)).Nodup
 | .set S n=>h.SetOf (X4 P w) a S n
 | .ins C dx fs=>H dx=some (.own a)/\fs.length<=1000/\dx≠a/\h.get? a=some (a0S C dx) /\
   ∃ d,h.Ns1 dx d/\(∀ f,RelO (fs.lookup f) (d f))/\PySem.Within d (fs.map (·.1))
 | .own _=>∃ o,h.get? a=some o
 | .xd fs=>∃ d,h.Ns1 a d/\∀ f,RelO (fs.lookup f) (d f)
 | .rng lo hi=>∃ t u v,h.get? a=some { cls:=.type "range",data:=.fields #[.int lo t,.int hi u,.int 1 v] }
 | .frz o u=>h.get? a=some o/\ObjOk H h a u
 | .tbl ps=>h.get? a=some { cls:=.none,data:=.fields ps }
 | .met f x=>h.get? a=some (YN (.ref f) (.ref x))
 | .ext φ=>φ h/\(∃ o,h.get? a=some o)/\∀ g i:UA,φ g->(∀ o,g.get? a=some o->i.get? a=some o)->φ i
noncomputable def HOk (H:Hp)(h:UA):Prop:=∀ a o,H a=some o->ObjOk P w H h a o
end
section
variable {P:TC}{w:T7}{H H':Hp}{h h':UA}{a:Addr}{o:HO}
theorem ObjOk.lt (x:ObjOk P w H h a o):a<h.objs.size:=by
 cases o with
 | lst c=>obtain ⟨_,_,_,_,e⟩:=x;exact Tp e
 | tup c=>obtain ⟨_,_,_,p⟩:=x;exact p.tup.lt
 | dK b=>obtain ⟨_,_,_,_,o,_,_,e,_⟩:=x;exact Tp e
 | dT b=>obtain ⟨_,_,_,_,o,_,_,e,_⟩:=x;exact Tp e
 | set S n=>obtain ⟨o,_,_,_,e,_⟩:=x;exact Tp e
 | ins C d fs=>obtain ⟨_,_,_,e,_⟩:=x;exact Tp e
 | own y=>obtain ⟨_,e⟩:=x;exact Tp e
 | xd fs=>obtain ⟨_,⟨_,_,_,e,_⟩,_⟩:=x;exact Tp e
 | rng i g=>obtain ⟨_,_,_,e⟩:=x;exact Tp e
 | frz j u=>obtain ⟨e,_⟩:=x;exact Tp e
 | tbl l=>exact Tp (show h.get? a=some _ from x)
 | met f y=>exact Tp (show h.get? a=some _ from x)
 | ext m=>obtain ⟨_,⟨_,e⟩,_⟩:=x;exact Tp e
theorem Vr.mapP {c d:Type}{F G:c->d->Prop}:∀ {l₁:List c}{l₂:List d},Vr F l₁ l₂->(∀ a b,F a b->G a b)->Vr G l₁ l₂
 | _,_,.nil,_=>.nil
 | _,_,.cons r t,f=>.cons (f _ _ r) (Vr.mapP t f)
theorem ObjOk.stay (x:ObjOk P w H h a o)(k:∀ b u,(b=a\/H b=some (.own a))->h.get? b=some u->h'.get? b=some u)
  (I:∀ b,H b=some (.own a)->H' b=some (.own a))(K:∀ b m,H b=some (.tup m)->H' b=some (.tup m)):ObjOk P w H' h' a o:=by
 induction o with
 | lst m=>obtain ⟨z,l,n,r,e⟩:=x;exact ⟨z,l,n,r,k _ _ (.inl rfl) e⟩
 | tup m=>obtain ⟨z,l,r,g,e,c⟩:=x;exact ⟨z,l,r,g,k _ _ (.inl rfl) e,c⟩
 | dK s=>obtain ⟨z,y,M,r,g,j,i,e,c⟩:=x;exact ⟨z,y,M,r,g,j,i,k _ _ (.inl rfl) e,c⟩
 | dT s=>
  obtain ⟨z,y,m,r,g,j,i,e,c⟩:=x
  exact ⟨z,y,m,Vr.mapP r fun p q z=>⟨z.1,K _ _ z.2.1,z.2.2⟩,g,j,i,k _ _ (.inl rfl) e,c⟩
 | set S n=>obtain ⟨g,j,i,t,e,c⟩:=x;exact ⟨g,j,i,t,k _ _ (.inl rfl) e,c⟩
 | ins C N fs=>
  obtain ⟨d,z,ne,e,A,⟨B,j,i,G,c⟩,r⟩:=x
  exact ⟨I _ d,z,ne,k _ _ (.inl rfl) e,A,⟨B,j,i,k _ _ (.inr d) G,c⟩,r⟩
 | own y=>obtain ⟨g,e⟩:=x;exact ⟨g,k _ _ (.inl rfl) e⟩
 | xd fs=>obtain ⟨A,⟨B,j,i,e,c⟩,r⟩:=x;exact ⟨A,⟨B,j,i,k _ _ (.inl rfl) e,c⟩,r⟩
 | rng Q O=>obtain ⟨t,u,v,e⟩:=x;exact ⟨t,u,v,k _ _ (.inl rfl) e⟩
 | frz g u L=>obtain ⟨e,q⟩:=x;exact ⟨k _ _ (.inl rfl) e,L q⟩
 | tbl E=>
  have e:h.get? a=some { cls:=.none,data:=.fields E }:=x
  show h'.get? a=some { cls:=.none,data:=.fields E }
  exact k a _ (.inl rfl) e
 | met f y=>
  have e:h.get? a=some (YN (.ref f) (.ref y)):=x
  show h'.get? a=some (YN (.ref f) (.ref y))
  exact k a _ (.inl rfl) e
 | ext R=>obtain ⟨p,⟨o,e⟩,st⟩:=x;exact ⟨st _ _ p fun o q=>k _ _ (.inl rfl) q,⟨o,k _ _ (.inl rfl) e⟩,st⟩
theorem HOk.lt (x:HOk P w H h)(e:H a=some o):a<h.objs.size:=(x a o e).lt
theorem HOk.fresh (x:HOk P w H h)(e:h.objs.size<=a):H a=none:=by
 cases q:H a with
 | none=>rfl
 | some u=>exact absurd (T1 (x.lt q) e) (Vn _)
theorem HOk.kept (x:HOk P w H h)(k:∀ b u,h.get? b=some u->h'.get? b=some u):HOk P w H h':=fun a o e=>
 (x a o e).stay (fun b u _ q=>k b u q) (fun _ q=>q) fun _ _ q=>q
theorem HOk.laid (x:HOk P w H h)(k:∀ b u,h.get? b=some u->h'.get? b=some u)(i:h.objs.size<=a)(new:ObjOk P w (aN H a o) h' a o):HOk P w (aN H a o) h':=fun b u e=>by
 have g:=x.fresh i
 by_cases d:b=a
 ·subst d;rw [cV] at e;cases e;exact new
 ·rw [bS d] at e
  exact (x b u e).stay (fun c v _ q=>k c v q) (fun c q=>by rw [bS (lC q g)];exact q) fun c j q=>by rw [bS (lC q g)];exact q
end
noncomputable def Rd (H:Hp)(a:Addr)(u:HO):Prop:=H a=some u\/∃ o,H a=some (.frz o u)
theorem Rd.of {H:Hp}{a:Addr}{u:HO}(h:H a=some u):Rd H a u:=.inl h
theorem Rd.ok {P:TC}{w:T7}{H:Hp}{h:UA}{a:Addr}{u:HO}(r:Rd H a u)(x:HOk P w H h):ObjOk P w H h a u:=by
 rcases r with r|⟨o,r⟩
 ·exact x a u r
 ·obtain ⟨_,q⟩:=x a _ r
  exact q
noncomputable def oU:Option HO->Prop
 | some (.lst _)=>True
 | some (.dK _)=>True
 | some (.dT _)=>True
 | some (.set _ _)=>True
 | some (.ins _ _ _)=>True
 | some (.ext _)=>True
 | _=>False
section
variable {P:TC}{w:T7}{H:Hp}{h h':UA}{x e:Addr}{o':HO}
theorem HOk.write (ok:HOk P w H h)(j:oU (H x))(n:e=x\/H e=some (.own x))(k:∀ b u,b≠e->h.get? b=some u->h'.get? b=some u)(m:∃ u,h'.get? e=some u)
  (new:ObjOk P w (aN H x o') h' x o'):HOk P w (aN H x o') h':=fun b u q=>by
 have d:∀ c y,H c=some (.own y)->c≠x:=fun c y r z=>by subst z;rw [r] at j;exact j
 have g:∀ c l,H c=some (.tup l)->c≠x:=fun c l r z=>by subst z;rw [r] at j;exact j
 by_cases i:b=x
 ·subst i;rw [cV] at q;cases q;exact new
 ·rw [bS i] at q
  by_cases a:b=e
  ·have o:H b=some (.own x):=by
    rcases n with z|z
    ·exact absurd (a.trans z) i
    ·rw [a];exact z
   rw [q] at o;cases o
   obtain ⟨v,p⟩:=m
   exact ⟨v,by rw [a];exact p⟩
  ·refine (ok b u q).stay (fun c v hc r=>k c v ?_ r) (fun c r=>by rw [bS (d c b r)];exact r) fun c l r=>by rw [bS (g c l r)];exact r
   rcases hc with rfl|hc
   ·exact a
   ·rintro rfl
    rcases n with z|z
    ·exact d c b hc z
    ·rw [hc] at z;cases z;exact i rfl
end
structure Un (fs ex:List Addr)(H H':Hp)(h h':UA):Prop where
 keep:∀ b o,h.get? b=some o->H b=none->b∉fs->b∉ex->h'.get? b=some o
 slot:∀ b o,h.get? b=some o->H b=none->b∈fs->b∉ex->∃ sl,h'.get? b=some { o with slots:=sl }
 free:∀ b o,h.get? b=some o->H b=none->b∉ex->H' b=none
 there:∀ b o,h.get? b=some o->b∉ex->∃ o',h'.get? b=some o'
 tups:∀ b xs,H b=some (.tup xs)->H' b=some (.tup xs)
 frzs:∀ b o u,H b=some (.frz o u)->H' b=some (.frz o u)
 tbls:∀ b ps,H b=some (.tbl ps)->∃ more,H' b=some (.tbl (ps++more))
section
variable {fs fs' ex ex':List Addr}{H H1 H2:Hp}{h h1 h2 h':UA}{a x e:Addr}{o:HO}
theorem Un.any (u:Un fs ex H H1 h h1){b:Addr}{c:VC}(q:h.get? b=some c)(n:H b=none)(g:b∉ex):∃ i,h1.get? b=some { c with slots:=i }:=by
 by_cases d:b∈fs
 ·exact u.slot b c q n d g
 ·exact ⟨c.slots,u.keep b c q n d g⟩
theorem Un.trans (a:Un fs ex H H1 h h1)(b:Un fs ex H1 H2 h1 h2):Un fs ex H H2 h h2 where
 keep:=fun c g q n hc d=>b.keep c g (a.keep c g q n hc d) (a.free c g q n d) hc d
 slot:=fun c g q n hc d=>by
  obtain ⟨v,i⟩:=a.slot c g q n hc d
  obtain ⟨p,l⟩:=b.slot c _ i (a.free c g q n d) hc d
  exact ⟨p,l⟩
 free:=fun c g q n d=>by
  obtain ⟨m,i⟩:=a.there c g q d
  exact b.free c m i (a.free c g q n d) d
 there:=fun c g q d=>by
  obtain ⟨m,i⟩:=a.there c g q d
  exact b.there c m i d
 tups:=fun c j q=>b.tups c j (a.tups c j q)
 frzs:=fun c g j q=>b.frzs c g j (a.frzs c g j q)
 tbls:=fun c u q=>by
  obtain ⟨r,i⟩:=a.tbls c u q
  obtain ⟨s,l⟩:=b.tbls c _ i
  exact ⟨r++s,by rw [l,a0M]⟩
theorem Un.kept (k:∀ b u,h.get? b=some u->h'.get? b=some u):Un fs ex H H h h':=
 ⟨fun b c q _ _ _=>k b c q,fun b c q _ _ _=>⟨c.slots,k b c q⟩,fun _ _ _ n _=>n,fun b c q _=>⟨c,k b c q⟩,fun _ _ q=>q,fun _ _ _ q=>q,fun _ d q=>⟨#[],by rw [q];simp⟩⟩
theorem Un.refl:Un fs ex H H h h:=Un.kept fun _ _ q=>q
theorem Un.laid (k:∀ b u,h.get? b=some u->h'.get? b=some u)(d:h.objs.size<=a)(c:H a=none):Un fs ex H (aN H a o) h h' where
 keep:=fun b u q _ _ _=>k b u q
 slot:=fun b u q _ _ _=>⟨u.slots,k b u q⟩
 free:=fun b u q n _=>by rw [bS (TJ (T1 (Tp q) d))];exact n
 there:=fun b u q _=>⟨u,k b u q⟩
 tups:=fun b g q=>by rw [bS (lC q c)];exact q
 frzs:=fun b u g q=>by rw [bS (lC q c)];exact q
 tbls:=fun b i q=>⟨#[],by rw [bS (lC q c),q];simp⟩
theorem Un.write (d:oU (H x))(m:e=x\/H e=some (.own x))(k:∀ b u,b≠e->h.get? b=some u->h'.get? b=some u)(g:∃ u,h'.get? e=some u):Un fs ex H (aN H x o) h h':=by
 have l:∀ b,H b=none->b≠x:=fun b n z=>by subst z;rw [n] at d;exact d
 have j:∀ b,H b=none->b≠e:=fun b n z=>by
  subst z
  rcases m with r|r
  ·exact l b n r
  ·rw [n] at r;cases r
 have i:∀ b u,H b=some u->¬ oU (some u)->b≠x:=fun b u q p z=>by subst z;rw [q] at d;exact p d
 refine ⟨fun b u q n _ _=>k b u (j b n) q,fun b u q n _ _=>⟨u.slots,k b u (j b n) q⟩,fun b u q n _=>by rw [bS (l b n)];exact n,fun b u q _=>?_,
  fun b s q=>by rw [bS (i b _ q fun z=>z)];exact q,fun b u s q=>by rw [bS (i b _ q fun z=>z)];exact q,fun b v q=>⟨#[],by rw [bS (i b _ q fun z=>z),q];simp⟩⟩
 by_cases c:b=e
 ·subst c;exact g
 ·exact ⟨u,k b u c q⟩
theorem Un.mono (u:Un fs ex H H1 h h1)(j:∀ b∈fs,b∈fs')(g:∀ b∈ex,b∈ex'):Un fs' ex' H H1 h h1:=
 ⟨fun b d q n i c=>u.keep b d q n (fun z=>i (j b z)) fun z=>c (g b z),fun _ _ q n _ c=>u.any q n fun z=>c (g _ z),fun b d q n c=>u.free b d q n fun z=>c (g b z),fun b d q c=>u.there b d q fun z=>c (g b z),u.tups,u.frzs,u.tbls⟩
end
noncomputable def qZ (h:UA)(H:Hp):List Addr:=(Ui h.objs.size).filter fun a=>(H a).isSome
noncomputable def i9 (h:UA)(H:Hp):UA:=PySem.W.hideAll h (qZ h H)
theorem Gg (h:UA)(H:Hp):(i9 h H).objs.size=h.objs.size:=PySem.W.hideAll_size _ _
theorem Gh {h:UA}{H:Hp}{b:Addr}{o:VC}(e:h.get? b=some o)(n:H b=none):(i9 h H).get? b=some o:=
 PySem.W.hideAll_get _ e fun a=>by
  have q:(H b).isSome=true:=(UN.mp a).2
  rw [n] at q;simp at q
theorem Gi {h:UA}{H:Hp}{b:Addr}{o:VC}(e:(i9 h H).get? b=some o):h.get? b=some o/\H b=none:=by
 have a:h.get? b=some o:=PySem.W.of_hideAll (qZ h H) e
 refine ⟨a,?_⟩
 cases q:H b with
 | none=>rfl
 | some x=>
  have c:b∈qZ h H:=UN.mpr ⟨Ul.mpr (Tp a),by simp [q]⟩
  have z:(i9 h H).get? b=none:=PySem.W.hideAll_none (qZ h H) c
  rw [z] at e;cases e
noncomputable def Gj (g h:UA)(L:Addr):List (Addr×VC):=(Ui h.objs.size).filterMap fun a=>if a=L\/(g.get? a).isSome=true then none else (h.get? a).map fun o=>(a,o)
noncomputable def rest (g h:UA)(L d:Addr):List (Addr×VC):=(Gj g h L).filter fun p=>decide (p.1≠d)
end L2
namespace L2
open PySem PySem.Spec PyProof.Rows
structure Mod (K:S1)(mg:Str->Option S4)(base:UA):Prop where
 kin:K.In base
 glob:base.Ns Vf mg
 blt:∃ mb,base.Ns a2j mb/\∀ x:Str,x ≠ "__name__"->mb x=Va x
 nolimit:base.NoLimit
structure Cx where
 prog:TC
 w:T7
 K:S1
 mg:Str->Option S4
 base:UA
 A:TR
 N:List Str
 s₀:S5
 H₀:Hp
 env:YY
 outer:List YY
 stack:List YY
 ex:List Addr
 fn:Str->Bool
 calm:Bool
 pn:List (Addr×VC)
 xe:S4->S5->Prop
noncomputable def fS (l:List YY):List Addr:=l.filterMap (·.frame)
noncomputable abbrev Cx.fs (X:Cx):List Addr:=fS X.outer
noncomputable def oV (a:Wb)(x:Str):Prop:=a.names.lookup x=some .local\/a.names.lookup x=some .cell\/a.names.lookup x=some .free
noncomputable def Loc (a:Wb)(x:Str):Prop:=a.names.lookup x=some .local\/a.names.lookup x=some .cell
noncomputable def Gk (env:YY)(h:UA)(m:Str->Option S4)(x:Str)(u:S4):Prop:=
 (env.kindOf x=some .local/\m x=some u)\/((env.kindOf x=some .cell\/env.kindOf x=some .free)/\∃ c,env.cells.lookup x=some c/\h.IsCell c (some u))
structure Cx.Ok (X:Cx):Prop where
 mod:Mod X.K X.mg X.base
 kind:X.env.scope.kind=.function
 glob:X.env.globals=Vf
 blt:X.env.builtins=a2j
 above:X.s₀.heap.objs.size<=X.env.locals
 inj:∀ x y c,X.env.cells.lookup x=some c->X.env.cells.lookup y=some c->x=y
 has:∀ x,(X.env.kindOf x=some .cell\/X.env.kindOf x=some .free)->∃ c,X.env.cells.lookup x=some c
 cab:∀ x c,X.fn x=true->X.env.cells.lookup x=some c->X.s₀.heap.objs.size<=c
 hd:X.calm=true->X.A.handled=none
 frames:X.A.frames=some X.stack
 stk:X.stack=X.outer\/(X.stack=X.env::X.outer/\X.env.frame=some X.env.locals)
 exf:∀ b∈X.ex,b≠X.env.locals/\∀ x c,X.env.cells.lookup x=some c->c≠b
 bs:∀ b o,X.base.get? b=some o->X.s₀.heap.get? b=some o/\X.H₀ b=none
 bsz:X.base.objs.size<=X.s₀.heap.objs.size
 noex:∀ b o,X.base.get? b=some o->b∉X.ex
 exfs:∀ b∈X.ex,b∉X.fs
 funs:X.s₀.heap.FunFrames X.base X.outer
 frf:∀ b∈X.fs,X.H₀ b=none
structure Inv (X:Cx)(a3L:List (Addr×VC))(σ:List (Option V))(H:Hp)(s:S5):Prop where
 ok:X.Ok
 os:s.os=X.s₀.os
 bare:Y0 s.gens
 base:Un X.fs X.ex X.H₀ H X.s₀.heap s.heap
 loc:∃ m,s.heap.Ns X.env.locals m/\∀ (i:Nat)(x:Str)(v:V),X.N[i]? = some x->σ[i]? = some (some v)->oV X.env.scope x->∃ u,RelV v u/\Gk X.env s.heap m x u
 cell:∀ x c,X.env.cells.lookup x=some c->∃ v,s.heap.IsCell c v
 free:H X.env.locals=none
 freeC:∀ x c,X.env.cells.lookup x=some c->H c=none
 pin:∀ p∈X.pn++a3L,s.heap.get? p.1=some p.2/\H p.1=none/\p.1≠X.env.locals/\p.1∉X.fs/\∀ v,p.2.data≠.cell v
 hok:HOk X.prog X.w H s.heap
 len:σ.length=X.N.length
section
variable {X:Cx}{a3L:List (Addr×VC)}{σ:List (Option V)}{H H':Hp}{s:S5}{h':UA}
theorem Cx.Ok.nofr (ok:X.Ok){b:Addr}{o:VC}(e:X.base.get? b=some o):b∉X.fs:=fun a=>by
 have:=(ok.funs.mem a).1
 rw [e] at this;cases this
theorem Inv.bs (I:Inv X a3L σ H s):∀ b o,X.base.get? b=some o->s.heap.get? b=some o/\H b=none:=fun b o e=>
 ⟨I.base.keep b o (I.ok.bs b o e).1 (I.ok.bs b o e).2 (I.ok.nofr e) (I.ok.noex b o e),I.base.free b o (I.ok.bs b o e).1 (I.ok.bs b o e).2 (I.ok.noex b o e)⟩
theorem Inv.bk (I:Inv X a3L σ H s):∀ b o,X.base.get? b=some o->s.heap.get? b=some o:=fun b o e=>(I.bs b o e).1
theorem Inv.mod (I:Inv X a3L σ H s):Mod X.K X.mg X.base:=I.ok.mod
theorem Inv.kIn (I:Inv X a3L σ H s):X.K.In s.heap:=I.ok.mod.kin.keeps I.bk
theorem Inv.nolimit (I:Inv X a3L σ H s):s.heap.NoLimit:=I.ok.mod.nolimit.keeps I.bk
theorem Inv.lt (I:Inv X a3L σ H s):X.env.locals<s.heap.objs.size:=let ⟨_,a,_⟩:=I.loc;a.lt
theorem Inv.sz (I:Inv X a3L σ H s):X.s₀.heap.objs.size<=s.heap.objs.size:=T8 I.ok.above (W9 I.lt)
theorem Inv.nofs (I:Inv X a3L σ H s){a:Addr}(h:s.heap.objs.size<=a):a∉X.fs:=fun b=>by
 obtain ⟨_,o,c,_⟩:=I.ok.funs.mem b
 exact absurd (T1 (Tp c) (T8 I.sz h)) (Vn _)
theorem Inv.cne (I:Inv X a3L σ H s):∀ x c,X.env.cells.lookup x=some c->c≠X.env.locals:=fun x c e z=>by
 obtain ⟨v,o,d,hd⟩:=I.cell x c e
 obtain ⟨m,⟨i,h,g,b,a,_⟩,_⟩:=I.loc
 rw [z,b] at d;cases d;rw [a] at hd;cases hd
theorem Inv.funs (I:Inv X a3L σ H s):s.heap.FunFrames X.base X.outer:=by
 have all:∀ (l:List YY),(∀ b∈fS l,b∈X.fs)->X.s₀.heap.FunFrames X.base l->s.heap.FunFrames X.base l:=by
  intro l
  induction l with
  | nil=>intro _ _;trivial
  | cons h r q=>
   intro g j
   obtain ⟨i,⟨L,o,d,m,n,hd⟩,p⟩:=j
   have a:L∈X.fs:=g L (by unfold fS;rw [YM,d];exact Tt)
   obtain ⟨u,e⟩:=I.base.slot L o n (I.ok.frf L a) a fun z=>I.ok.exfs L z a
   exact ⟨i,⟨L,_,d,m,e,hd⟩,q (fun b c=>g b (by unfold fS;rw [YM,d];exact Tw _ c)) p⟩
 exact all X.outer (fun _ c=>c) I.ok.funs
theorem Inv.stack (I:Inv X a3L σ H s):s.heap.FunFrames X.base X.stack:=by
 rcases I.ok.stk with e|⟨e,a⟩
 ·rw [e];exact I.funs
 ·rw [e]
  obtain ⟨m,b,_⟩:=I.loc
  refine .cons (by rw [I.ok.kind];decide) a b ?_ I.funs
  exact Heap.get?_none_of_le (T8 I.ok.bsz I.ok.above)
theorem Inv.stkSub (I:Inv X a3L σ H s):∀ b∈fS X.stack,b∈X.env.locals::X.fs:=fun b a=>by
 rcases I.ok.stk with e|⟨e,c⟩
 ·rw [e] at a;exact Tw _ a
 ·rw [e] at a
  unfold fS at a
  rw [YM,c] at a
  exact a
theorem Inv.stkFree (I:Inv X a3L σ H s):∀ b∈fS X.stack,H b=none:=fun b a=>by
 rcases T5.mp (I.stkSub b a) with e|a
 ·rw [e];exact I.free
 ·obtain ⟨_,o,c,_⟩:=I.ok.funs.mem a
  exact I.base.free b o c (I.ok.frf b a) fun z=>I.ok.exfs b z a
theorem Inv.step {g':Array a1U}{t':Nat}{d':Drawn}{ch:List Addr}(I:Inv X a3L σ H s)
  (h:∀ b∈ch,(b∈X.ex\/X.s₀.heap.objs.size<=b)/\b≠X.env.locals/\(∀ x c,X.env.cells.lookup x=some c->c≠b)/\∀ p∈X.pn++a3L,p.1≠b)
  (j:∀ b o,b≠X.env.locals->b∉X.fs->b∉ch->s.heap.get? b=some o->H b=none->h'.get? b=some o)
  (slot:∀ b o,b≠X.env.locals->b∈X.fs->b∉ch->s.heap.get? b=some o->H b=none->∃ Y,h'.get? b=some { o with slots:=Y })(free:∀ b o,b∉ch->s.heap.get? b=some o->H b=none->H' b=none)
  (G:∀ b o,b∉ch->s.heap.get? b=some o->∃ O,h'.get? b=some O)
  (R:∀ b B,H b=some (.tup B)->H' b=some (.tup B))(M:∀ b o u,H b=some (.frz o u)->H' b=some (.frz o u))(Q:∀ b T,H b=some (.tbl T)->∃ more,H' b=some (.tbl (T++more)))
  (ns:∀ m,s.heap.Ns X.env.locals m->h'.Ns X.env.locals m)(U:HOk X.prog X.w H' h')(hg:Y0 g') :
  Inv X a3L σ H' { s with heap:=h',gens:=g',drawn:=d',toks:=t' }:=by
 have N:∀ b o,X.s₀.heap.get? b=some o->b≠X.env.locals:=fun b o e=>TJ (T1 (Tp e) I.ok.above)
 have A:∀ b o,X.s₀.heap.get? b=some o->b∉X.ex->b∉ch:=fun b o e a E=>by
  rcases (h b E).1 with z|z
  ·exact a z
  ·exact absurd (T1 (Tp e) z) (Vn _)
 have g:∀ x c,X.env.cells.lookup x=some c->∀ v,s.heap.IsCell c v->h'.IsCell c v:=fun x c e v ⟨o,K,hd⟩=>by
  have w:c∉ch:=fun z=>(h c z).2.2.1 x c e rfl
  by_cases hc:c∈X.fs
  ·obtain ⟨Y,q⟩:=slot c o (I.cne x c e) hc w K (I.freeC x c e)
   exact ⟨_,q,hd⟩
  ·exact ⟨o,j c o (I.cne x c e) hc w K (I.freeC x c e),hd⟩
 refine ⟨I.ok,I.os,hg,⟨fun b o e n E a=>?_,fun b o e n E a=>?_,fun b o e n a=>?_,fun b o e a=>?_,fun b B e=>R b B (I.base.tups b B e),fun b o B e=>M b o B (I.base.frzs b o B e),fun b T e=>?_⟩,?_,fun x c e=>?_,?_,fun x c e=>?_,fun p hp=>?_,U,I.len⟩
 ·exact j b o (N b o e) E (A b o e a) (I.base.keep b o e n E a) (I.base.free b o e n a)
 ·obtain ⟨Y,y⟩:=I.base.slot b o e n E a
  obtain ⟨Z,L⟩:=slot b _ (N b o e) E (A b o e a) y (I.base.free b o e n a)
  exact ⟨Z,L⟩
 ·obtain ⟨O,y⟩:=I.base.there b o e a
  exact free b O (A b o e a) y (I.base.free b o e n a)
 ·obtain ⟨O,y⟩:=I.base.there b o e a
  exact G b O (A b o e a) y
 ·obtain ⟨m1,y⟩:=I.base.tbls b T e
  obtain ⟨m2,L⟩:=Q b _ y
  exact ⟨m1++m2,by rw [L,a0M]⟩
 ·obtain ⟨m,hn,hl⟩:=I.loc
  refine ⟨m,ns m hn,fun i x v y L e3=>?_⟩
  obtain ⟨u,r,l⟩:=hl i x v y L e3
  refine ⟨u,r,?_⟩
  rcases l with l|⟨k,c,e,z⟩
  ·exact .inl l
  ·exact .inr ⟨k,c,e,g x c e _ z⟩
 ·obtain ⟨v,z⟩:=I.cell x c e
  exact ⟨v,g x c e v z⟩
 ·obtain ⟨m,⟨o,_,_,K,_⟩,_⟩:=I.loc
  exact free _ o (fun z=>(h _ z).2.1 rfl) K I.free
 ·obtain ⟨v,o,K,hd⟩:=I.cell x c e
  exact free c o (fun z=>(h c z).2.2.1 x c e rfl) K (I.freeC x c e)
 ·obtain ⟨e,n,ne,nf,d⟩:=I.pin p hp
  have w:p.1∉ch:=fun z=>(h p.1 z).2.2.2 p hp rfl
  exact ⟨j p.1 p.2 ne nf w e n,free p.1 p.2 w e n,ne,nf,d⟩
theorem Inv.un {t':Nat}(I:Inv X a3L σ H s)(u:Un X.fs [] H H' s.heap h')(h:HOk X.prog X.w H' h'):Inv X a3L σ H' { s with heap:=h',toks:=t' }:=by
 obtain ⟨m,⟨o,v,q,i,r⟩,_⟩:=id I.loc
 obtain ⟨y,j⟩:=u.any i I.free (by simp)
 exact I.step (g':=s.gens) (d':=s.drawn) (ch:=[]) (fun _ z=>nomatch z) (fun b o _ g _ e n=>u.keep b o e n g (by simp)) (fun b o _ g _ e n=>u.slot b o e n g (by simp)) (fun b o _ e n=>u.free b o e n (by simp)) (fun b o _ e=>u.there b o e (by simp)) u.tups u.frzs u.tbls (fun w l=>by
  obtain ⟨x,d,c,a,p⟩:=l
  rw [i] at a;cases a
  exact ⟨_,d,c,j,p⟩) h I.bare
theorem Inv.call {g':Array a1U}{t':Nat}{d':Drawn}{ch:List Addr}(I:Inv X a3L σ H s)(u:Un (fS X.stack) ch H H' s.heap h')(j:HOk X.prog X.w H' h')(v:Y0 g')
  (a:∀ b∈ch,(b∈X.ex\/X.s₀.heap.objs.size<=b)/\b≠X.env.locals/\(∀ x c,X.env.cells.lookup x=some c->c≠b)/\∀ p∈X.pn++a3L,p.1≠b) :
  Inv X a3L σ H' { s with heap:=h',gens:=g',drawn:=d',toks:=t' }:=by
 obtain ⟨m,⟨o,B,A,l,r⟩,_⟩:=id I.loc
 obtain ⟨K,i⟩:=u.any l I.free fun z=>(a _ z).2.1 rfl
 exact I.step (ch:=ch) a (fun b o i q hc e n=>u.keep b o e n (fun z=>(T5.mp (I.stkSub b z)).elim i q) hc) (fun b o _ _ hc e n=>u.any e n hc) (fun b o hc e n=>u.free b o e n hc) (fun b o hc e=>u.there b o e hc) u.tups u.frzs u.tbls (fun E w=>by
  obtain ⟨G,h,g,d,y⟩:=w
  rw [l] at d;cases d
  exact ⟨_,h,g,i,y⟩) j v
theorem Inv.turned {t':Nat}{a:Addr}(I:Inv X a3L σ H s)(k:∀ b o,b≠a->s.heap.get? b=some o->h'.get? b=some o)(A:H a=none)(g:a≠X.env.locals)
  (h1:a∈X.ex\/X.s₀.heap.objs.size<=a)(j:∀ x c,X.env.cells.lookup x=some c->c≠a)(l:∀ p∈X.pn++a3L,p.1≠a):Inv X a3L σ H { s with heap:=h',toks:=t' }:=by
 have d:∀ b u,H b=some u->b≠a:=fun b u e z=>by rw [z,A] at e;cases e
 refine I.step (g':=s.gens) (d':=s.drawn) (ch:=[a]) (fun b w=>?_) (fun b o _ _ hc e _=>k b o (fun z=>hc (by simp [z])) e) (fun b o _ _ hc e _=>⟨o.slots,k b o (fun z=>hc (by simp [z])) e⟩) (fun _ _ _ _ n=>n)
  (fun b o hc e=>⟨o,k b o (fun z=>hc (by simp [z])) e⟩) (fun _ _ e=>e) (fun _ _ _ e=>e) (fun b E e=>⟨#[],by rw [e];simp⟩) (fun m y=>?_) (fun b u e=>?_) I.bare
 ·have e:b=a:=by simpa using w
  subst e
  exact ⟨h1,g,j,l⟩
 ·obtain ⟨o,i,h,B,r⟩:=y
  exact ⟨o,i,h,k _ o (U6 g) B,r⟩
 ·refine (I.hok b u e).stay (fun c v hc q=>k c v ?_ q) (fun _ q=>q) fun _ _ q=>q
  rcases hc with z|z
  ·rw [z];exact d b u e
  ·exact d c _ z
theorem Inv.tok (I:Inv X a3L σ H s)(t:Nat):Inv X a3L σ H { s with toks:=t }:=I.un (h':=s.heap) (t':=t) Un.refl I.hok
theorem Inv.kept {t':Nat}(I:Inv X a3L σ H s)(k:∀ b u,s.heap.get? b=some u->h'.get? b=some u):Inv X a3L σ H { s with heap:=h',toks:=t' }:=I.un (Un.kept k) (I.hok.kept k)
theorem Inv.laid {a:Addr}{o:HO}{t':Nat}(I:Inv X a3L σ H s)(k:∀ b u,s.heap.get? b=some u->h'.get? b=some u)(c:s.heap.objs.size<=a)(new:ObjOk X.prog X.w (aN H a o) h' a o) :
  Inv X a3L σ (aN H a o) { s with heap:=h',toks:=t' }:=I.un (Un.laid k c (I.hok.fresh c)) (I.hok.laid k c new)
theorem Inv.write {x e:Addr}{o:HO}{t':Nat}(I:Inv X a3L σ H s)(d:oU (H x))(c:e=x\/H e=some (.own x))(k:∀ b u,b≠e->s.heap.get? b=some u->h'.get? b=some u)(a:∃ u,h'.get? e=some u)
  (new:ObjOk X.prog X.w (aN H x o) h' x o):Inv X a3L σ (aN H x o) { s with heap:=h',toks:=t' }:=I.un (Un.write d c k a) (I.hok.write d c k a new)
theorem Inv.pins_of {a:List (Addr×VC)}(I:Inv X a3L σ H s)(h:∀ p∈a,s.heap.get? p.1=some p.2/\H p.1=none/\p.1≠X.env.locals/\p.1∉X.fs/\∀ v,p.2.data≠.cell v):Inv X a σ H s:=
 ⟨I.ok,I.os,I.bare,I.base,I.loc,I.cell,I.free,I.freeC,fun p b=>(TU.mp b).elim (fun z=>I.pin p (UH _ z)) (h p),I.hok,I.len⟩
theorem Av {N:List Str}(e:N.Nodup){i j:Nat}{x:Str}(a:N[i]? = some x)(b:N[j]? = some x):i=j:=by
 obtain ⟨g,c⟩:=S2.mp a
 obtain ⟨h,d⟩:=S2.mp b
 exact (a1F e).mp (c.trans d.symm)
theorem Aw {M:a1Q}{A:TR}{E:S4->S5->Prop}{i:Nat}{x:Str}{v:V}{u:S4}{Q:Unit->S5->Prop}(I:Inv X a3L σ H s)(hN:X.N.Nodup)(hi:X.N[i]? = some x)(B:Loc X.env.scope x)(r:RelV v u)
  (h:∀ s',Inv X a3L (σ.set i (some v)) H s'->(∃ a,W2 a s.heap s'.heap/\(a=X.env.locals\/X.env.cells.lookup x=some a))->Q () s')(hf:X.fn x=true\/X.env.scope.names.lookup x=some .local:=by first|exact .inl rfl|exact .inr rfl|assumption):TH M A (storeName X.env x u) Q E s:=by
 obtain ⟨m,hn,hl⟩:=id I.loc
 have Z:(X.env.scope.kind == .class||(X.env.scope.kind == .module&&X.env.locals != X.env.globals))=false:=by rw [I.ok.kind];rfl
 have L:i<σ.length:=by rw [I.len];exact (S2.mp hi).1
 have cne:=I.cne
 have w:∀ {a:Addr}{h':UA},(∃ o,s.heap.get? a=some o/\H a=none)->W2 a s.heap h'->HOk X.prog X.w H h':=fun {a h'} ha g b ob e=>by
  obtain ⟨_,_,G⟩:=ha
  refine (I.hok b ob e).stay (fun c w' hc q=>(g.2 c ?_).trans q) (fun _ q=>q) fun _ _ q=>q
  rintro rfl
  rcases hc with rfl|hc
  ·rw [G] at e;cases e
  ·rw [G] at hc;cases hc
 rcases B with N|N
 ·refine wpAny_storeName_local N hn (fun h' hn' g=>?_) Z
  obtain ⟨oL,_,_,hoL,_⟩:=id hn
  refine h _ ⟨I.ok,I.os,I.bare,⟨fun b o e n O B=>?_,fun b o e n O B=>?_,I.base.free,fun b o e B=>?_,I.base.tups,I.base.frzs,I.base.tbls⟩,⟨_,hn',fun j y v' l K e3=>?_⟩,fun y c e=>?_,I.free,I.freeC,fun p hp=>?_,w ⟨oL,hoL,I.free⟩ g,by simpa using I.len⟩ ⟨_,g,.inl rfl⟩
  ·exact (g.2 b (TJ (T1 (Tp e) I.ok.above))).trans (I.base.keep b o e n O B)
  ·obtain ⟨sl,l⟩:=I.base.slot b o e n O B
   exact ⟨sl,(g.2 b (TJ (T1 (Tp e) I.ok.above))).trans l⟩
  ·obtain ⟨o',l⟩:=I.base.there b o e B
   exact ⟨o',(g.2 b (TJ (T1 (Tp e) I.ok.above))).trans l⟩
  ·by_cases T:j=i
   ·subst T
    rw [hi] at l;cases l
    rw [Uw L] at K
    cases K
    exact ⟨u,r,.inl ⟨N,by simp⟩⟩
   ·rw [UI (U6 T)] at K
    obtain ⟨u',r',q⟩:=hl j y v' l K e3
    refine ⟨u',r',?_⟩
    rcases q with ⟨k,e⟩|⟨k,c,e,z⟩
    ·refine .inl ⟨k,?_⟩
     have:y≠x:=fun e=>T (Av hN l (e ▸ hi))
     simp [this,e]
    ·exact .inr ⟨k,c,e,z.sameBut g (cne y c e)⟩
  ·obtain ⟨w',z⟩:=I.cell y c e
   exact ⟨w',z.sameBut g (cne y c e)⟩
  ·obtain ⟨e,n,ne,nf,d⟩:=I.pin p hp
   exact ⟨(g.2 p.1 ne).trans e,n,ne,nf,d⟩
 ·have R:X.fn x=true:=by
   rcases hf with z|z
   ·exact z
   ·rw [z] at N;cases N
  obtain ⟨c,hc⟩:=I.ok.has x (.inl N)
  obtain ⟨w',z⟩:=I.cell x c hc
  refine wpAny_storeName_cell I.ok.kind N hc z (fun h' U g=>?_)
  obtain ⟨oc,hoc,hocd⟩:=id z
  refine h { s with heap:=h' } ⟨I.ok,I.os,I.bare,⟨fun b o e n O B=>?_,fun b o e n O B=>?_,I.base.free,fun b o e B=>?_,I.base.tups,I.base.frzs,I.base.tbls⟩,⟨m,hn.sameBut g (U6 (cne x c hc)),fun j y v' l K e3=>?_⟩,fun y c' e=>?_,I.free,I.freeC,fun p hp=>?_,w ⟨oc,hoc,I.freeC x c hc⟩ g,by simpa using I.len⟩ ⟨c,g,.inr hc⟩
  ·exact (g.2 b (TJ (T1 (Tp e) (I.ok.cab x c R hc)))).trans (I.base.keep b o e n O B)
  ·obtain ⟨sl,l⟩:=I.base.slot b o e n O B
   exact ⟨sl,(g.2 b (TJ (T1 (Tp e) (I.ok.cab x c R hc)))).trans l⟩
  ·obtain ⟨o',l⟩:=I.base.there b o e B
   exact ⟨o',(g.2 b (TJ (T1 (Tp e) (I.ok.cab x c R hc)))).trans l⟩
  ·by_cases T:j=i
   ·subst T
    rw [hi] at l;cases l
    rw [Uw L] at K
    cases K
    exact ⟨u,r,.inr ⟨.inl N,c,hc,U⟩⟩
   ·rw [UI (U6 T)] at K
    obtain ⟨u',r',q⟩:=hl j y v' l K e3
    refine ⟨u',r',?_⟩
    rcases q with q|⟨k,c',e,z'⟩
    ·exact .inl q
    ·refine .inr ⟨k,c',e,z'.sameBut g ?_⟩
     rintro rfl
     exact T (Av hN l (I.ok.inj _ _ _ e hc ▸ hi))
  ·by_cases Y:c'=c
   ·subst Y;exact ⟨_,U⟩
   ·obtain ⟨w2,z2⟩:=I.cell y c' e
    exact ⟨w2,z2.sameBut g Y⟩
  ·obtain ⟨e,n,ne,nf,d⟩:=I.pin p hp
   refine ⟨(g.2 p.1 ?_).trans e,n,ne,nf,d⟩
   intro q
   rw [q,hoc] at e
   have q':oc=p.2:=TZ e
   exact d w' (by rw [<- q'];exact hocd)
theorem Ax {M:a1Q}{A:TR}{E:S4->S5->Prop}{i:Nat}{x:Str}{v:V}{u:S4}{Q:Unit->S5->Prop}(I:Inv X a3L σ H s)(c:X.N.Nodup)(e:X.N[i]? = some x)(g:Loc X.env.scope x)(r:RelV v u)
  (h:∀ a,Inv X a3L (σ.set i (some v)) H a->Q () a)(d:X.fn x=true\/X.env.scope.names.lookup x=some .local:=by first|exact .inl rfl|exact .inr rfl|assumption):TH M A (storeName X.env x u) Q E s:=
 Aw I c e g r (fun a b _=>h a b) d
end
noncomputable abbrev XK:=S4->Option Addr->Hp->Prop
noncomputable abbrev St:=List (Option V)
noncomputable abbrev VK:=V->Hp->Prop
noncomputable abbrev TE:=St->Hp->VK->Prop
noncomputable abbrev TT:=St->Hp->(Bool->Hp->Prop)->Prop
noncomputable abbrev TA:=St->Hp->(List V->Hp->Prop)->Prop
structure Ends where
 nx:St->Hp->Prop
 rt:VK
 bk:St->Hp->Prop:=fun _ _=>False
 ct:St->Hp->Prop:=fun _ _=>False
noncomputable abbrev TS:=Ends->St->Hp->Prop
noncomputable def EP (X:Cx)(a3L:List (Addr×VC))(σ:St)(Q:VK)(u:S4)(b:S5):Prop:=∃ v a,Inv X a3L σ a b/\RelV v u/\Q v a
noncomputable def TP (X:Cx)(a3L:List (Addr×VC))(σ:St)(Q:Bool->Hp->Prop)(b:Bool)(c:S5):Prop:=∃ a,Inv X a3L σ a c/\Q b a
noncomputable def AP (X:Cx)(a3L:List (Addr×VC))(σ:St)(Q:List V->Hp->Prop)(us:List S4)(b:S5):Prop:=∃ vs a,Inv X a3L σ a b/\Vals vs us/\Q vs a
noncomputable def SP (X:Cx)(a3L:List (Addr×VC))(D:Ends)(f:Flow)(c:S5):Prop:=
 match f with
 | .next=>∃ a b,Inv X a3L a b c/\D.nx a b
 | .brk=>∃ a b,Inv X a3L a b c/\D.bk a b
 | .cont=>∃ a b,Inv X a3L a b c/\D.ct a b
 | .ret u=>∃ v a b,Inv X a3L a b c/\RelV v u/\D.rt v b
noncomputable def PE (X:Cx)(e:Expr)(t:TE):Prop:=
 ∀ (a3L:List (Addr×VC))(s:S5)(σ:St)(H:Hp)(Q:VK),Inv X a3L σ H s->t σ H Q->TH (TK X.prog X.w) X.A (eval e X.env) (EP X a3L σ Q) X.xe s
noncomputable def PT (X:Cx)(e:Expr)(t:TT):Prop:=
 ∀ (a3L:List (Addr×VC))(s:S5)(σ:St)(H:Hp)(Q:Bool->Hp->Prop),Inv X a3L σ H s->t σ H Q->TH (TK X.prog X.w) X.A (a1c e X.env (eval e X.env)) (TP X a3L σ Q) X.xe s
noncomputable def PW (X:Cx)(e:Expr)(t:TT):Prop:=
 ∀ (a:a1h S4)(a3L:List (Addr×VC))(s:S5)(σ:St)(H:Hp)(Q:Bool->Hp->Prop),Inv X a3L σ H s->t σ H Q->TH (TK X.prog X.w) X.A (a1c e X.env a) (TP X a3L σ Q) X.xe s
theorem PW.pt {X:Cx}{e:Expr}{t:TT}(h:PW X e t):PT X e t:=h _
noncomputable def PA (X:Cx)(es:List Expr)(t:TA):Prop:=
 ∀ (pos:Vc)(a3L:List (Addr×VC))(s:S5)(σ:St)(H:Hp)(Q:List V->Hp->Prop),Inv X a3L σ H s->t σ H Q->TH (TK X.prog X.w) X.A (spliced (Wa pos (Uh es X.env))) (AP X a3L σ Q) X.xe s
noncomputable def PS (X:Cx)(st:Stmt)(t:TS):Prop:=
 ∀ (a3L:List (Addr×VC))(s:S5)(σ:St)(H:Hp)(D:Ends),Inv X a3L σ H s->t D σ H->TH (TK X.prog X.w) X.A (exec st X.env) (SP X a3L D) X.xe s
noncomputable def PSs (X:Cx)(st:List Stmt)(t:TS):Prop:=
 ∀ (a3L:List (Addr×VC))(s:S5)(σ:St)(H:Hp)(D:Ends),Inv X a3L σ H s->t D σ H->TH (TK X.prog X.w) X.A (execs st X.env) (SP X a3L D) X.xe s
theorem aR {c:Type}{t:a1h c}{Q b:c->S5->Prop}{M:a1Q}{A:TR}{E:S4->S5->Prop}{s:S5}(h:TH M A t Q E s)(d:∀ a s,Q a s->b a s):TH M A t b E s:=Uq h d fun _ _ x=>x
end L2
namespace L2
open PySem PySem.Spec PyProof.Rows
section
variable {X:Cx}
noncomputable def Ay (i:Nat):TE:=fun σ H Q=>∃ v,σ[i]? = some (some v)/\Q v H
noncomputable def tC (v:V):TE:=fun _ H Q=>Q v H
theorem Gm {i:Nat}{x:Str}{pos:Vc}(j:X.N[i]? = some x)(q:oV X.env.scope x)(hd:(x == ("__debug__":Str))=false:=by decide) (g:(x == ("__classdict__":Str))=false:=by decide):PE X (.Name x pos) (Ay i):=by
 intro d s w H Q I h
 obtain ⟨v,e,h⟩:=h
 obtain ⟨m,p,n⟩:=I.loc
 obtain ⟨u,r,l⟩:=n i x v j e q
 have fin:EP X d w Q u s:=⟨v,H,I,r,h⟩
 rcases l with ⟨b,o⟩|⟨b,c,hc,a⟩
 ·exact a2c (wpAny_loadName_local I.ok.kind b p o fin) hd
 ·rcases b with b|b
  ·exact a2c (wpAny_loadName_cell I.ok.kind b hc a fin) hd
  ·exact a2c (wpAny_loadName_free I.ok.kind b hc a fin g) hd
theorem Gn {i j pos}:PE X (.Constant (.int i) j pos) (tC (.int i)):=fun _ _ _ H _ I h=>wpAny_Constant_int ⟨.int i,H,I.tok _,⟨_,rfl⟩,h⟩
theorem Gp {b j pos}:PE X (.Constant (.bool b) j pos) (tC (.bl b)):=fun _ _ _ H _ I h=>Constant_bool ⟨.bl b,H,I,rfl,h⟩
theorem Gq {j pos}:PE X (.Constant .none j pos) (tC .non):=fun _ _ _ H _ I h=>Constant_none ⟨.non,H,I,rfl,h⟩
theorem Gr {x j pos}:PE X (.Constant (.str x) j pos) (tC (.str x)):=fun _ _ _ H _ I h=>Calls.Constant_str ⟨.str x,H,I.tok _,⟨_,rfl⟩,h⟩
noncomputable def Gl (X:Cx)(x:Str):Prop:=X.env.kindOf x=some .globalImplicit
theorem uR {E:S4->S5->Prop}{a3L:List (Addr×VC)}{s:S5}{σ:St}{H:Hp}{x:Str}{u:S4}{pos:Vc}{Q:S4->S5->Prop}(I:Inv X a3L σ H s)(a:Gl X x)(b:X.mg x=some u)(h:Q u s)
  (hd:(x == ("__debug__":Str))=false:=by decide):TH (TK X.prog X.w) X.A (eval (.Name x pos) X.env) Q E s:=
 ZD I.ok.kind a (Calls.loadGlobal_global (by rw [I.ok.glob];exact I.mod.glob.keeps I.bk) b h) hd
theorem jA {E:S4->S5->Prop}{a3L:List (Addr×VC)}{s:S5}{σ:St}{H:Hp}{x:Str}{u:S4}{pos:Vc}{Q:S4->S5->Prop}(I:Inv X a3L σ H s)(c:Gl X x)(d:X.mg x=none)(g:Va x=some u)(h:Q u s)
  (e:x ≠ "__name__":=by decide) (hd:(x == ("__debug__":Str))=false:=by decide):TH (TK X.prog X.w) X.A (eval (.Name x pos) X.env) Q E s:=by
 obtain ⟨i,a,b⟩:=I.mod.blt
 exact ZD I.ok.kind c (Calls.loadGlobal_builtin (by rw [I.ok.glob];exact I.mod.glob.keeps I.bk) d (by rw [I.ok.blt];exact a.keeps I.bk) ((b x e).trans g) h) hd
theorem Gs {x:Str}{v:V}{u:S4}{pos:Vc}(a:Gl X x)(b:X.mg x=some u)(r:RelV v u)(hd:(x == ("__debug__":Str))=false:=by decide):PE X (.Name x pos) (tC v):=
 fun _ _ _ H _ I h=>uR I a b ⟨v,H,I,r,h⟩ hd
theorem Gu {x:Str}{v:V}{u:S4}{pos:Vc}(a:Gl X x)(b:X.mg x=none)(d:Va x=some u)(r:RelV v u)(c:x ≠ "__name__":=by decide) (hd:(x == ("__debug__":Str))=false:=by decide):PE X (.Name x pos) (tC v):=
 fun _ _ _ H _ I h=>jA I a b d ⟨v,H,I,r,h⟩ c hd
variable {a b:Expr}{ta tb:TE}{pos:Vc}
variable {tA tB':TT}{rest:List Expr}
noncomputable def Gv (t u:TT):TT:=fun σ H Q=>t σ H fun c d=>if c=true then u σ d Q else Q false d
noncomputable def Gw (t u:TT):TT:=fun σ H Q=>t σ H fun c d=>if c=true then Q true d else u σ d Q
noncomputable def Gx (t:TT):TT:=fun σ H Q=>t σ H fun c d=>Q (!c) d
theorem Gy (g:PT X a tA):PW X (.BoolOp .And [a] pos) tA:=by
 intro l d s i H Q I h
 refine isTrue_and (aR (g d s i H Q I h) fun c j e=>?_)
 cases c with
 | true=>exact isTrue_and_nil e
 | false=>exact e
theorem Gz (g:PT X a tA):PW X (.BoolOp .Or [a] pos) tA:=by
 intro l d s i H Q I h
 refine isTrue_or (aR (g d s i H Q I h) fun c j e=>?_)
 cases c with
 | false=>exact isTrue_or_nil e
 | true=>exact e
theorem GA (l:PT X a tA)(m:PW X (.BoolOp .And (b::rest) pos) tB'):PW X (.BoolOp .And (a::b::rest) pos) (Gv tA tB'):=by
 intro o d s j H Q I h
 refine isTrue_and (aR (l d s j H _ I h) fun c n ⟨e,g,i⟩=>?_)
 cases c with
 | true=>exact m o d n j e Q g i
 | false=>exact ⟨e,g,i⟩
theorem GB (l:PT X a tA)(m:PW X (.BoolOp .Or (b::rest) pos) tB'):PW X (.BoolOp .Or (a::b::rest) pos) (Gw tA tB'):=by
 intro o d s j H Q I h
 refine isTrue_or (aR (l d s j H _ I h) fun c n ⟨e,g,i⟩=>?_)
 cases c with
 | true=>exact ⟨e,g,i⟩
 | false=>exact m o d n j e Q g i
theorem GC (g:PT X a tA):PT X (.UnaryOp .Not a pos) (Gx tA):=by
 intro d s i H Q I h
 exact isTrue_not (g d s i H (fun c e=>Q (!c) e) I h)
noncomputable def GD (ta tb:TE):TE:=fun σ H Q=>ta σ H fun x d=>∃ c,x=.bl c/\if c=true then tb σ d Q else Q (.bl false) d
noncomputable def GF (ta tb:TE):TE:=fun σ H Q=>ta σ H fun x d=>∃ c,x=.bl c/\if c=true then Q (.bl true) d else tb σ d Q
noncomputable def GG (ta:TE):TE:=fun σ H Q=>ta σ H fun x d=>∃ c,x=.bl c/\Q (.bl (!c)) d
theorem GH {op} {t:TE}(h:PE X a t):PE X (.BoolOp op [a] pos) t:=fun a3L s σ H Q I hw=>BoolOp_one (h a3L s σ H Q I hw)
theorem GI (l:PE X a ta)(m:PE X (.BoolOp .And (b::rest) pos) tb):PE X (.BoolOp .And (a::b::rest) pos) (GD ta tb):=by
 intro d s j H Q I h
 refine BoolOp_and (aR (l d s j H _ I h) fun v o ⟨x,g,i,n,e⟩=>?_)
 obtain ⟨c,rfl,e⟩:=e
 cases n
 refine VJ ?_
 cases c with
 | true=>exact m d o j g Q i e
 | false=>exact ⟨.bl false,g,i,rfl,e⟩
theorem GJ (l:PE X a ta)(m:PE X (.BoolOp .Or (b::rest) pos) tb):PE X (.BoolOp .Or (a::b::rest) pos) (GF ta tb):=by
 intro d s j H Q I h
 refine BoolOp_or (aR (l d s j H _ I h) fun v o ⟨x,g,i,n,e⟩=>?_)
 obtain ⟨c,rfl,e⟩:=e
 cases n
 refine VJ ?_
 cases c with
 | false=>exact m d o j g Q i e
 | true=>exact ⟨.bl true,g,i,rfl,e⟩
theorem GK (j:PE X a ta):PE X (.UnaryOp .Not a pos) (GG ta):=by
 intro d s m H Q I h
 refine UnaryOp_ (aR (j d s m H _ I h) fun v n ⟨x,g,i,l,e⟩=>?_)
 obtain ⟨c,rfl,e⟩:=e
 cases l
 exact not_of (VJ ⟨.bl (!c),g,i,rfl,e⟩)
noncomputable def GL (t:TT)(ta tb:TE):TE:=fun σ H Q=>t σ H fun c d=>if c=true then ta σ d Q else tb σ d Q
theorem GN {c:Expr}(hc:PT X c tA)(n:PE X a ta)(o:PE X b tb):PE X (.IfExp c a b pos) (GL tA ta tb):=by
 intro e s g H Q I h
 refine wpAny_IfExp (aR (hc e s g H _ I h) fun d m ⟨i,j,l⟩=>?_)
 cases d with
 | true=>exact n e m g i Q j l
 | false=>exact o e m g i Q j l
end
end L2
namespace L2
open PySem PySem.Spec PyProof.Rows
noncomputable def SqL (K:S1)(H:Hp)(a:Addr)(xs:List V):Prop:=
 Rd H a (.lst xs) \/
  ∃ (o:VC)(b:Array S4)(n:Nat),K.lookup a=some o/\o.cls=.type "list"/\o.dict=none/\o.data=.seq b n/\b.size<=Tj/\Vals xs b.toList
noncomputable def SqT (K:S1)(H:Hp)(a:Addr)(xs:List V):Prop:=
 Rd H a (.tup xs) \/
  ∃ (o:VC)(b:Array S4)(n:Nat),K.lookup a=some o/\o.cls=.type "tuple"/\o.dict=none/\o.data=.seq b n/\b.size<=Tj/\Vals xs b.toList
noncomputable def GO:S4->Option V
 | .none=>some .non
 | .bool b=>some (.bl b)
 | .int i _=>some (.int i)
 | .str x _=>some (.str x)
 | .bytes b _=>some (.byt b)
 | .float b _=>some (.flt b)
 | .ref a=>some (.ref a)
 | .type n=>some (.ty n)
 | _=>none
theorem RelV.abs {x:V}{u:S4}(r:RelV x u):GO u=some x:=by
 cases x with
 | non=>cases r;rfl
 | bl _=>cases r;rfl
 | int _=>obtain ⟨t,rfl⟩:=r;rfl
 | str _=>obtain ⟨t,rfl⟩:=r;rfl
 | byt _=>obtain ⟨t,rfl⟩:=r;rfl
 | flt _=>obtain ⟨t,rfl⟩:=r;rfl
 | ref _=>cases r;rfl
 | ty _=>cases r;rfl
theorem RelV.inj {x y:V}{u:S4}(r:RelV x u)(q:RelV y u):x=y:=TZ (r.abs.symm.trans q.abs)
theorem Vals.inj:∀ {xs ys:List V}{us:List S4},Vals xs us->Vals ys us->xs=ys
 | _,_,_,.nil,.nil=>rfl
 | _,_,_,.cons r t,.cons r' t'=>by rw [r.inj r',Vals.inj t t']
section
variable {X:Cx}{a3L:List (Addr×VC)}{σ:St}{H:Hp}{s:S5}{a:Addr}{xs ys:List V}
theorem SqL.of {K:S1}(h:H a=some (.lst xs)):SqL K H a xs:=.inl (.inl h)
theorem SqT.of {K:S1}(h:H a=some (.tup xs)):SqT K H a xs:=.inl (.inl h)
theorem Inv.list (I:Inv X a3L σ H s)(h:SqL X.K H a xs):∃ b:List S4,Vals xs b/\PlainL s.heap a b.toArray/\xs.length<=Tj:=by
 rcases h with h|⟨o,b,n,c,hc,hd,d,g,r⟩
 ·obtain ⟨z,b,n,r,e⟩:=h.ok I.hok
  exact ⟨b,r,⟨_,n,e,rfl,rfl,rfl⟩,z⟩
 ·refine ⟨b.toList,r,⟨o,n,I.kIn a o c,hc,hd,by simpa using d⟩,?_⟩
  have e:=r.length
  simp only [WA] at e
  omega
theorem Inv.tuple (I:Inv X a3L σ H s)(h:SqT X.K H a xs):∃ b:List S4,Vals xs b/\a2z s.heap a b.toArray/\xs.length<=Tj:=by
 rcases h with h|⟨o,b,n,c,hc,hd,d,g,r⟩
 ·obtain ⟨z,b,r,p⟩:=h.ok I.hok
  exact ⟨b,r,p.tup,z⟩
 ·refine ⟨b.toList,r,⟨o,I.kIn a o c,hc,n,by simpa using d⟩,?_⟩
  have e:=r.length
  simp only [WA] at e
  omega
theorem Inv.tupN (I:Inv X a3L σ H s)(h:SqT X.K H a xs):∃ b:List S4,Vals xs b/\TupN s.heap a b.toArray:=by
 rcases h with h|⟨o,b,n,c,hc,hd,d,e,r⟩
 ·obtain ⟨z,b,r,p⟩:=h.ok I.hok
  exact ⟨b,r,p⟩
 ·exact ⟨b.toList,r,o,I.kIn a o c,hc,n,by simpa using d,hd⟩
theorem Inv.list_inj (I:Inv X a3L σ H s)(h:SqL X.K H a xs)(h':SqL X.K H a ys):xs=ys:=by
 obtain ⟨c,r,⟨o,n,e,_,_,d⟩,_⟩:=I.list h
 obtain ⟨b,j,⟨m,l,i,_,_,g⟩,_⟩:=I.list h'
 rw [e] at i;cases i
 rw [d] at g
 injection g with d1 _
 have:c=b:=by simpa using congrArg a2p d1
 subst this
 exact r.inj j
theorem Inv.tuple_inj (I:Inv X a3L σ H s)(h:SqT X.K H a xs)(h':SqT X.K H a ys):xs=ys:=by
 obtain ⟨c,r,⟨o,e,_,n,d⟩,_⟩:=I.tuple h
 obtain ⟨b,j,⟨m,i,_,l,g⟩,_⟩:=I.tuple h'
 rw [e] at i;cases i
 rw [d] at g
 injection g with d1 _
 have:c=b:=by simpa using congrArg a2p d1
 subst this
 exact r.inj j
end
noncomputable abbrev Cx.wish (X:Cx)(E:S4->S5->Prop):Cx:={ X with xe:=E }
noncomputable abbrev Cx.nox (X:Cx):Cx:=X.wish fun _ _=>False
theorem Cx.Ok.wish {X:Cx}(ok:X.Ok)(E:S4->S5->Prop):(X.wish E).Ok:=
 ⟨ok.mod,ok.kind,ok.glob,ok.blt,ok.above,ok.inj,ok.has,ok.cab,ok.hd,ok.frames,ok.stk,ok.exf,ok.bs,ok.bsz,ok.noex,ok.exfs,ok.funs,ok.frf⟩
theorem Cx.Ok.unwish {X:Cx}{E:S4->S5->Prop}(ok:(X.wish E).Ok):X.Ok:=
 ⟨ok.mod,ok.kind,ok.glob,ok.blt,ok.above,ok.inj,ok.has,ok.cab,ok.hd,ok.frames,ok.stk,ok.exf,ok.bs,ok.bsz,ok.noex,ok.exfs,ok.funs,ok.frf⟩
section
variable {X:Cx}{a3L:List (Addr×VC)}{σ:St}{H:Hp}{s:S5}{E:S4->S5->Prop}
theorem Inv.wish (I:Inv X a3L σ H s)(E:S4->S5->Prop):Inv (X.wish E) a3L σ H s:=⟨I.ok.wish E,I.os,I.bare,I.base,I.loc,I.cell,I.free,I.freeC,I.pin,I.hok,I.len⟩
theorem Inv.unwish (I:Inv (X.wish E) a3L σ H s):Inv X a3L σ H s:=⟨I.ok.unwish,I.os,I.bare,I.base,I.loc,I.cell,I.free,I.freeC,I.pin,I.hok,I.len⟩
theorem SP.unwish {D:Ends}{f:Flow}{c:S5}(h:SP (X.wish E) a3L D f c):SP X a3L D f c:=by
 cases f with
 | next=>obtain ⟨a,b,I,q⟩:=h;exact ⟨a,b,I.unwish,q⟩
 | brk=>obtain ⟨a,b,I,q⟩:=h;exact ⟨a,b,I.unwish,q⟩
 | cont=>obtain ⟨a,b,I,q⟩:=h;exact ⟨a,b,I.unwish,q⟩
 | ret u=>obtain ⟨v,a,b,I,r,q⟩:=h;exact ⟨v,a,b,I.unwish,r,q⟩
theorem PSs.nox {st:List Stmt}{t:TS}(h:PSs X.nox st t):PSs X st t:=fun a3L s σ H D I hw=>
 Uq (h a3L s σ H D (I.wish _) hw) (fun _ _ q=>q.unwish) fun _ _ z=>VB z
end
section
variable {X:Cx}{st:Stmt}{rest:List Stmt}{t u:TS}{e:Expr}{te:TE}{pos:Vc}
noncomputable def Az:TS:=fun D σ H=>D.nx σ H
noncomputable def GP (t u:TS):TS:=fun D σ H=>t { D with nx:=u D } σ H
theorem GQ:PSs X [] Az:=fun _ _ σ H _ I h=>YH ⟨σ,H,I,h⟩
theorem GR (h1:PS X st t)(g:PSs X rest u):PSs X (st::rest) (GP t u):=by
 intro a s j H D I h
 refine a2C (aR (h1 a s j H { D with nx:=u D } I h) fun f i q=>?_)
 cases f with
 | next=>
  obtain ⟨b,c,d,q⟩:=q
  exact g a i b c D d q
 | ret v=>exact q
 | brk=>exact q
 | cont=>exact q
theorem GS (h1:PS X st t):PSs X [st] t:=by
 intro a s b H D I h
 refine a2C (aR (h1 a s b H D I h) fun f c q=>?_)
 cases f with
 | next=>exact YH q
 | ret v=>exact q
 | brk=>exact q
 | cont=>exact q
theorem GU:PS X (.Pass pos) Az:=fun _ _ σ H _ I h=>wpAny_Pass ⟨σ,H,I,h⟩
theorem Inv.quiet {a3L:List (Addr×VC)}{σ:St}{H:Hp}{s:S5}(I:Inv X a3L σ H s):interactive X.env=false:=by simp [interactive,I.ok.kind]
noncomputable def GV (te:TE):TS:=fun D σ H=>te σ H fun _ a=>D.nx σ a
theorem GW (g:PE X e te)(i:Yb e none pos.line X.env=pure false:=by rfl):PS X (.Expr e pos) (GV te):=by
 intro a s b H D I h
 exact wpAny_Expr_any (aR (g a s b H _ I h) fun v m ⟨x,c,d,l,j⟩=>⟨b,c,d,j⟩) I.quiet i
noncomputable def GX (te:TE):TS:=fun D σ H=>te σ H D.rt
theorem GY (g:PE X e te):PS X (.Return (some e) pos) (GX te):=by
 intro a s b H D I h
 exact wpAny_Return_some (aR (g a s b H _ I h) fun v l ⟨x,c,d,j,i⟩=>⟨x,b,c,d,j,i⟩)
noncomputable def GZ:TS:=fun D _ H=>D.rt .non H
theorem G0:PS X (.Return none pos) GZ:=fun _ _ σ H _ I h=>wpAny_Return_none ⟨.non,σ,H,I,rfl,h⟩
noncomputable def G3 (c:TT)(t u:TS):TS:=fun D σ H=>c σ H fun b a=>if b=true then t D σ a else u D σ a
theorem G4 {c:Expr}{a b:List Stmt}{o:TT}(hc:PT X c o)(p:PSs X a t)(q:PSs X b u):PS X (.If c a b pos) (G3 o t u):=by
 intro g s i H D I h
 refine wpAny_If (aR (hc g s i H _ I h) fun d n ⟨j,l,m⟩=>?_)
 cases d with
 | true=>exact p g n i j D l m
 | false=>exact q g n i j D l m
end
noncomputable abbrev TG:=V->St->Hp->(St->Hp->Prop)->Prop
noncomputable abbrev mU:=List V->St->Hp->(St->Hp->Prop)->Prop
noncomputable def PG (X:Cx)(a:Expr)(t:TG):Prop:=
 ∀ (a3L:List (Addr×VC))(s:S5)(σ:St)(H:Hp)(v:V)(u:S4)(Q:St->Hp->Prop),Inv X a3L σ H s->RelV v u->t v σ H Q->
  TH (TK X.prog X.w) X.A (Zf a X.env u) (fun _ d=>∃ b c,Inv X a3L b c d/\Q b c) X.xe s
noncomputable def oW (X:Cx)(d:List Expr)(t:mU):Prop:=
 ∀ (a3L:List (Addr×VC))(s:S5)(σ:St)(H:Hp)(vs:List V)(us:List S4)(Q:St->Hp->Prop),Inv X a3L σ H s->Vals vs us->t vs σ H Q->
  TH (TK X.prog X.w) X.A (assignInOrder ((VL d X.env).map (·.2)) us) (fun _ c=>∃ a b,Inv X a3L a b c/\Q a b) X.xe s
noncomputable abbrev G5:=V->V->V->Hp->(Hp->Prop)->Prop
section
variable {X:Cx}{pos:Vc}
noncomputable def uS (i:Nat):TG:=fun v σ H Q=>Q (σ.set i (some v)) H
theorem AF {i:Nat}{x:Str}(c:X.N.Nodup)(e:X.N[i]? = some x)(g:Loc X.env.scope x)(d:X.fn x=true\/X.env.scope.names.lookup x=some .local:=by first|exact .inl rfl|exact .inr rfl|assumption):PG X (.Name x pos) (uS i):=by
 intro b s l H v u Q I r h
 exact a2r (Ax I c e g r (fun j a=>⟨_,H,a,h⟩) d)
noncomputable def AG:mU:=fun vs σ H Q=>vs=[]/\Q σ H
noncomputable def AH (t:TG)(u:mU):mU:=fun vs σ H Q=>∃ v r,vs=v::r/\t v σ H fun a b=>u r a b Q
theorem G6:oW X [] AG:=by
 intro a s b H d c Q I r h
 obtain ⟨e,h⟩:=h
 subst e
 cases r
 exact assignInOrder_nil ⟨b,H,I,h⟩
theorem G7 {e:Expr}{es:List Expr}{t:TG}{u:mU}(h1:PG X e t)(i:oW X es u)
  (j:(VL (e::es) X.env).map (·.2)=Zf e X.env::(VL es X.env).map (·.2):=by rfl):oW X (e::es) (AH t u):=by
 intro a s o H w p Q I r h
 obtain ⟨v,q,g,h⟩:=h
 subst g
 cases r with
 | cons r m=>
  rw [j]
  refine assignInOrder_cons (aR (h1 a s o H _ _ _ I r h) fun _ n ⟨b,c,d,l⟩=>?_)
  exact i a n b c _ _ Q d m l
noncomputable def AI (b:TE)(g:TG):TS:=fun D σ H=>b σ H fun x a=>g x σ a D.nx
theorem G8 {tg e:Expr}{b:TE}{g:TG}(j:PE X e b)(l:PG X tg g)(m:swapsWithSole [tg] e pos.line X.env=pure false:=by rfl)(hw:a0C [tg] e X.env=pure none:=by rfl)
  (h1:(VL [tg] X.env).map (·.2)=[Zf tg X.env]:=by rfl):PS X (.Assign [tg] e pos) (AI b g):=by
 intro a s c H D I h
 refine wpAny_Assign_stores (aR (j a s c H _ I h) fun v p ⟨x,d,i,o,n⟩=>?_) m hw
 rw [h1]
 exact aR (l a p c d x v _ i o n) fun _ r q=>q
theorem G9 {i:Nat}{x:Str}{e:Expr}{c:TE}{a:Vc}(l:X.N.Nodup)(o:X.N[i]? = some x)(q:Loc X.env.scope x)(m:PE X e c)(p:Yb e (some (.Name x a)) pos.line X.env=pure false:=by rfl)(n:X.fn x=true\/X.env.scope.names.lookup x=some .local:=by first|exact .inl rfl|exact .inr rfl|assumption) :
  PS X (.Assign [.Name x a] e pos) (AI c (uS i)):=by
 intro b s w H D I h
 refine wpAny_Assign_Name (aR (m b s w H _ I h) fun v z ⟨y,d,g,u,r⟩=>?_) p
 exact Ax g l o q u (fun A j=>⟨_,d,j,r⟩) n
end
section
variable {X:Cx}{pos:Vc}
noncomputable def Ha (c:TT)(h:TS):TS:=fun D σ H=>∃ W:Nat->St->Hp->Prop,(∃ m,W m σ H)/\∀ m σ H,W m σ H->
 c σ H fun b e=>if b=true then ∃ N:St->Hp->Prop,(∀ a d,N a d->∃ g,g<m/\W g a d)/\h { D with nx:=N,ct:=N,bk:=D.nx } σ e else D.nx σ e
theorem Hb {c:Expr}{body:List Stmt}{E:TT}{B:TS}(A:ZV (TK X.prog X.w) X.A X.env X.xe)(hc:PT X c E)(K:PSs X body B):PS X (.While c body [] pos) (Ha E B):=by
 intro e s U H D I h
 obtain ⟨W,⟨L,R⟩,turn⟩:=h
 refine wpAny_While (codeAny_whileLoop (fun n M=>∃ i u,Inv X e i u M/\W n i u) ?_ L ⟨U,H,I,R⟩)
 rintro n O ⟨d,w,G,T⟩
 refine Wn A (aR (hc e O d w _ G (turn n d w T)) fun b Q ⟨x,y,j⟩=>?_)
 cases b with
 | true=>
  obtain ⟨N,z,j⟩:=j
  rw [if_pos rfl]
  refine Wn A (aR (K e Q d x _ y j) fun f Y l=>?_)
  cases f with
  | next=>
   obtain ⟨a,g,m,q⟩:=l
   obtain ⟨p,o,r⟩:=z a g q
   exact ⟨p,o,a,g,m,r⟩
  | cont=>
   obtain ⟨a,g,m,q⟩:=l
   obtain ⟨p,o,r⟩:=z a g q
   exact ⟨p,o,a,g,m,r⟩
  | brk=>exact l
  | ret v=>exact l
 | false=>
  rw [if_neg Uc]
  exact YH ⟨d,x,y,j⟩
end
structure It where
 go:Nat->Hp->Prop
 yld:Nat->Hp->V->Hp->Prop
 stop:Nat->Hp->Prop
noncomputable def gJ (X:Cx)(a3L:List (Addr×VC))(H:Hp)(b:Addr):Prop:=
 H b=none/\b≠X.env.locals/\b∉X.fs/\(b∈X.ex\/X.s₀.heap.objs.size<=b)/\(∀ x c,X.env.cells.lookup x=some c->c≠b)/\∀ p∈X.pn++a3L,p.1≠b
theorem Inv.fpOk {X:Cx}{a3L:List (Addr×VC)}{σ:St}{H d:Hp}{s:S5}{b:Addr}(I:Inv X a3L σ H s)(a:s.heap.objs.size<=b)(g:d b=none):gJ X a3L d b:=by
 refine ⟨g,Vi (T1 I.lt a),I.nofs a,.inr (T8 I.sz a),fun x c e z=>?_,fun p h z=>?_⟩
 ·obtain ⟨v,q⟩:=I.cell x c e
  exact absurd (T1 q.lt (by rw [z];exact a)) (Vn _)
 ·exact absurd (T1 (Tp (I.pin p h).1) (by rw [z];exact a)) (Vn _)
structure Turn (P:TC)(w:T7)(K:S1)(tg:Expr)(J:It)(fp:List Addr)(it:Addr)(tn:Nat->UA->Prop):Prop where
 mem:it∈fp
 obj:∀ i h,tn i h->∀ b∈fp,∃ o,h.get? b=some o/\∀ v,o.data≠.cell v
 keep:∀ i h h',tn i h->(∀ b∈fp,∀ o,h.get? b=some o->h'.get? b=some o)->tn i h'
 item:∀ (X:Cx),X.prog=P->X.w=w->X.K=K->X.calm=true->∀ (i:Nat)(a3L:List (Addr×VC))(s:S5)(σ:St)(H:Hp)(E:S4->S5->Prop),Inv X a3L σ H s->(∀ b∈fp,gJ X a3L H b)->tn i s.heap->J.go i H->
  TH (TK P w) X.A (Yo (.ref it)) (fun r s1=>∃ u,r=some u /\
   TH (TK P w) X.A (YI tg (.ref it) u) (fun _ s2=>∃ x H',Inv X a3L σ H' s2/\RelV x u/\J.yld i H x H'/\tn (i+1) s2.heap/\∀ b∈fp,H' b=none) E s1) E s
 done:∀ (X:Cx),X.prog=P->X.w=w->X.K=K->X.calm=true->∀ (i:Nat)(a3L:List (Addr×VC))(s:S5)(σ:St)(H:Hp)(E:S4->S5->Prop),Inv X a3L σ H s->(∀ b∈fp,gJ X a3L H b)->tn i s.heap->J.stop i H->
  TH (TK P w) X.A (Yo (.ref it)) (fun r s1=>r=none/\Inv X a3L σ H s1) E s
 self:∀ (A:TR)(i:Nat)(s:S5)(Q:S4->S5->Prop)(E:S4->S5->Prop),tn i s.heap->Q (.ref it) s->TH (TK P w) A (ZQ (.ref it)) Q E s
noncomputable abbrev TI:=St->Hp->(It->Hp->Prop)->Prop
noncomputable def rA (X:Cx)(a3L:List (Addr×VC))(σ:St)(tg:Expr)(R:It->Hp->Prop)(c:S4)(g:S5):Prop:=
 ∃ (e:Addr)(d:List Addr)(h:Nat->UA->Prop)(J:It)(a:Hp),c=.ref e/\Inv X a3L σ a g/\Turn X.prog X.w X.K tg J d e h/\h 0 g.heap/\(∀ b∈d,gJ X a3L a b)/\R J a
noncomputable def PI (X:Cx)(tg iter:Expr)(b:TI):Prop:=
 ∀ (a3L:List (Addr×VC))(s:S5)(σ:St)(H:Hp)(R:It->Hp->Prop),Inv X a3L σ H s->b σ H R->
  TH (TK X.prog X.w) X.A (eval iter X.env) (fun v a=>TH (TK X.prog X.w) X.A (ZQ v) (rA X a3L σ tg R) X.xe a) X.xe s
theorem uT {M:a1Q}{A:TR}{E:S4->S5->Prop}{s:S5}{tg:Expr}{b:Addr}{u:S4}{o:VC}{n:String}{vs:Array S4}{Q:Unit->S5->Prop}(d:s.heap.get? b=some o)(hc:o.cls=.type n)(hd:o.data=.fields vs)
  (c:["enumerate","zip","dict_itemiterator","dict_reverseitemiterator","odict_iterator","itertools.zip_longest","itertools.pairwise"].contains n=false) (a:Q () s):TH M A (YI tg (.ref b) u) Q E s:=by
 unfold YI
 cases tg<;>first
  | exact Tg a
  | (cases u<;>first
    | exact Tg a
    | (refine S3 (a0g d ?_)
       rw [hc,hd]
       show TH M A (if (["enumerate","zip","dict_itemiterator","dict_reverseitemiterator","odict_iterator","itertools.zip_longest","itertools.pairwise"].contains n&&vs[0]? == some (WO _))=true then _ else _) Q E s
       rw [if_neg (by intro h;rw [c,ZO] at h;cases h)]
       exact Tg a))
noncomputable def uU (K:S1)(a:Addr):It:=
 ⟨fun i H=>∃ b x,SqL K H a b/\b[i]? = some x,fun i H x c=>c=H/\∀ b,SqL K H a b->b[i]? = some x,fun i H=>∃ b,SqL K H a b/\b.length<=i⟩
noncomputable def uV (K:S1)(a:Addr):It:=
 ⟨fun i H=>∃ b x,SqT K H a b/\b[i]? = some x,fun i H x c=>c=H/\∀ b,SqT K H a b->b[i]? = some x,fun i H=>∃ b,SqT K H a b/\b.length<=i⟩
noncomputable def oX (lo:Int)(n:Nat):It:=⟨fun i _=>i<n,fun i H x a=>a=H/\x=.int (lo+i),fun i _=>n<=i⟩
theorem Hc {P:TC}{w:T7}{K:S1}{tg:Expr}(a j:Addr):Turn P w K tg (uU K a) [j] j (fun i h=>h.IsListIter j a i) where
 mem:=by simp
 obj:=fun i h st b g=>by
  have e:b=j:=by simpa using g
  subst e
  obtain ⟨o,e,c,d⟩:=st
  exact ⟨o,e,fun v z=>by rw [d] at z;cases z⟩
 keep:=fun i h n st k=>st.at fun o e=>k j (by simp) o e
 item:=by
  intro X N hw M hc i l s U H E I q st O
  subst N hw M
  obtain ⟨xs,x,r,Q⟩:=O
  obtain ⟨R,T,p,hz⟩:=I.list r
  obtain ⟨u,hu,ru⟩:=T.get Q
  obtain ⟨y,A,f2,B,G,L⟩:=q j (by simp)
  refine a0Y st p.isList (x:=u) (by simpa using hu) fun n m sb=>?_
  have Y:Inv X l U H { s with heap:=n }:=I.turned (t':=s.toks) (fun b o g e=>(sb.2 b g).trans e) y A B G L
  obtain ⟨o,e,c,d⟩:=id m
  exact ⟨u,rfl,uT (s:={ s with heap:=n }) e c d (by decide) ⟨x,H,Y,ru,⟨rfl,fun ys hy=>by rw [I.list_inj hy r];exact Q⟩,m,fun b g=>(q b g).1⟩⟩
 done:=by
  intro X N hw M hc i l s U H E I q st O
  subst N hw M
  obtain ⟨xs,r,Q⟩:=O
  obtain ⟨R,T,p,hz⟩:=I.list r
  obtain ⟨y,A,f2,B,G,L⟩:=q j (by simp)
  have hl:=T.length
  exact a1w (I.ok.hd hc) st p.isList (by simp;omega) fun n Z=>⟨rfl,I.turned (t':=s.toks) (fun b o g e=>Z b o g e) y A B G L⟩
 self:=fun _ _ _ _ _ st h=>wpAny_pyIter_listiter st h
theorem He {P:TC}{w:T7}{K:S1}{tg:Expr}(a j:Addr):Turn P w K tg (uV K a) [j] j (fun i h=>h.IsTupleIter j a i) where
 mem:=by simp
 obj:=fun i h st b g=>by
  have e:b=j:=by simpa using g
  subst e
  obtain ⟨o,e,c,d⟩:=st
  exact ⟨o,e,fun v z=>by rw [d] at z;cases z⟩
 keep:=fun i h q st k=>st.at fun o e=>k j (by simp) o e
 item:=by
  intro X O hw N hc i m s U H E I r st Q
  subst O hw N
  obtain ⟨xs,x,y,R⟩:=Q
  obtain ⟨l,T,p,hz⟩:=I.tuple y
  obtain ⟨u,hu,ru⟩:=T.get R
  obtain ⟨A,B,f2,G,L,M⟩:=r j (by simp)
  refine a0N st (show s.heap.IsTuple a l.toArray from p) (x:=u) (by simpa using hu) fun q n sb=>?_
  have Y:Inv X m U H { s with heap:=q }:=I.turned (t':=s.toks) (fun b o g e=>(sb.2 b g).trans e) A B G L M
  obtain ⟨o,e,c,d⟩:=id n
  exact ⟨u,rfl,uT (s:={ s with heap:=q }) e c d (by decide) ⟨x,H,Y,ru,⟨rfl,fun ys hy=>by rw [I.tuple_inj hy y];exact R⟩,n,fun b g=>(r b g).1⟩⟩
 done:=by
  intro X O hw N hc i m s U H E I r st Q
  subst O hw N
  obtain ⟨xs,y,R⟩:=Q
  obtain ⟨l,T,p,hz⟩:=I.tuple y
  obtain ⟨A,B,f2,G,L,M⟩:=r j (by simp)
  have hl:=T.length
  exact a0X (I.ok.hd hc) st (show s.heap.IsTuple a l.toArray from p) (by simp;omega) fun q Z=>⟨rfl,I.turned (t':=s.toks) (fun b o g e=>Z b o g e) A B G L M⟩
 self:=fun _ _ _ _ _ st h=>wpAny_pyIter_tupleiter st h
theorem Hf {P:TC}{w:T7}{K:S1}{tg:Expr}(a:Addr)(lo:Int)(n:Nat):Turn P w K tg (oX lo n) [a] a (fun i h=>IsRangeIter h a (lo+(i:Nat) * 1) ((n:Int) - (i:Nat)) 1) where
 mem:=by simp
 obj:=fun i h st b c=>by
  have e:b=a:=by simpa using c
  subst e
  exact ⟨_,st,fun v z=>by
   have R:a2O _=Data.cell v:=z
   cases R⟩
 keep:=fun i h j st k=>k a (by simp) _ st
 item:=by
  intro X y hw x hc i d s G H E I l st A
  subst y hw x
  obtain ⟨m,p,N,q,r,u⟩:=l a (by simp)
  have W:=Walks.range (prog:=X.prog) (w:=X.w) (I.ok.hd hc) a lo 1 n
  refine W.item i s _ _ A st fun v j B O g Q=>?_
  obtain ⟨t,rfl⟩:=O
  have L:Inv X d G H { s with heap:=j,toks:=B }:=I.turned (fun b o c e=>Q b o (by simpa using c) e) m p q r u
  refine ⟨_,rfl,uT (s:={ s with heap:=j,toks:=B }) (n:="range_iterator") g rfl rfl (by decide) ⟨.int (lo+i),H,L,⟨t,?_⟩,⟨rfl,rfl⟩,g,fun b c=>(l b c).1⟩⟩
  rw [Int.mul_one]
 done:=by
  intro X y hw x hc i d s G H E I l st A
  subst y hw x
  obtain ⟨m,p,N,q,r,u⟩:=l a (by simp)
  exact wpAny_pyNext_range_end (I.ok.hd hc) st (by have:n<=i:=A;omega) fun j M=>⟨rfl,I.turned (t':=s.toks) (fun b o c e=>M b o c e) m p q r u⟩
 self:=fun _ _ _ _ _ st h=>wpAny_pyIter_rangeiter st h
end L2
namespace L2
open PySem PySem.Spec PyProof.Rows
section
variable {X:Cx}{tg:Expr}
theorem AJ {a3L:List (Addr×VC)}{σ:St}{H:Hp}{s:S5}{R:It->Hp->Prop}{E:S4->S5->Prop}{lo a:Int}{t u v:a1f}{tk:Nat}(I:Inv X a3L σ H s)(h1:-(2 ^ 62)<=lo)(h:lo<2 ^ 62)(i:-(2 ^ 62)<=a)(j:a<2 ^ 62)
  (q:R (oX lo (a - lo).toNat) H):TH (TK X.prog X.w) X.A (ZQ (.ref s.heap.objs.size)) (rA X a3L σ tg R) E { s with heap:=s.heap.push { cls:=.type "range",data:=.fields #[.int lo t,.int a u,.int 1 v] },toks:=tk }:=by
 refine wpAny_pyIter_range (IsRange.new ..) (small_one h1 h i j) ?_
 have c:Inv X a3L σ H { s with heap:=s.heap.push { cls:=.type "range",data:=.fields #[.int lo t,.int a u,.int 1 v] },toks:=tk }:=I.kept fun b o e=>S9 _ e
 refine ⟨(s.heap.push { cls:=.type "range",data:=.fields #[.int lo t,.int a u,.int 1 v] }).objs.size,[(s.heap.push { cls:=.type "range",data:=.fields #[.int lo t,.int a u,.int 1 v] }).objs.size],_,_,H,rfl,
  c.kept (t':=tk) fun b o e=>S9 _ e,Hf _ lo (a - lo).toNat,?_,fun b l=>?_,q⟩
 ·have d:lo+((0:Nat):Int) * 1=lo:=by simp
  have g:(((a - lo).toNat:Nat):Int) - ((0:Nat):Int)=a2R lo a 1:=by rw [rangeSize_one];split<;>omega
  show IsRangeIter _ _ (lo+((0:Nat):Int) * 1) ((((a - lo).toNat:Nat):Int) - ((0:Nat):Int)) 1
  rw [d,g]
  exact Tz _ rfl
 ·have e:b=(s.heap.push { cls:=.type "range",data:=.fields #[.int lo t,.int a u,.int 1 v] }).objs.size:=by simpa using l
  subst e
  exact c.fpOk (Th _) (c.hok.fresh (Th _))
noncomputable def Hg (b:TA):TI:=fun σ H R=>b σ H fun vs a=>∃ j:Int,vs=[.int j]/\-(2 ^ 62)<=j/\j<2 ^ 62/\R (oX 0 j.toNat) a
noncomputable def Hh (b:TA):TI:=fun σ H R=>b σ H fun vs a=>∃ i j:Int,vs=[.int i,.int j]/\(-(2 ^ 62)<=i/\i<2 ^ 62/\-(2 ^ 62)<=j/\j<2 ^ 62)/\R (oX i (j - i).toNat) a
theorem Hi {a:Expr}{d:TA}{p pos:Vc}(l:Gl X "range") (m:X.mg "range" = none) (i:PA X [a] d)(n:Uh [a] X.env=[(false,eval a X.env)]:=by rfl):PI X tg (.Call (.Name "range" p) [a] [] pos) (Hg d):=by
 intro b s w H R I h
 refine Call_ (jA I l m boot_range (Vu (aR (i pos b s w H _ I h) fun z y ⟨A,x,g,u,c⟩=>?_) n rfl))
 obtain ⟨j,e,c,o,q⟩:=c
 subst e
 cases u with
 | cons r v=>
  cases v
  obtain ⟨t,rfl⟩:=r
  exact call_range_1 (AJ g (by omega) (by omega) c o (by simpa using q))
theorem Hj {a b:Expr}{m:TA}{p pos:Vc}(u:Gl X "range") (v:X.mg "range" = none) (o:PA X [a,b] m)(w:Uh [a,b] X.env=[(false,eval a X.env),(false,eval b X.env)]:=by rfl)(c:Uh [b] X.env=[(false,eval b X.env)]:=by rfl) :
  PI X tg (.Call (.Name "range" p) [a,b] [] pos) (Hh m):=by
 intro d s E H R I h
 refine Call_ (jA I u v boot_range (Vu (aR (o pos d s E H _ I h) fun M K ⟨N,G,n,B,g⟩=>?_) (by rw [w,c]) (by rw [c];rfl)))
 obtain ⟨i,j,e,⟨g,x,y,z⟩,q⟩:=g
 subst e
 cases B with
 | cons r l=>
  cases l with
  | cons A l=>
   cases l
   obtain ⟨t,rfl⟩:=r
   obtain ⟨L,rfl⟩:=A
   exact call_range_2 (AJ n g x y z q)
noncomputable def Hk (l:TI)(g:TG)(j:TS):TS:=fun D σ H=>l σ H fun J e=>∃ W:Nat->Nat->St->Hp->Prop,(∃ m,W 0 m σ e)/\∀ i m σ H,W i m σ H->
 (J.stop i H/\D.nx σ H)\/(J.go i H/\∃ N:St->Hp->Prop,(∀ b a,N b a->∃ d,d<m/\W (i+1) d b a)/\∀ x a,J.yld i H x a->g x σ a fun c h=>j { D with nx:=N,ct:=N,bk:=D.nx } c h)
noncomputable def oY (a:List Addr)(h:UA):List (Addr×VC):=a.filterMap fun b=>(h.get? b).map fun o=>(b,o)
theorem rB {a:List Addr}{h:UA}{b:Addr}{o:VC}(c:b∈a)(e:h.get? b=some o):(b,o)∈oY a h:=YR.mpr ⟨b,c,by rw [e];rfl⟩
theorem Hl {a:List Addr}{h:UA}{p:Addr×VC}(g:p∈oY a h):p.1∈a/\h.get? p.1=some p.2:=by
 obtain ⟨b,d,e⟩:=YR.mp g
 cases q:h.get? b with
 | none=>rw [q] at e;cases e
 | some o=>
  rw [q] at e
  have c:(b,o)=p:=TZ e
  subst c
  exact ⟨d,q⟩
theorem Inv.pinned {a3L:List (Addr×VC)}{σ:St}{H:Hp}{s:S5}{a:List Addr}(I:Inv X a3L σ H s)(l:∀ b∈a,gJ X a3L H b)(m:∀ b∈a,∃ o,s.heap.get? b=some o/\∀ v,o.data≠.cell v):Inv X (a3L++oY a s.heap) σ H s:=
 I.pins_of fun p n=>(TU.mp n).elim (fun z=>I.pin p (Uu _ z)) fun z=>by
  obtain ⟨g,e⟩:=Hl z
  obtain ⟨h,i,j,_⟩:=l p.1 g
  obtain ⟨o,c,d⟩:=m p.1 g
  rw [e] at c;cases c
  exact ⟨e,h,i,j,d⟩
theorem Inv.unpinned {a3L b:List (Addr×VC)}{σ:St}{H:Hp}{s:S5}(I:Inv X (a3L++b) σ H s):Inv X a3L σ H s:=I.pins_of fun p a=>I.pin p (Uu _ (UH _ a))
theorem Hn {iter:Expr}{body:List Stmt}{wi:TI}{g:TG}{tb:TS}{pos:Vc}(L:ZV (TK X.prog X.w) X.A X.env X.xe)(hc:X.calm=true)(hi:PI X tg iter wi)(hg:PG X tg g)(q:PSs X body tb)
  (hs:∀ x,Xm iter X.env x=pure x:=by intro _;rfl):PS X (.For tg iter body [] pos) (Hk wi g tb):=by
 intro c s σ H D I h
 refine wpAny_For (aR (hi c s σ H _ I h) fun v s1 h1=>aR h1 fun itv s2 h2=>?_) hs
 obtain ⟨it,G,tn,J,H2,e,I2,T,st2,f2,W,⟨m0,w0⟩,turn⟩:=h2
 subst e
  -- what stays true of the iterator's objects through the loop
 have w:∀ {A:Hp},(∀ b∈G,A b=none)->∀ b∈G,gJ X c A b:=fun hn b q=>⟨hn b q,(f2 b q).2⟩
 refine codeAny_forLoop_any (fun n s'=>∃ i y A,Inv X c y A s'/\tn i s'.heap/\(∀ b∈G,A b=none)/\W i n y A) ?_ m0 ⟨0,σ,H2,I2,st2,fun b q=>(f2 b q).1,w0⟩
 rintro n s3 ⟨i,z,R,I3,O,K,w3⟩
 rcases turn i n z R w3 with ⟨Q,qn⟩|⟨go,N,hN,step⟩
 ·refine Wn L (aR (T.done X rfl rfl rfl hc i c s3 z R X.xe I3 (w K) O Q) fun r s4 ⟨Z,I4⟩=>?_)
  subst Z
  exact YH ⟨z,R,I4,qn⟩
 ·refine Wn L (aR (T.item X rfl rfl rfl hc i c s3 z R X.xe I3 (w K) O go) fun r s4 ⟨u,Z,h4⟩=>?_)
  subst Z
  refine Wn L (aR h4 fun _ s5 ⟨x,H5,I5,r5,y5,E,Y⟩=>?_)
  have U:=I5.pinned (w Y) (T.obj _ _ E)
  refine Wn L (aR (hg _ s5 z H5 x u _ U r5 (step x H5 y5)) fun _ s6 ⟨σ6,H6,I6,q6⟩=>?_)
  refine Wn L (aR (q _ s6 σ6 H6 _ I6 q6) fun f s7 B=>?_)
  have p:∀ {a:St}{j:Hp},Inv X (c++oY G s5.heap) a j s7->N a j->∃ m,m<n/\∃ i y A,Inv X c y A s7/\tn i s7.heap/\(∀ b∈G,A b=none)/\W i m y A:=fun {a j} l M=>by
   obtain ⟨m',hm,w7⟩:=hN a j M
   refine ⟨m',hm,i+1,a,j,l.unpinned,T.keep _ _ _ E fun b q o e=>(l.pin (b,o) (Uu _ (Uu _ (rB q e)))).1,fun b q=>?_,w7⟩
   obtain ⟨o,e,d⟩:=T.obj _ _ E b q
   exact (l.pin (b,o) (Uu _ (Uu _ (rB q e)))).2.1
  cases f with
  | next=>obtain ⟨a,j,l,M⟩:=B;exact p l M
  | cont=>obtain ⟨a,j,l,M⟩:=B;exact p l M
  | brk=>obtain ⟨a,j,l,B⟩:=B;exact ⟨a,j,l.unpinned,B⟩
  | ret v=>obtain ⟨x7,a,j,l,r7,B⟩:=B;exact ⟨x7,a,j,l.unpinned,r7,B⟩
end
end L2
namespace L2
open PySem PySem.Spec PyProof.Rows
noncomputable abbrev R2:=V->V->Hp->VK->Prop
noncomputable def OpR (X:Cx)(f:S4->S4->a1h S4)(r:R2):Prop:=
 ∀ (a3L:List (Addr×VC))(s:S5)(σ:St)(H:Hp)(x y:V)(v u:S4)(Q:VK),Inv X a3L σ H s->RelV x v->RelV y u->r x y H Q->
  TH (TK X.prog X.w) X.A (f v u) (EP X a3L σ Q) X.xe s
noncomputable def uW (X:Cx)(f:S4->a1h S4)(r:V->Hp->VK->Prop):Prop:=
 ∀ (a3L:List (Addr×VC))(s:S5)(σ:St)(H:Hp)(x:V)(v:S4)(Q:VK),Inv X a3L σ H s->RelV x v->r x H Q->
  TH (TK X.prog X.w) X.A (f v) (EP X a3L σ Q) X.xe s
noncomputable def CallR (X:Cx)(f:S4)(r:List V->Hp->VK->Prop):Prop:=
 ∀ (a3L:List (Addr×VC))(s:S5)(σ:St)(H:Hp)(xs:List V)(us:List S4)(Q:VK),Inv X a3L σ H s->Vals xs us->r xs H Q->
  TH (TK X.prog X.w) X.A (call f us) (EP X a3L σ Q) X.xe s
noncomputable def Ho (X:Cx)(r:V->Hp->(Bool->Hp->Prop)->Prop):Prop:=
 ∀ (a3L:List (Addr×VC))(s:S5)(σ:St)(H:Hp)(x:V)(v:S4)(Q:Bool->Hp->Prop),Inv X a3L σ H s->RelV x v->r x H Q->
  TH (TK X.prog X.w) X.A (truthy v) (TP X a3L σ Q) X.xe s
noncomputable def oZ (r:R2)(c d:TE):TE:=fun σ H Q=>c σ H fun x a=>d σ a fun y b=>r x y b Q
noncomputable def Hq (r:V->Hp->VK->Prop)(b:TE):TE:=fun σ H Q=>b σ H fun x a=>r x a Q
noncomputable def rI (C:Int->Int->Prop)(g:Int->Int->V):R2:=fun x y H Q=>∃ i j,x=.int i/\y=.int j/\C i j/\Q (g i j) H
noncomputable def fH (g:Int->Int->V):R2:=fun x y H Q=>∃ i j,x=.int i/\y=.int j/\Q (g i j) H
noncomputable def rU (g:Int->V):V->Hp->VK->Prop:=fun x H Q=>∃ i,x=.int i/\Q (g i) H
section
variable {X:Cx}{a b c:Expr}{ta tb tc:TE}{pos:Vc}
theorem uX (n:PE X a ta)(o:PE X b tb){a3L:List (Addr×VC)}{s:S5}{σ:St}{H:Hp}{R:V->V->Hp->Prop}(I:Inv X a3L σ H s)
  (h:ta σ H fun x j=>tb σ j fun y d=>R x y d){Q:S4->S5->Prop}{f:S4->S4->a1h S4}
  (p:∀ v u i x y d,Inv X a3L σ d i->RelV x v->RelV y u->R x y d->TH (TK X.prog X.w) X.A (f v u) Q X.xe i) :
  TH (TK X.prog X.w) X.A (eval a X.env) (fun v e=>TH (TK X.prog X.w) X.A (eval b X.env) (fun u g=>TH (TK X.prog X.w) X.A (f v u) Q X.xe g) X.xe e) X.xe s:=by
 refine aR (n a3L s σ H _ I h) fun v A ⟨x,j,l,w,q⟩=>?_
 refine aR (o a3L A σ j _ l q) fun u i ⟨y,d,m,z,r⟩=>?_
 exact p v u i x y d m w z r
theorem Hr {op:a0k}{r:R2}(l:OpR X (WT op) r)(i:PE X a ta)(j:PE X b tb):PE X (.BinOp a op b pos) (oZ r ta tb):=by
 intro d s p H Q I h
 exact wpAny_BinOp (uX i j I h fun v u o x y e g m n q=>l d o p e x y v u Q g m n q)
theorem Hs {op:UnaryOp}{r:V->Hp->VK->Prop}(l:uW X (unaryOp op) r)(j:PE X a ta):PE X (.UnaryOp op a pos) (Hq r ta):=by
 intro d s e H Q I h
 exact UnaryOp_ (aR (j d s e H _ I h) fun v o ⟨x,g,i,n,m⟩=>l d o e g x v Q i n m)
theorem uY {f:S4->S4->a1h S4}{C:Int->Int->Prop}{g:Int->Int->Int}
  (d:∀ (i j:Int)(t u:a1f)(s:S5)(Q:S4->S5->Prop)(E:S4->S5->Prop),C i j->Q (.int (g i j) s.toks) { s with toks:=s.toks+1 }->TH (TK X.prog X.w) X.A (f (.int i t) (.int j u)) Q E s) :
  OpR X f (rI C fun i j=>.int (g i j)):=by
 intro e s o H x y v u Q I l m h
 obtain ⟨i,j,rfl,rfl,hc,q⟩:=h
 obtain ⟨t,rfl⟩:=l
 obtain ⟨n,rfl⟩:=m
 exact d i j t n s _ _ hc ⟨.int (g i j),H,I.tok _,⟨_,rfl⟩,q⟩
theorem AK {f:S4->S4->a1h S4}{g:Int->Int->Int}
  (d:∀ (i j:Int)(t u:a1f)(s:S5)(Q:S4->S5->Prop)(E:S4->S5->Prop),Q (.int (g i j) s.toks) { s with toks:=s.toks+1 }->TH (TK X.prog X.w) X.A (f (.int i t) (.int j u)) Q E s) :
  OpR X f (fH fun i j=>.int (g i j)):=by
 intro e s o H x y v u Q I l m h
 obtain ⟨i,j,rfl,rfl,q⟩:=h
 obtain ⟨t,rfl⟩:=l
 obtain ⟨n,rfl⟩:=m
 exact d i j t n s _ _ ⟨.int (g i j),H,I.tok _,⟨_,rfl⟩,q⟩
theorem rC {f:S4->S4->a1h S4}{g:Int->Int->Bool}
  (d:∀ (i j:Int)(t u:a1f)(s:S5)(Q:S4->S5->Prop)(E:S4->S5->Prop),Q (.bool (g i j)) s->TH (TK X.prog X.w) X.A (f (.int i t) (.int j u)) Q E s) :
  OpR X f (fH fun i j=>.bl (g i j)):=by
 intro e s o H x y v u Q I l m h
 obtain ⟨i,j,rfl,rfl,q⟩:=h
 obtain ⟨t,rfl⟩:=l
 obtain ⟨n,rfl⟩:=m
 exact d i j t n s _ _ ⟨.bl (g i j),H,I,rfl,q⟩
noncomputable def CMul (i j:Int):Prop:=(-(2 ^ 64)<i/\i<2 ^ 64)\/(-(2 ^ 64)<j/\j<2 ^ 64)
theorem CMul.ok {i j:Int}(h:CMul i j):a1T i j:=by
 rcases h with ⟨d,e⟩|⟨d,e⟩
 ·exact .of_left (intBits_le_64 d e)
 ·exact .of_right (intBits_le_64 d e)
theorem op_add:OpR X (WT .Add) (fH fun i j=>.int (i+j)):=AK fun _ _ _ _ _ _ _ q=>add_int q
theorem Ht:OpR X (WT .Sub) (fH fun i j=>.int (i - j)):=AK fun _ _ _ _ _ _ _ q=>sub_int q
theorem Hu:OpR X (WT .Mod) (rI (fun _ j=>0<j) fun i j=>.int (i % j)):=uY fun i j _ _ _ _ _ hc q=>by
 have d:(0:Int)<j:=hc
 exact mod_int' (by omega) (by rw [Int.fmod_eq_emod_of_nonneg i (by omega)];exact q)
theorem iG {f:S4->a1h S4}{g:Int->Int}
  (d:∀ (i:Int)(t:a1f)(s:S5)(Q:S4->S5->Prop)(E:S4->S5->Prop),Q (.int (g i) s.toks) { s with toks:=s.toks+1 }->TH (TK X.prog X.w) X.A (f (.int i t)) Q E s) :
  uW X f (rU fun i=>.int (g i)):=by
 intro e s l H x v Q I j h
 obtain ⟨i,rfl,q⟩:=h
 obtain ⟨t,rfl⟩:=j
 exact d i t s _ _ ⟨.int (g i),H,I.tok _,⟨_,rfl⟩,q⟩
theorem Hv:uW X (unaryOp .USub) (rU fun i=>.int (-i)):=iG fun _ _ _ _ _ q=>neg_int q
end
section
variable {X:Cx}{a b c:Expr}{ta tb tc:TE}{pos:Vc}
theorem lD {a3L:List (Addr×VC)}{σ:St}{H:Hp}{s:S5}{Q:VK}{k k':Bool}(I:Inv X a3L σ H s)(q:Q (.bl k) H)(e:k=k'):EP X a3L σ Q (.bool k') s:=by
 subst e
 exact ⟨.bl k,H,I,rfl,q⟩
theorem uZ:OpR X (UC .Lt) (fH fun i j=>.bl (decide (i<j))):=rC fun _ _ _ _ _ _ _ q=>lt_int q
theorem u1:OpR X (UC .LtE) (fH fun i j=>.bl (decide (i<=j))):=rC fun _ _ _ _ _ _ _ q=>le_int q
theorem u3:OpR X (UC .Gt) (fH fun i j=>.bl (decide (j<i))):=rC fun _ _ _ _ _ _ _ q=>gt_int q
theorem u4:OpR X (UC .GtE) (fH fun i j=>.bl (decide (j<=i))):=rC fun _ _ _ _ _ _ _ q=>ge_int q
theorem AL:OpR X (UC .In) (fun x y H Q=>∃ i j,x=.str i/\y=.str j/\Q (.bl (!(UK j i 0 j.length 1).isEmpty)) H):=by
 intro d s m H x y v u Q I e g h
 obtain ⟨i,j,rfl,rfl,q⟩:=h
 obtain ⟨t,rfl⟩:=e
 obtain ⟨l,rfl⟩:=g
 exact in_str (lD I q rfl)
theorem AM:OpR X (UC .Is) (fun x y H Q=>y=.non/\Q (.bl (decide (x=.non))) H):=by
 intro e s i H x y v u Q I d g h
 obtain ⟨rfl,q⟩:=h
 cases g
 refine is_none_gen (lD I q ?_)
 cases x<;>first
  | (cases d;rfl)
  | (obtain ⟨t,rfl⟩:=d;rfl)
theorem AN:OpR X (UC .IsNot) (fun x y H Q=>y=.non/\Q (.bl (!decide (x=.non))) H):=by
 intro e s i H x y v u Q I d g h
 obtain ⟨rfl,q⟩:=h
 cases g
 refine isnot_none_gen (lD I q ?_)
 cases x<;>first
  | (cases d;rfl)
  | (obtain ⟨t,rfl⟩:=d;rfl)
theorem OpR.or {f:S4->S4->a1h S4}{r e:R2}(h:OpR X f r)(h':OpR X f e):OpR X f (fun x y H Q=>r x y H Q\/e x y H Q):=by
 intro d s j H x y v u Q I g i q
 rcases q with q|q
 ·exact h d s j H x y v u Q I g i q
 ·exact h' d s j H x y v u Q I g i q
theorem cZ (b:Expr){op:XF}(h:op≠.In:=by decide)(g:op≠.NotIn:=by decide):Wq op b=false:=by
 have d:(op == CmpOp.In)=false:=by cases op<;>first|rfl|exact absurd rfl h
 have e:(op == CmpOp.NotIn)=false:=by cases op<;>first|rfl|exact absurd rfl g
 cases b<;>simp [Wq,d,e]
theorem Hw {op:XF}{r:R2}(m:OpR X (UC op) r)(i:PE X a ta)(j:PE X b tb)(l:Wq op b=false):PE X (.Compare a [op] [b] pos) (oZ r ta tb):=by
 intro d s w H Q I h
 exact wpAny_Compare1 (uX i j I h fun v u p x y e g n o q=>m d p w e x y v u Q g n o q) l
noncomputable def AO (t:TE):TT:=fun σ H Q=>t σ H fun x d=>∃ k,x=.bl k/\Q k d
theorem Hx {op:XF}{r:R2}(A:OpR X (UC op) r)(p:PE X a ta)(q:PE X b tb)(w:Wq op b=false):PT X (.Compare a [op] [b] pos) (AO (oZ r ta tb)):=by
 intro d s g H Q I h
 refine wpAny_isTrue_Compare1 (aR (p d s g H _ I h) fun v N ⟨x,i,m,K,B⟩=>aR (q d N g i _ m B) fun u O ⟨y,j,n,L,E⟩=>
  aR (A d O g j x y v u _ n K L E) fun c R ⟨z,l,o,M,k,e,G⟩=>?_) w
 subst e
 cases M
 exact VJ ⟨l,o,G⟩
noncomputable def u6 (r i:R2)(ta tb tc:TE):TE:=fun σ H Q=>ta σ H fun x e=>tb σ e fun y g=>r x y g fun z d=>∃ k,z=.bl k /\
 (if k=true then tc σ d fun j h=>i y j h Q else Q (.bl false) d)
theorem Hy {op i:XF}{r p:R2}(O:OpR X (UC op) r)(l:OpR X (UC i) p)(L:PE X a ta)(M:PE X b tb)(hc:PE X c tc)
  (N:a2E [op,i] [b,c]=false:=by with_unfolding_all rfl):PE X (.Compare a [op,i] [b,c] pos) (u6 r p ta tb tc):=by
 intro g s j H Q I h
 refine Compare_chain (aR (L g s j H _ I h) fun v s1 ⟨x,w,E,Y,R⟩=>chain_link (aR (M g s1 j w _ E R) fun u s2 ⟨y,A,G,q,T⟩=>
  aR (O g s2 j A x y v u _ G Y q T) fun d s3 ⟨z,m,n,Z,k,e,o⟩=>?_)) N
 subst e
 cases Z
 refine VJ ?_
 cases k with
 | false=>exact ite_ff ⟨.bl false,m,n,rfl,o⟩
 | true=>exact ite_tt (chain_last (aR (hc g s3 j m _ n o) fun w' s4 ⟨z',B,K,r4,U⟩=>l g s4 j B y z' u w' Q K q r4 U))
theorem Hz {op i:XF}{r p:R2}(Y:OpR X (UC op) r)(l:OpR X (UC i) p)(R:PE X a ta)(T:PE X b tb)(hc:PE X c tc)
  (U:a2E [op,i] [b,c]=false:=by with_unfolding_all rfl):PT X (.Compare a [op,i] [b,c] pos) (AO (u6 r p ta tb tc)):=by
 intro g s j H Q I h
 refine isTrue_chain (aR (R g s j H _ I h) fun v s1 ⟨x,w,G,r1,q1⟩=>test_link (aR (T g s1 j w _ G q1) fun u s2 ⟨y,A,K,q,q2⟩=>
  aR (Y g s2 j A x y v u _ K r1 q q2) fun d s3 ⟨z,m,n,r3,k,e,o⟩=>?_)) U
 subst e
 cases r3
 refine VJ ?_
 cases k with
 | false=>
  obtain ⟨k',N,Z⟩:=o
  cases N
  exact ite_ff ⟨m,n,Z⟩
 | true=>
  refine ite_tt (test_last (aR (hc g s3 j m _ n o) fun w' s4 ⟨z',B,L,r4,q4⟩=>aR (l g s4 j B y z' u w' _ L q r4 q4) fun d' s5 ⟨z2,E,M,r5,k2,O,q5⟩=>?_))
  subst O
  cases r5
  exact VJ ⟨E,M,q5⟩
noncomputable def u7 (K:S1)(x:V)(H:Hp)(k:Bool):Prop:=
 match x with
 | .non=>k=false
 | .bl b=>k=b
 | .int i=>k=(i != 0)
 | .str y=>y.length<=Tj/\k=((y.length:Int) != 0)
 | .byt y=>y.size<=Tj/\k=((y.size:Int) != 0)
 | .ref p=>(∃ e,SqL K H p e/\k = !e.isEmpty)\/(∃ e,SqT K H p e/\k = !e.isEmpty)\/∃ d,H p=some (.dK d)/\k = !d.isEmpty
 | _=>False
theorem HA {κ:Type}{kvs:List (κ×V)}{vs:List (κ×S4)}(r:KV kvs vs):(!vs.isEmpty) = !kvs.isEmpty:=by
 cases r<;>rfl
theorem AQ {xs:List V}{d:List S4}(r:Vals xs d):(!d.toArray.isEmpty) = !xs.isEmpty:=by
 cases r<;>simp
theorem mV:(Tj:Nat)<2 ^ 63:=by rw [TY];decide
theorem HB:Ho X (fun x H Q=>∃ k,u7 X.K x H k/\Q k H):=by
 intro B s M H x v Q I n h
 obtain ⟨k,e,q⟩:=h
 have K:=mV
 have L:Tj=16777216:=TY
 cases x with
 | non=>
  cases n
  have d:k=false:=e
  subst d
  exact truthy_none ⟨H,I,q⟩
 | bl b=>
  cases n
  have d:k=b:=e
  subst d
  exact VJ ⟨H,I,q⟩
 | int i=>
  obtain ⟨t,rfl⟩:=n
  have d:k=(i != 0):=e
  subst d
  exact PySem.P.truthy_int ⟨H,I,q⟩
 | str y=>
  obtain ⟨t,rfl⟩:=n
  obtain ⟨G,d⟩:y.length<=Tj/\k=((y.length:Int) != 0):=e
  subst d
  exact PySem.P.truthy_str (by omega) ⟨H,I.tok _,q⟩
 | byt y=>
  obtain ⟨t,rfl⟩:=n
  obtain ⟨G,d⟩:y.size<=Tj/\k=((y.size:Int) != 0):=e
  subst d
  exact PySem.W.truthy_bytes (by omega) ⟨H,I.tok _,q⟩
 | ref p=>
  cases n
  have d:(∃ l,SqL X.K H p l/\k = !l.isEmpty)\/(∃ l,SqT X.K H p l/\k = !l.isEmpty)\/∃ g,H p=some (.dK g)/\k = !g.isEmpty:=e
  rcases d with ⟨l,o,d⟩|⟨l,o,d⟩|⟨g,o,d⟩
  ·subst d
   obtain ⟨w,r,z,A⟩:=I.list o
   have j:=r.length
   exact wpAny_truthy_list z.isList (by simp only [Ta];omega) ⟨H,I.tok _,by rw [AQ r];exact q⟩
  ·subst d
   obtain ⟨w,r,z,A⟩:=I.tuple o
   have j:=r.length
   exact truthy_tuple z (by simp only [Ta];omega) ⟨H,I.tok _,by rw [AQ r];exact q⟩
  ·subst d
   obtain ⟨A,E,u,r,m⟩:g.length<=Tj/\(p == U0)=false/\∃ u,KV g u/\s.heap.DictOf (dD X.prog X.w) p u:=I.hok p _ o
   have j:g.length=u.length:=Vb r
   exact wpAny_truthy_dict E m (by omega) ⟨H,I.tok _,by rw [HA r];exact q⟩
 | _=>exact (show False from e).elim
theorem HC (m:PE X a ta)(n:∀ d,a1c a X.env d=(do let v <- d;standAt a.pos;holding [v] (truthy v))) :
  PT X a (fun g H Q=>ta g H fun x i=>∃ k,u7 X.K x i k/\Q k i):=by
 intro e s g H Q I h
 exact isTrue_plain (aR (m e s g H _ I h) fun v q ⟨x,j,l,p,o⟩=>HB e q g j x v Q l p o) (n _)
theorem op_add_str:OpR X (WT .Add) (fun x y H Q=>∃ i j,x=.str i/\y=.str j/\i.length+j.length<=Tj/\Q (.str (i++j)) H):=by
 intro d s o H x y v u Q I g l h
 obtain ⟨i,j,rfl,rfl,e,q⟩:=h
 obtain ⟨t,rfl⟩:=g
 obtain ⟨m,rfl⟩:=l
 exact add_str (fun m n=>⟨.str (i++j),H,I.tok _,⟨_,rfl⟩,q⟩) e
theorem gK {x:V}{us:List S4}(r:Vals [x] us):∃ u,us=[u]/\RelV x u:=by
 cases r with
 | cons d e=>cases e;exact ⟨_,rfl,d⟩
theorem HD {x y:V}{us:List S4}(r:Vals [x,y] us):∃ u d,us=[u,d]/\RelV x u/\RelV y d:=by
 cases r with
 | cons e g=>
  cases g with
  | cons h i=>cases i;exact ⟨_,_,rfl,e,h⟩
end
end L2
namespace L2
open PySem PySem.Spec PyProof.Rows
structure ObjM (h:UA)(x dx C:Addr)(mA:Str->Option S4):Prop where
 obj:h.get? x=some (a0S C dx)
 ns:h.Ns1 dx mA
 ne:dx≠x
section
variable {prog:TC}{w:T7}{A:TR}{E:S4->S5->Prop}{s:S5}{K:S1}{x dx C f:Addr}{mA:Str->Option S4}{name:Str}{v:S4}
end
theorem RelO.some_of {v:V}{o:Option S4}(r:RelO (some v) o):∃ u,o=some u/\RelV v u:=by
 cases o with
 | none=>exact (show False from r).elim
 | some u=>exact ⟨u,rfl,r⟩
section
variable {P:TC}{w:T7}{H H':Hp}{h h':UA}{a C dx:Addr}{fs fs':List (Str×V)}
end
structure Cls (K:S1)(C:Addr):Prop where
 pg:a0E K C Str.empty=true
 hd:PySem.W.hasDictIn K C=true
 po:PySem.W.plainOver K C=true
 sa:XH K (.ref C) "__setattr__" = some (some (.builtin "object.__setattr__"))
theorem Cls.get {K:S1}{C:Addr}(c:Cls K C)(f:Str):a0E K C f=true:=c.pg
structure Con (K:S1)(C:Addr)(f:Str)(v:V)(u:S4):Prop where
 at_:XH K (.ref C) f=some (some u)
 rel:RelV v u
 get:a0s K u "__get__" = some none
 cp:PySem.W.copiedNames.contains f=false
structure Meth (K:S1)(C:Addr)(m:Str)(f:Addr):Prop where
 at_:XH K (.ref C) m=some (some (.ref f))
 fn:a1O K (.ref f)=true
 kp:Vl K (.ref f)=true
section
variable {X:Cx}{a3L:List (Addr×VC)}{σ:St}{H:Hp}{s:S5}{a C dx:Addr}{fs:List (Str×V)}{f:Str}{v:V}{A:TR}{E:S4->S5->Prop}
end
section
variable {X:Cx}{o e value:Expr}{f:Str}{pos pos' tpos:Vc}{ta tv:TE}
end
section
variable {X:Cx}{a3L:List (Addr×VC)}{σ:St}{H:Hp}{s:S5}{A:TR}{E:S4->S5->Prop}{Q:S4->S5->Prop}{c:S4}{b:Bool}
inductive TyOf (K:S1)(H:Hp):V->S4->Prop where
 | non:TyOf K H .non (.type "NoneType")
 | bl (x:Bool):TyOf K H (.bl x) (.type "bool")
 | int (i:Int):TyOf K H (.int i) (.type "int")
 | str (x:Str):TyOf K H (.str x) (.type "str")
 | flt (x:UInt64):TyOf K H (.flt x) (.type "float")
 | lst {a:Addr}{xs:List V}(e:H a=some (.lst xs)):TyOf K H (.ref a) (.type "list")
 | frz {a:Addr}{o:VC}{xs:List V}(e:H a=some (.frz o (.lst xs))):TyOf K H (.ref a) (.type "list")
 | tup {a:Addr}{xs:List V}(e:H a=some (.tup xs)):TyOf K H (.ref a) (.type "tuple")
 | dK {a:Addr}{kvs:List (aG×V)}(e:H a=some (.dK kvs)):TyOf K H (.ref a) (.type "dict")
 | dT {a:Addr}{kvs:List (List aG×V)}(e:H a=some (.dT kvs)):TyOf K H (.ref a) (.type "dict")
 | ins {a C dx:Addr}{fs:List (Str×V)}(e:H a=some (.ins C dx fs))(cl:Cls K C)(ha:XH K (.ref C) "__class__" = some (some (.builtin "object.__class__")))
   (hn:a0s K (.builtin "object.__class__") "__get__" = some (some (.builtin "getset_descriptor.__get__"))) (htk:PySem.W.takesIn K (.builtin "object.__class__")=some true)
   (hm:PySem.W.mroIn K C (.type "object")=some true):TyOf K H (.ref a) (.ref C)
end
end L2
namespace L2
open PySem PySem.Spec PyProof.Rows
structure Room (k:Nat)(A:TR):Prop where
 hd:A.handled=none
 dp:A.depth+3 * k+5<a3x
 un:A.units+16 * k+200<Vg
theorem Room.mono {j k:Nat}{A:TR}(r:Room k A)(h:j<=k):Room j A:=⟨r.hd,by have:=r.dp;omega,by have:=r.un;omega⟩
theorem Room.deeper {k:Nat}{A:TR}(r:Room (k+1) A)(env:YY):Room k (A.deeper env):=
 ⟨r.hd,by have:=r.dp;show A.depth+1+3 * k+5<_;omega,by have:=r.un;show A.units+3+16 * k+200<_;omega⟩
theorem Room.depth {k:Nat}{A:TR}(r:Room k A):A.depth<a3x:=by have:=r.dp;omega
theorem Room.units {k:Nat}{A:TR}(r:Room k A):A.units+64<Vg:=by have:=r.un;omega
noncomputable def AR:TA:=fun _ H Q=>Q [] H
noncomputable def HE (c:TE)(tr:TA):TA:=fun σ H Q=>c σ H fun x a=>tr σ a fun xs b=>Q (x::xs) b
section
variable {X:Cx}{e:Expr}{es:List Expr}{te:TE}{t:TA}{pos:Vc}
theorem HF:PA X [] AR:=fun _ _ _ _ H Q I h=>WX ⟨[],H,I,.nil,h⟩
theorem HG (j:PE X e te)(l:PA X es t)(m:Uh (e::es) X.env=(false,eval e X.env)::Uh es X.env:=by rfl):PA X (e::es) (HE te t):=by
 intro pos a s b H Q I h
 rw [m]
 show TH _ _ (spliced ((false,eval e X.env)::Wa pos (Uh es X.env))) _ _ s
 refine WG (aR (j a s b H _ I h) fun u r ⟨x,c,g,p,n⟩=>?_)
 exact aR (l pos a r b c _ g n) fun y w ⟨v,d,i,q,o⟩=>⟨x::v,d,i,.cons p q,o⟩
noncomputable def HH (t:TA):TE:=fun σ H Q=>t σ H fun xs a=>xs.length<=Tj/\∀ p,a p=none->Q (.ref p) (aN a p (.tup xs))
noncomputable def HI (t:TA):TE:=fun σ H Q=>t σ H fun xs a=>xs.length<=Tj/\∀ p,a p=none->Q (.ref p) (aN a p (.lst xs))
theorem HJ {x1} (h:PA X es t):PE X (.Tuple es x1 pos) (HH t):=by
 intro c s n H Q I j
 refine wpAny_Tuple_spliced (aR (h pos c s n H _ I j) fun l a ⟨m,d,g,r,z,q⟩=>⟨by rw [<- r.length];exact z,?_⟩)
 have i:d a.heap.objs.size=none:=g.hok.fresh (Th _)
 refine ⟨.ref a.heap.objs.size,aN d a.heap.objs.size (.tup m),g.laid (t':=a.toks) (fun b u e=>S9 _ e) (Th _) ?_,rfl,q _ i⟩
 exact ⟨z,l,r,⟨_,Tz _ rfl,rfl,_,rfl,rfl⟩⟩
theorem HK (h:PA X es t):PE X (.List es pos) (HI t):=by
 intro c s n H Q I j
 refine wpAny_List_spliced (aR (h pos c s n H _ I j) fun l a ⟨m,d,g,r,z,q⟩=>⟨by rw [<- r.length];exact z,?_⟩)
 have i:d a.heap.objs.size=none:=g.hok.fresh (Th _)
 refine ⟨.ref a.heap.objs.size,aN d a.heap.objs.size (.lst m),g.laid (t':=a.toks) (fun b u e=>S9 _ e) (Th _) ?_,rfl,q _ i⟩
 exact ⟨z,l,0,r,Tz _ rfl⟩
end
noncomputable abbrev Sp:=List V->Hp->VK->XK->Prop
noncomputable abbrev gM:=List YY->Hp->S5->XK->S4->S5->Prop
structure Env0 (P:TC)(w:T7)(K:S1)(mg:Str->Option S4)(base:UA)(A:TR)(outer:List YY)(s:S5)(H:Hp):Prop where
 frames:A.frames=some outer
 mod:Mod K mg base
 bs:∀ b o,base.get? b=some o->s.heap.get? b=some o/\H b=none
 bsz:base.objs.size<=s.heap.objs.size
 funs:s.heap.FunFrames base outer
 frf:∀ b∈fS outer,H b=none
 hok:HOk P w H s.heap
 bare:Y0 s.gens
noncomputable def CE (outer:List YY)(P:TC)(w:T7)(H:Hp)(s:S5)(Q:VK)(u:S4)(a:S5):Prop:=
 ∃ v b,a.os=s.os/\Y0 a.gens/\Un (fS outer) [] H b s.heap a.heap/\HOk P w b a.heap/\RelV v u/\Q v b
noncomputable def CR (CX:gM)(outer:List YY)(P:TC)(w:T7)(H:Hp)(s:S5)(Q:VK)(E:XK)(r:a1i)(a:S5):Prop:=
 match r with
 | .ok (.ret u)=>CE outer P w H s Q u a
 | .ok _=>False
 | .error e=>CX outer H s E e a
structure FnOk (P:TC)(w:T7)(K:S1)(mg:Str->Option S4)(base:UA)(CX:gM)(k:Nat)(f:Addr)(fd:VO)(ps:List Str)(sp:Sp):Prop where
 len:∀ vs H Q E,sp vs H Q E->vs.length=ps.length
 run:∀ (A:TR)(outer:List YY)(s:S5)(H:Hp)(args:Args)(us:List S4)(vs:List V)(Q:VK)(E:XK),Room k A->Env0 P w K mg base A outer s H->ZF s fd args (ps.zip us)->Vals vs us->sp vs H Q E->
  Yl (TK P w) A (.call (.ref f) args) (CR CX outer P w H s Q E) s
theorem FnOk.mono {P:TC}{w:T7}{K:S1}{mg:Str->Option S4}{base:UA}{CX:gM}{j k:Nat}{f:Addr}{b:VO}{ps:List Str}{sp:Sp}(F:FnOk P w K mg base CX j f b ps sp)(h:j<=k) :
  FnOk P w K mg base CX k f b ps sp:=⟨F.len,fun A outer s H a d e Q E c=>F.run A outer s H a d e Q E (c.mono h)⟩
section
variable {X:Cx}{a3L:List (Addr×VC)}{σ:St}{H:Hp}{s s':S5}
theorem Inv.env0 (I:Inv X a3L σ H s):Env0 X.prog X.w X.K X.mg X.base X.A X.stack s H:=
 ⟨I.ok.frames,I.ok.mod,I.bs,T8 I.ok.bsz I.sz,I.stack,I.stkFree,I.hok,I.bare⟩
theorem Inv.after {Q:VK}{u:S4}(I:Inv X a3L σ H s)(h:CE X.stack X.prog X.w H s Q u s'):EP X a3L σ Q u s':=by
 obtain ⟨v,i,l,a,un,c,r,q⟩:=h
 obtain ⟨j,g,d,t,e⟩:=s'
 obtain rfl:e=s.os:=l
 exact ⟨v,i,I.call (h':=j) (g':=g) (d':=d) (t':=t) (ch:=[]) un c a (fun b z=>absurd z (by simp)),r,q⟩
end
noncomputable def u9 (sp:Sp)(a:List V)(E:XK)(t:TA):TE:=fun σ H Q=>t σ H fun vs b=>sp (vs++a) b Q E
noncomputable def Binds (K:S1)(a:VO)(ps:List Str)(ds:List S4):Prop:=
 ∀ (s:S5)(us:List S4),K.In s.heap->(us++ds).length=ps.length->ZF s a ⟨us,[]⟩ (ps.zip (us++ds))
theorem Binds.all {K:S1}{a:VO}{ps:List Str}(h:∀ us:List S4,us.length=ps.length->a0i a ⟨us,[]⟩=pure (ps.zip us)):Binds K a ps []:=fun s us _ b=>by
 rw [Uz] at b ⊢
 exact .of_eq (h us b)
noncomputable def rD (CX:gM)(X:Cx)(E:XK):Prop:=∀ (a3L:List (Addr×VC))(σ:St)(H:Hp)(s:S5)(e:S4)(a:S5),Inv X a3L σ H s->CX X.stack H s E e a->X.xe e a
section
variable {X:Cx}{CX:gM}{k:Nat}{f C:Addr}{fd:VO}{ps:List Str}{sp:Sp}{dvs:List V}{ds:List S4}{E:XK}{x m:Str}{p pos apos:Vc}{e o:Expr}{es:List Expr}{ta:TE}{t:TA}
theorem AS {a3L:List (Addr×VC)}{σ:St}{H:Hp}{s:S5}{Q:VK}{us:List S4}{vs:List V}(F:FnOk X.prog X.w X.K X.mg X.base CX k f fd ps sp)(i:Room k X.A)(d:Binds X.K fd ps ds)(hd:Vals dvs ds)(j:rD CX X E)
  (I:Inv X a3L σ H s)(r:Vals vs us)(h:sp (vs++dvs) H Q E):TH (TK X.prog X.w) X.A (call (.ref f) us) (EP X a3L σ Q) X.xe s:=by
 have b:Vals (vs++dvs) (us++ds):=r.append hd
 have g:(us++ds).length=ps.length:=by rw [<- b.length];exact F.len _ _ _ _ h
 refine wpAny_call (Zu (F.run X.A X.stack s H ⟨us,[]⟩ (us++ds) (vs++dvs) Q E i I.env0 (d s us I.kIn g) b h) fun r l a=>?_)
 cases r with
 | error e=>exact j a3L σ H s e l I a
 | ok c=>
  cases c with
  | ret u=>exact I.after a
  | next=>exact VB a
  | brk=>exact VB a
  | cont=>exact VB a
theorem HL (F:FnOk X.prog X.w X.K X.mg X.base CX k f fd ps sp)(v:Room k X.A)(l:Gl X x)(u:X.mg x=some (.ref f))(n:Vl X.K (.ref f)=true)(i:Binds X.K fd ps ds)(hd:Vals dvs ds)(w:rD CX X E)
  (g:PA X (e::es) t)(b:(x == ("__debug__":Str))=false:=by decide) (j:Uh (e::es) X.env=(false,eval e X.env)::Uh es X.env:=by rfl)(c:(Wa pos (Uh es X.env)).any (·.1)=false:=by rfl) :
  PE X (.Call (.Name x p) (e::es) [] pos) (u9 sp dvs E t):=by
 intro a s y H Q I h
 refine Vy (uR I l u ?_ b)
 refine PySem.W.callWith_K (h₀:=X.base) I.ok.mod.kin n (aR (g pos a s y H _ I h) fun B A ⟨G,z,d,r,q⟩=>⟨d.kIn,?_⟩) j c
 exact AS F v i hd w d r q
theorem HM (F:FnOk X.prog X.w X.K X.mg X.base CX k f fd ps sp)(j:Room k X.A)(d:Gl X x)(i:X.mg x=some (.ref f))(g:Vl X.K (.ref f)=true)(c:Binds X.K fd ps ds)(hd:Vals dvs ds)(l:rD CX X E)
  (a:(x == ("__debug__":Str))=false:=by decide):PE X (.Call (.Name x p) [] [] pos) (u9 sp dvs E AR):=by
 intro b s n H Q I h
 refine Vy (uR I d i ?_ a)
 exact PySem.W.callWith_K0 I.kIn g (AS (us:=[]) F j c hd l I .nil h)
structure Mk (K:S1)(C f:Addr):Prop where
 makes:PySem.W.makesIn K C=true
 init:XH K (.ref C) "__init__" = some (some (.ref f))
 fn:a1O K (.ref f)=true
 kp:Vl K (.ref C)=true
end
section
variable {X:Cx}{CX:gM}{k:Nat}{f C:Addr}{fd:VO}{ps ks:List Str}{sp:Sp}{E:XK}{x m:Str}{p pos apos kpos:Vc}{e o:Expr}{es:List Expr}{kws:List WE}{te ta:TE}{t tk:TA}{nm:Option Str}
structure KBinds (K:S1)(fd:VO)(ps ks:List Str)(g:List S4->List S4->List S4)(gV:List V->List V->List V):Prop where
 to:∀ (s:S5)(us ws:List S4),K.In s.heap->(g us ws).length=ps.length->ZF s fd ⟨us,ks.zip ws⟩ (ps.zip (g us ws))
 rel:∀ {vs:List V}{us:List S4}{zs:List V}{ws:List S4},Vals vs us->Vals zs ws->Vals (gV vs zs) (g us ws)
variable {g:List S4->List S4->List S4}{gV:List V->List V->List V}
end
structure FnScope (N P:List Str)(sc:Wb):Prop where
 kind:sc.kind=.function
 co:sc.isCoroutine=false
 gen:sc.isGenerator=false
 nd:N.Nodup
 pre:N.take P.length=P
 par:∀ x∈P,sc.names.lookup x=some .local\/sc.names.lookup x=some .cell
 nofree:∀ y∈sc.names,y.2≠.free
theorem AU {kindOf:Str->Option V3}{x:Str}:∀ {binds:List (Str×S4)}{m:Str->Option S4},(∀ v,(x,v)∉binds)->a0Q kindOf binds m x=m x
 | [],_,_=>rfl
 | (n,v)::r,m,h=>by
  unfold a0Q
  rw [AU fun w hw=>h w (Tw _ hw)]
  split
  ·have:x≠n:=by rintro rfl;exact h v Tt
   simp [this]
  ·rfl
theorem AV {kindOf:Str->Option V3}{x:Str}:∀ {binds:List (Str×S4)}{m:Str->Option S4},(∀ v,(x,v)∉binds)->a0R kindOf binds m x=m x
 | [],_,_=>rfl
 | (n,v)::r,m,h=>by
  unfold a0R
  rw [AV fun w hw=>h w (Tw _ hw)]
  split
  ·rfl
  ·have:x≠n:=by rintro rfl;exact h v Tt
   simp [this]
theorem AW {kindOf:Str->Option V3}{x:Str}{v:S4}:∀ {P:List Str}{vs:List S4}{i:Nat}{m:Str->Option S4},P.Nodup->P[i]? = some x->vs[i]? = some v->kindOf x=some .local->
  a0Q kindOf (P.zip vs) m x=some v
 | [],_,_,_,_,h,_,_=>by simp at h
 | _::_,[],_,_,_,_,h,_=>by simp at h
 | p::P,w::vs,0,m,nd,h1,h2,hk=>by
  simp at h1 h2;subst h1;subst h2
  show a0Q kindOf ((p,w)::P.zip vs) m p=_
  unfold a0Q
  rw [AU fun v a=>(Uy.mp nd).1 (Zn a).1,if_pos hk]
  simp
 | p::P,w::vs,i+1,m,nd,h1,h2,hk=>by
  show a0Q kindOf ((p,w)::P.zip vs) m x=_
  unfold a0Q
  exact AW (i:=i) (Uy.mp nd).2 (by simpa using h1) (by simpa using h2) hk
theorem AX {kindOf:Str->Option V3}{x:Str}{v:S4}:∀ {P:List Str}{vs:List S4}{i:Nat}{m:Str->Option S4},P.Nodup->P[i]? = some x->vs[i]? = some v->kindOf x≠some .local->
  a0R kindOf (P.zip vs) m x=some v
 | [],_,_,_,_,h,_,_=>by simp at h
 | _::_,[],_,_,_,_,h,_=>by simp at h
 | p::P,w::vs,0,m,nd,h1,h2,hk=>by
  simp at h1 h2;subst h1;subst h2
  show a0R kindOf ((p,w)::P.zip vs) m p=_
  unfold a0R
  rw [AV fun v a=>(Uy.mp nd).1 (Zn a).1,if_neg hk]
  simp
 | p::P,w::vs,i+1,m,nd,h1,h2,hk=>by
  show a0R kindOf ((p,w)::P.zip vs) m x=_
  unfold a0R
  exact AX (i:=i) (Uy.mp nd).2 (by simpa using h1) (by simpa using h2) hk
noncomputable def start (N:List Str)(vs:List V):St:=vs.map some++Vv (N.length - vs.length) none
noncomputable def jB (CX:gM)(P:TC)(w:T7)(K:S1)(mg:Str->Option S4)(base:UA)(N:List Str)(a:Str)(scope:Wb)(f:Addr)(c:S4)(A:TR)(outer:List YY)(s:S5)(H:Hp)(E:XK):Cx where
 prog:=P
 w:=w
 K:=K
 mg:=mg
 base:=base
 A:=A.deeper (envOfC a scope s.heap.objs.size f c)
 N:=N
 s₀:=s
 H₀:=H
 env:=envOfC a scope s.heap.objs.size f c
 outer:=outer
 stack:=envOfC a scope s.heap.objs.size f c::outer
 ex:=[]
 calm:=true
 fn:=fun _=>true
 pn:=[]
 xe:=fun e g=>TH (TK P w) (A.deeper (envOfC a scope s.heap.objs.size f c)) (leaving (envOfC a scope s.heap.objs.size f c) e) (fun _ b=>CX outer H s E e b) (fun d b=>CX outer H s E d b) g
theorem AY {a:Wb}{n:Nat}{x:Str}(h:a.names.lookup x=some .cell):∃ c,(a2F n a.names []).lookup x=some c:=by
 have q:=ZT a.names n [] (.inl h)
 exact Option.isSome_iff_exists.mp q
theorem HN {CX:gM}{P:TC}{w:T7}{K:S1}{mg:Str->Option S4}{base:UA}{N ps:List Str}{d:Str}{scope:Wb}{f:Addr}{B:S4}{A:TR}{outer:List YY}{s O:S5}{H:Hp}{E:XK}{us:List S4}{vs:List V}
  (S:FnScope N ps scope)(hd:A.handled=none)(j:Env0 P w K mg base A outer s H)(X:vs.length=ps.length)(r:Vals vs us)
  (x:InCallC s s.heap.objs.size (a0Q (envOfC d scope s.heap.objs.size f B).kindOf (ps.zip us) fun _=>none) (a2F (s.heap.objs.size+1) scope.names []) (a0R (envOfC d scope s.heap.objs.size f B).kindOf (ps.zip us) fun _=>none) O) :
  Inv (jB CX P w K mg base N d scope f B A outer s H E) [] (start N vs) H O:=by
 have R:ps.length<=N.length:=by have:=congrArg US S.pre;rw [TX] at this;omega
 obtain ⟨G,Y,rfl,L⟩:=x.done
 have m:∀ b:Addr,b∉(jB CX P w K mg base N d scope f B A outer s H E).ex:=fun b z=>absurd (show b∈([]:List Addr) from z) (by simp)
 refine ⟨⟨j.mod,S.kind,rfl,rfl,Th _,fun y z c G g=>?_,fun y l=>?_,fun y c _ h=>?_,fun _=>hd,Around.frames_deeper j.frames,.inr ⟨rfl,rfl⟩,fun b z=>absurd z (m b),j.bs,j.bsz,fun b _ _=>m b,fun b z=>absurd z (m b),j.funs,j.frf⟩,
  rfl,j.bare,Un.kept L,⟨_,x.toInCall.ns,fun i y v G g U=>?_⟩,fun y c h=>⟨_,x.cell y c h⟩,j.hok.fresh (Th _),fun y c h=>?_,fun p n=>absurd (show p∈([]:List (Addr×VC)) from n) (by simp),j.hok.kept L,?_⟩
 ·exact name_of_addr x.apart (UL G) (UL g)
 ·have l:scope.names.lookup y=some .cell\/scope.names.lookup y=some .free:=l
  rcases l with l|l
  ·exact AY l
  ·exact absurd rfl (S.nofree _ (UL l))
 ·exact W9 (x.above y c (UL h))
 ·have I:i<vs.length:=by
   unfold start at g
   by_cases I:i<vs.length
   ·exact I
   ·rw [Tx (by simpa using I)] at g
    rw [V4] at g
    split at g<;>cases g
  have Q:vs[i]? = some v:=by
   unfold start at g
   rw [Tq (by simpa using I),TB] at g
   cases e:vs[i]? with
   | none=>rw [e] at g;cases g
   | some a=>rw [e] at g;cases g;rfl
  obtain ⟨u,M,T⟩:=r.get Q
  have n:ps[i]? = some y:=by
   rw [<- S.pre,UJ (by omega)];exact G
  have o:ps.Nodup:=by rw [<- S.pre];exact S.nd.sublist (Wh _ _)
  refine ⟨u,T,?_⟩
  rcases S.par y (Ts n) with k|k
  ·exact .inl ⟨k,AW o n M k⟩
  ·obtain ⟨c,e⟩:=AY (n:=s.heap.objs.size+1) k
   refine .inr ⟨.inl k,c,e,?_⟩
   have q:=x.cell y c e
   rw [AX o n M (by show scope.names.lookup y≠_;rw [k];decide)] at q
   exact q
 ·exact j.hok.fresh (W9 (x.above y c (UL h)))
 ·unfold start
  show _=N.length
  rw [Td,S6,VU]
  omega
theorem HP {CX:gM}{P:TC}{w:T7}{K:S1}{mg:Str->Option S4}{base:UA}{k:Nat}{f:Addr}{name a:Str}{d:Arguments}{body:List Stmt}{scope:Wb}{X kV m Y c ct oc:S4}{an od:Option Addr}
  {M:Array (Option S4)}{N ps:List Str}{sp:Sp}(lk:K.lookup f=some ⟨oc,od,.func (VW name a d body scope X kV m Y an c ct),M⟩)(B:Yq K c a=true)(S:FnScope N ps scope)
  (len:∀ vs H Q E,sp vs H Q E->vs.length=ps.length)
  (i:∀ (A:TR)(outer:List YY)(s:S5)(H:Hp)(vs:List V)(Q:VK)(E:XK),Room k (A.deeper (envOfC a scope s.heap.objs.size f c))->sp vs H Q E->
   ∃ t,PSs (jB CX P w K mg base N a scope f c A outer s H E) body t/\t { nx:=fun _ h=>Q .non h,rt:=Q } (start N vs) H) :
  FnOk P w K mg base CX (k+1) f (VW name a d body scope X kV m Y an c ct) ps sp:=by
 refine ⟨len,fun A outer s H U us vs Q E G p hb r z=>?_⟩
 have hl:=len _ _ _ _ z
 have T:K.In s.heap:=p.mod.kin.keeps fun b o e=>(p.bs b o e).1
 have L:s.heap.NoLimit:=p.mod.nolimit.keeps fun b o e=>(p.bs b o e).1
 have j:∀ y∈ps.zip us,scope.names.lookup y.1=some .local\/(scope.names.lookup y.1=some .cell/\((a2F (s.heap.objs.size+1) scope.names []).lookup y.1).isSome=true):=fun ⟨n,v⟩ hy=>by
  rcases S.par n (Zn hy).1 with q|q
  ·exact .inl q
  ·exact .inr ⟨q,ZT _ _ _ (.inl q)⟩
 refine codeAny_call_function G.depth (T _ _ lk) rfl S.co S.gen rfl (PySem.W.codeRec_of T B) (hb _ _ _ _ ?_)
 refine wpAny_newFunctionEnv_cells S.kind j fun env he Z x=>?_
 subst he
 refine ⟨L.keeps x.toInCall.keep,codeAny_func ?_⟩
 obtain ⟨t,ht,hq⟩:=i A outer s H vs Q E (G.deeper _) z
 have I:Inv (jB CX P w K mg base N a scope f c A outer s H E) [] (start N vs) H Z:=HN S G.hd p hl r x
 refine Uq (ht [] Z (start N vs) H _ I hq) (fun fl R l=>?_) fun e R l=>l
 have fin:∀ {g:St}{h:Hp}{v:V}{u:S4},Inv (jB CX P w K mg base N a scope f c A outer s H E) [] g h R->RelV v u->Q v h->CE outer P w H s Q u R:=
  fun {g h v u} J O q=>⟨v,h,J.os,J.bare,J.base,J.hok,O,q⟩
 cases fl with
 | ret u=>
  obtain ⟨v,g,h,J,O,q⟩:=l
  exact fin J O q
 | next=>
  obtain ⟨g,h,J,q⟩:=l
  exact fin (v:=V.non) (u:=UT) J rfl q
 | brk=>
  obtain ⟨_,_,_,q⟩:=l
  exact VB q
 | cont=>
  obtain ⟨_,_,_,q⟩:=l
  exact VB q
end L2
namespace L2
open PySem PySem.Spec PyProof.Rows
section
variable {X:Cx}{x:Str}{p pos:Vc}{e:Expr}{es:List Expr}{t:TA}{id T:String}{r:List V->Hp->VK->Prop}
noncomputable def vA (r:List V->Hp->VK->Prop)(t:TA):TE:=fun σ H Q=>t σ H fun vs a=>r vs a Q
theorem HQ (hc:CallR X (.builtin id) r)(m:Gl X x)(n:X.mg x=none)(q:Va x=some (.builtin id))(j:PA X (e::es) t)(o:x ≠ "__name__":=by decide) (b:(x == ("__debug__":Str))=false:=by decide)
  (l:Uh (e::es) X.env=(false,eval e X.env)::Uh es X.env:=by rfl)(c:(Wa pos (Uh es X.env)).any (·.1)=false:=by rfl):PE X (.Call (.Name x p) (e::es) [] pos) (vA r t):=by
 intro a s d H Q I h
 refine Vy (jA I m n q ?_ o b)
 exact WJ (aR (j pos a s d H _ I h) fun y w ⟨z,g,i,v,u⟩=>hc a w d g z y Q i v u) l c
theorem HR (hc:CallR X (.type T) r)(m:Gl X x)(n:X.mg x=none)(q:Va x=some (.type T))(j:PA X (e::es) t)(o:x ≠ "__name__":=by decide) (b:(x == ("__debug__":Str))=false:=by decide)
  (l:Uh (e::es) X.env=(false,eval e X.env)::Uh es X.env:=by rfl)(c:(Wa pos (Uh es X.env)).any (·.1)=false:=by rfl):PE X (.Call (.Name x p) (e::es) [] pos) (vA r t):=by
 intro a s d H Q I h
 refine Vy (jA I m n q ?_ o b)
 exact Vu (aR (j pos a s d H _ I h) fun y w ⟨z,g,i,v,u⟩=>hc a w d g z y Q i v u) l c
end
end L2
namespace L2
open PySem PySem.Spec PyProof.Rows
section
variable {κ:Type} [DecidableEq κ]
noncomputable def dN (kvs:List (κ×V))(k:κ):Option V:=(kvs.find? fun a=>decide (a.1=k)).map (·.2)
noncomputable def d4 (kvs:List (κ×V))(k:κ)(v:V):List (κ×V):=
 if (kvs.any fun a=>decide (a.1=k))=true then kvs.map (fun a=>if a.1=k then (a.1,v) else a) else kvs++[(k,v)]
noncomputable def AZ (kvs:List (κ×V))(k:κ):List (κ×V):=kvs.filter fun a=>decide (a.1≠k)
theorem vB {p:κ×V}{r:List (κ×V)}{k:κ}(e:p.1=k):dN (p::r) k=some p.2:=by simp [dN,UG,e]
theorem vC {p:κ×V}{r:List (κ×V)}{k:κ}(e:¬ p.1=k):dN (p::r) k=dN r k:=by simp [dN,UG,e]
theorem A0 (k:κ):∀ kvs:List (κ×V),(kvs.any fun a=>decide (a.1=k))=(dN kvs k).isSome
 | []=>rfl
 | p::r=>by
  rw [Xu]
  by_cases e:p.1=k
  ·simp only [vB e,decide_eq_true e,Bool.true_or,a0x]
  ·rw [vC e,decide_eq_false e,a2o];exact A0 k r
theorem HS (kvs:List (κ×V))(k:κ)(v:V):(d4 kvs k v).length<=kvs.length+1:=by
 unfold d4
 split
 ·rw [S6];omega
 ·rw [Td,TF,Vh];omega
theorem RelO.isSome_eq {o:Option V}{u:Option S4}(r:RelO o u):o.isSome=u.isSome:=by
 cases o with
 | none=>cases u with
  | none=>rfl
  | some _=>exact (show False from r).elim
 | some _=>cases u with
  | none=>exact (show False from r).elim
  | some _=>rfl
theorem RelO.getD {o:Option V}{u:Option S4}{d:V}{d':S4}(r:RelO o u)(a:RelV d d'):RelV (o.getD d) (u.getD d'):=by
 cases o with
 | none=>cases u with
  | none=>exact a
  | some _=>exact (show False from r).elim
 | some _=>cases u with
  | none=>exact (show False from r).elim
  | some _=>exact r
theorem KV.val {kvs:List (κ×V)}{vs:List (κ×S4)}(r:KV kvs vs)(k:κ):RelO (dN kvs k) (Zs vs k):=by
 unfold KV at r
 induction r with
 | nil=>exact V8
 | @cons p q j c h t i=>
  obtain ⟨d,g⟩:=h
  by_cases e:p.1=k
  ·have a:q.1=k:=d.symm.trans e
   have b:Zs (q::c) k=some q.2:=by simp [Zs,UG,a]
   rw [vB e,b];exact g
  ·have a:¬ q.1=k:=fun z=>e (d.trans z)
   have b:Zs (q::c) k=Zs c k:=by simp [Zs,UG,a]
   rw [vC e,b];exact i
theorem KV.any {kvs:List (κ×V)}{vs:List (κ×S4)}(r:KV kvs vs)(k:κ):(kvs.any fun a=>decide (a.1=k))=vs.any fun a=>decide (a.1=k):=by
 unfold KV at r
 induction r with
 | nil=>rfl
 | cons h t b=>rw [Xu,Xu,b,h.1]
theorem KV.repl {kvs:List (κ×V)}{vs:List (κ×S4)}(r:KV kvs vs)(k:κ){y:V}{u:S4}(g:RelV y u) :
  KV (kvs.map fun a=>if a.1=k then (a.1,y) else a) (vs.map fun a=>if a.1=k then (a.1,u) else a):=by
 unfold KV at r ⊢
 induction r with
 | nil=>exact .nil
 | @cons p q i j h t d=>
  rw [Tr,Tr]
  refine .cons ?_ d
  obtain ⟨b,c⟩:=h
  by_cases e:p.1=k
  ·rw [if_pos e,if_pos (b.symm.trans e)];exact ⟨b,g⟩
  ·rw [if_neg e,if_neg (fun z=>e (b.trans z))];exact ⟨b,c⟩
theorem KV.put {kvs:List (κ×V)}{vs:List (κ×S4)}(r:KV kvs vs)(k:κ){y:V}{u:S4}(a:RelV y u):KV (d4 kvs k y) (stored vs k u):=by
 unfold d4 stored
 rw [r.any k]
 by_cases e:(vs.any fun b=>decide (b.1=k))=true
 ·rw [if_pos e,if_pos e];exact r.repl k a
 ·rw [if_neg e,if_neg e];exact XX r ⟨rfl,a⟩
theorem KV.drop {kvs:List (κ×V)}{vs:List (κ×S4)}(r:KV kvs vs)(k:κ):KV (AZ kvs k) (without vs k):=by
 unfold KV at r ⊢
 unfold AZ without
 induction r with
 | nil=>exact .nil
 | @cons p q j l h t d=>
  obtain ⟨c,i⟩:=h
  rw [Wv,Wv]
  by_cases e:p.1=k
  ·have a:¬ decide (p.1≠k)=true:=by simp [e]
   have b:¬ decide (q.1≠k)=true:=by simp [c.symm.trans e]
   rw [if_neg a,if_neg b];exact d
  ·have g:¬ q.1=k:=fun z=>e (c.trans z)
   have a:decide (p.1≠k)=true:=by simp [e]
   have b:decide (q.1≠k)=true:=by simp [g]
   rw [if_pos a,if_pos b];exact .cons ⟨c,i⟩ d
theorem KV.keys {kvs:List (κ×V)}{vs:List (κ×S4)}(r:KV kvs vs):kvs.map (·.1)=vs.map (·.1):=by
 unfold KV at r
 induction r with
 | nil=>rfl
 | cons h t a=>rw [Tr,Tr,a,h.1]
theorem KV.length {kvs:List (κ×V)}{vs:List (κ×S4)}(r:KV kvs vs):kvs.length=vs.length:=Vb r
end
theorem vD {P:TC}{w:T7}{k:aG}{u:S4}(r:RelV (kV k) u):(dD P w).is k u=true:=by
 cases k with
 | inl i=>obtain ⟨t,e⟩:=(show ∃ t,u=XO i t from r);subst e;exact Ge P w i t
 | inr x=>obtain ⟨t,e⟩:=(show ∃ t,u=Y1 x t from r);subst e;exact Gf P w x t
theorem A2 {P:TC}{w:T7}:∀ {ks:List aG}{us:List S4},Vals (ks.map kV) us->ItemsAre (dD P w) ks us
 | [],_,r=>by rw [Ym] at r;cases r;exact .nil
 | k::ks,_,r=>by
  rw [Tr] at r
  cases r with
  | cons h t=>exact .cons (vD h) (A2 t)
noncomputable abbrev KT (H:Hp):List (List aG×V)->List (List aG×Addr×S4)->Prop:=Vr fun p q=>p.1=q.1/\H q.2.1=some (.tup (p.1.map kV))/\RelV p.2 q.2.2
theorem KT.val {H:Hp}{kvs:List (List aG×V)}{xs:List (List aG×Addr×S4)}(r:KT H kvs xs)(k:List aG):RelO (dN kvs k) ((X2 xs k).map (·.2)):=by
 induction r with
 | nil=>exact V8
 | @cons p q j c h t i=>
  obtain ⟨d,_,g⟩:=h
  by_cases e:p.1=k
  ·have a:q.1=k:=d.symm.trans e
   have b:X2 (q::c) k=some q.2:=by simp [X2,UG,a]
   rw [vB e,b];exact g
  ·have a:¬ q.1=k:=fun z=>e (d.trans z)
   have b:X2 (q::c) k=X2 c k:=by simp [X2,UG,a]
   rw [vC e,b];exact i
theorem KT.repl {H:Hp}{kvs:List (List aG×V)}{xs:List (List aG×Addr×S4)}(r:KT H kvs xs)(k:List aG){y:V}{u:S4}(i:RelV y u) :
  KT H (kvs.map fun b=>if b.1=k then (b.1,y) else b) (xs.map (a3y k u)):=by
 induction r with
 | nil=>exact .nil
 | @cons p q j l h t g=>
  rw [Tr,Tr]
  refine .cons ?_ g
  obtain ⟨a,c,d⟩:=h
  unfold a3y
  by_cases e:p.1=k
  ·rw [if_pos e,if_pos (a.symm.trans e)];exact ⟨a,c,i⟩
  ·rw [if_neg e,if_neg (fun z=>e (a.trans z))];exact ⟨a,c,d⟩
theorem KT.put {H:Hp}{kvs:List (List aG×V)}{xs:List (List aG×Addr×S4)}(r:KT H kvs xs)(k:List aG){b:Addr}{y:V}{u:S4}(c:H b=some (.tup (k.map kV)))(a:RelV y u) :
  KT H (d4 kvs k y) (a2s xs k b u):=by
 have e:(kvs.any fun d=>decide (d.1=k))=(X2 xs k).isSome:=by
  rw [A0,(r.val k).isSome_eq,WS]
 unfold d4 a2s
 rw [e]
 by_cases q:(X2 xs k).isSome=true
 ·rw [if_pos q,if_pos q];exact r.repl k a
 ·rw [if_neg q,if_neg q];exact XX r ⟨rfl,c,a⟩
theorem KT.keeps {H a:Hp}{kvs:List (List aG×V)}{xs:List (List aG×Addr×S4)}(r:KT H kvs xs)(c:∀ b ys,H b=some (.tup ys)->a b=some (.tup ys)):KT a kvs xs:=
 Vr.mapP r fun _ _ z=>⟨z.1,c _ _ z.2.1,z.2.2⟩
section
variable {P:TC}{w:T7}{H:Hp}{h:UA}{a:Addr}
theorem A4 {u:HO}(ok:HOk P w H h)(e:Rd H a u):ObjOk P w H h a u:=e.ok ok
theorem rF {kvs:List (aG×V)}(ok:HOk P w H h)(e:Rd H a (.dK kvs)):kvs.length<=Tj/\(a == U0)=false/\∃ vs,KV kvs vs/\h.DictOf (dD P w) a vs:=
 show ObjOk P w H h a (.dK kvs) from A4 ok e
theorem HU {kvs:List (aG×V)}(ok:HOk P w H h)(e:H a=some (.dK kvs)):kvs.length<=Tj/\(a == U0)=false/\∃ vs,KV kvs vs/\h.DictOf (dD P w) a vs:=rF ok (.inl e)
theorem A5 {ks:List aG}(ok:HOk P w H h)(e:H a=some (.tup (ks.map kV))):(WD (dD P w)).is h ks a:=by
 obtain ⟨_,b,r,o,c,d,n,g,_⟩:=(show ObjOk P w H h a (.tup (ks.map kV)) from ok a _ e)
 exact ⟨o,b.toArray,n,c,d,g,by simpa using A2 r⟩
theorem A6 {kvs:List (List aG×V)}(ok:HOk P w H h)(e:Rd H a (.dT kvs)):kvs.length<=Tj/\(a == U0)=false /\
  ∃ c,KT H kvs c/\h.DictOfH (WD (dD P w)) a c:=by
 obtain ⟨z,y,c,r,o,i,g,j,n,s,u,v⟩:=(show ObjOk P w H h a (.dT kvs) from A4 ok e)
 refine ⟨z,y,c,r,o,i,g,j,n,s,u,fun x b=>?_,v⟩
 have all:∀ {l:List (List aG×V)}{m:List (List aG×Addr×S4)},KT H l m->∀ x∈m,(WD (dD P w)).is h x.1 x.2.1:=by
  intro l m q
  induction q with
  | nil=>intro x b;exact nomatch b
  | @cons p q B E d t A=>
   intro x b
   rcases T5.mp b with e|b
   ·subst e
    exact A5 ok (by rw [<- d.1];exact d.2.1)
   ·exact A x b
 exact all r x b
end
noncomputable def DGet (H:Hp)(a:Addr)(y:V)(r:Option V):Prop:=
 (∃ c k,Rd H a (.dK c)/\y=kV k/\r=dN c k)\/∃ c k b,Rd H a (.dT c)/\y=.ref b/\H b=some (.tup (k.map kV))/\r=dN c k
noncomputable def DPut (H:Hp)(a:Addr)(y v:V)(d:Hp):Prop:=
 (∃ c k,H a=some (.dK c)/\y=kV k/\c.length<Tj/\d=aN H a (.dK (d4 c k v))) \/
 ∃ c k b,H a=some (.dT c)/\y=.ref b/\H b=some (.tup (k.map kV))/\c.length<Tj/\d=aN H a (.dT (d4 c k v))
theorem DGet.k {H:Hp}{a:Addr}{kvs:List (aG×V)}{k:aG}(e:H a=some (.dK kvs)):DGet H a (kV k) (dN kvs k):=.inl ⟨kvs,k,.inl e,rfl,rfl⟩
theorem DGet.t {H:Hp}{a b:Addr}{kvs:List (List aG×V)}{k:List aG}(e:H a=some (.dT kvs))(c:H b=some (.tup (k.map kV))):DGet H a (.ref b) (dN kvs k):=.inr ⟨kvs,k,b,.inl e,rfl,c,rfl⟩
theorem DPut.k {H:Hp}{a:Addr}{kvs:List (aG×V)}{k:aG}{v:V}(e:H a=some (.dK kvs))(b:kvs.length<Tj):DPut H a (kV k) v (aN H a (.dK (d4 kvs k v))):=.inl ⟨kvs,k,e,rfl,b,rfl⟩
theorem DPut.t {H:Hp}{a b:Addr}{kvs:List (List aG×V)}{k:List aG}{v:V}(e:H a=some (.dT kvs))(c:H b=some (.tup (k.map kV)))(d:kvs.length<Tj) :
  DPut H a (.ref b) v (aN H a (.dT (d4 kvs k v))):=.inr ⟨kvs,k,b,e,rfl,c,d,rfl⟩
section
variable {X:Cx}{a3L:List (Addr×VC)}{σ:St}{H:Hp}{s:S5}{a:Addr}{y v:V}{u r:S4}{o:Option V}{A:TR}{E:S4->S5->Prop}
theorem Inv.big (I:Inv X a3L σ H s):U0<s.heap.objs.size:=by
 have h:Vf<s.heap.objs.size:=(I.mod.glob.keeps I.bk).lt
 exact W8 (by decide) h
theorem HV {Q:S4->S5->Prop}(K:A.units+1<Vg)(I:Inv X a3L σ H s)(g:DGet H a y (some v))(w:RelV y u)(h:∀ i x,Inv X a3L σ H x->RelV v i->Q i x) :
  TH (TK X.prog X.w) A (Zt (.ref a) u) Q E s:=by
 rcases g with ⟨q,k,e,m,l⟩|⟨q,k,b,e,m,B,l⟩
 ·subst m
  obtain ⟨z,hd,L,c,j⟩:=rF I.hok e
  obtain ⟨i,hw,d⟩:=RelO.some_of (v:=v) (o:=Zs L k) (by rw [l];exact c.val k)
  exact wpAny_getItem_of (vD w) j.mapOf hw (h i _ (I.tok _) d)
 ·subst m
  cases (show u=To b from w)
  obtain ⟨z,hd,M,c,j⟩:=A6 I.hok e
  obtain ⟨i,hw,d⟩:=RelO.some_of (v:=v) (o:=(X2 M k).map (·.2)) (by rw [l];exact c.val k)
  obtain ⟨p,G,n⟩:=S8.mp hw
  refine a2b (tupleKind_room_in1 K) (A5 I.hok B) j G ?_
  rw [n]
  exact h i _ (I.tok _) d
theorem vE {h':UA}{t':Nat}{c:HO}(I:Inv X a3L σ H s)(h:oU (H a))(g:W2 a s.heap h')(e:∃ q,h'.get? a=some q)(new:ObjOk X.prog X.w (aN H a c) h' a c) :
  Inv X a3L σ (aN H a c) { s with heap:=h',toks:=t' }:=
 I.write (x:=a) (e:=a) h (.inl rfl) (fun b q d z=>(g.2 b d).trans z) e new
theorem HW {P:TC}{w:T7}{c:Hp}{h':UA}{kvs:List (aG×V)}{vs:List (aG×S4)}(z:kvs.length<=Tj)(hd:(a == U0)=false)(b:KV kvs vs)(d:h'.DictOf (dD P w) a vs) :
  ObjOk P w c h' a (.dK kvs):=⟨z,hd,vs,b,d⟩
end
section
variable {X:Cx}{a3L:List (Addr×VC)}{σ:St}{H:Hp}{s:S5}{a:Addr}{kvs:List (aG×V)}{k:aG}{u:S4}{A:TR}{E:S4->S5->Prop}
theorem HX {Q:S4->S5->Prop}(I:Inv X a3L σ H s)(e:Rd H a (.dK kvs))(h:∀ t c,Inv X a3L σ H c->Q (.int kvs.length t) c):TH (TK X.prog X.w) A (call (.builtin "len") [.ref a]) Q E s:=by
 obtain ⟨z,hd,g,b,d⟩:=rF I.hok e
 refine call_len_dict hd d (by rw [<- b.length];rw [TY] at z;omega) ?_
 rw [<- b.length]
 exact h _ _ (I.tok _)
end
noncomputable def rG (i:Expr):Prop:=∀ b a,ZZ i false b a=operate [b,a] (Zt b a)
theorem A7 {prog:TC}{w:T7}{A:TR}{E:S4->S5->Prop}{s:S5}{env:YY}{b a:Expr}{pos:Vc}{T id:String}{Q:S4->S5->Prop}
  (n:a2d (.type T) "__getitem__" = pure (some (.builtin id))) (p:rG a)
  (h:TH (TK prog w) A (eval b env) (fun o e=>TH (TK prog w) A (eval a env) (fun i c=>c.TypeIs o T/\TH (TK prog w) A (Zt o i) Q E c) E e) E s) :
  TH (TK prog w) A (eval (.Subscript b a pos) env) Q E s:=by
 refine a2k (Uq h (fun o e j=>Uq j (fun i c d=>?_) fun _ _ x=>x) fun _ _ x=>x)
 obtain ⟨m,d⟩:=d
 unfold a0D
 refine S3 ?_
 rw [getitemInPython_of_ne m.not_modules]
 refine S3 (a2S m n ?_)
 have fin:TH (TK prog w) A (ZZ a false o i) (fun r g=>TH (TK prog w) A (letTemporaryGo b o r >>= fun _=>pure r) Q E g) E c:=by
  rw [p o i]
  exact wpAny_operating (Uq d (fun r g l=>S3 (wpAny_letTemporaryGo (Tg l))) fun _ _ x=>x)
 first
  | exact Tg (S3 fin)
  | exact S3 (Tg (S3 fin))
  | exact S3 fin
theorem HY {X:Cx}{a3L:List (Addr×VC)}{σ:St}{H:Hp}{s:S5}{a:Addr}{y:V}{o:Option V}(I:Inv X a3L σ H s)(g:DGet H a y o):s.TypeIs (.ref a) "dict":=by
 rcases g with ⟨d,k,e,_,_⟩|⟨d,k,b,e,_,_,_⟩
 ·obtain ⟨_,_,h,_,c⟩:=rF I.hok e
  exact c.typeIs
 ·obtain ⟨_,_,i,_,c⟩:=A6 I.hok e
  exact c.typeIs
noncomputable def HZ (d ty:TE):TE:=fun σ H Q=>d σ H fun x c=>ty σ c fun y b=>∃ a v,x=.ref a/\DGet b a y (some v)/\Q v b
section
variable {X:Cx}{o i e value:Expr}{pos pos' tpos:Vc}{td ty tv:TE}
theorem Ia (A:X.A.units+1<Vg)(w:PE X o td)(r:PE X i ty)(z:rG i):PE X (.Subscript o i pos) (HZ td ty):=by
 intro b s j H Q I h
 refine A7 Zl.lookup z (aR (w b s j H _ I h) fun u L ⟨x,l,n,G,B⟩=>aR (r b L j l _ n B) fun M N ⟨y,m,d,K,a,v,q,g,E⟩=>?_)
 subst q
 obtain rfl:u=To a:=G
 exact ⟨HY d g,HV A d g K fun R O p c=>⟨v,m,p,c,E⟩⟩
end
theorem Ib {P:TC}{w:T7}{H:Hp}(h:UA)(a:U0<h.objs.size):ObjOk P w H (h.push { cls:=.type "dict",data:=.dict #[] }) h.objs.size (.dK []):=
 ⟨Uv _,beq_eq_false_iff_ne.mpr (U6 (TJ a)),[],.nil,a3J h⟩
section
variable {X:Cx}{pos:Vc}
end
noncomputable def rH:List (TE×TE)->St->Hp->(List (V×V)->Hp->Prop)->Prop
 | [],_,H,Q=>Q [] H
 | (tk,tv)::r,σ,H,Q=>tk σ H fun x a=>tv σ a fun y b=>rH r σ b fun d c=>Q ((x,y)::d) c
noncomputable abbrev VV:List (V×V)->List (S4×S4)->Prop:=Vr fun p q=>RelV p.1 q.1/\RelV p.2 q.2
noncomputable def jC (X:Cx)(pos:Vc)(keys:List (Option Expr))(a:List Expr)(b:List (TE×TE)):Prop:=
 ∀ (a3L:List (Addr×VC))(s:S5)(σ:St)(H:Hp)(Q:List (V×V)->Hp->Prop),Inv X a3L σ H s->rH b σ H Q->
  TH (TK X.prog X.w) X.A (evalPairs (pairTrees keys a X.env pos)) (fun g e=>∃ d c,Inv X a3L σ c e/\VV d g/\Q d c) X.xe s
theorem Ic {X:Cx}{pos:Vc}:jC X pos [] [] []:=fun a3L s σ H Q I h=>a2e ⟨[],H,I,.nil,h⟩
theorem Ie {X:Cx}{pos:Vc}{k v:Expr}{ks:List (Option Expr)}{vs:List Expr}{tk tv:TE}{b:List (TE×TE)}(n:PE X k tk)(p:PE X v tv)(o:jC X pos ks vs b) :
  jC X pos (some k::ks) (v::vs) ((tk,tv)::b):=fun a s d H Q I h=>
 a1W (aR (n a s d H _ I h) fun u E ⟨x,e,j,A,r⟩=>aR (p a E d e _ j r) fun L G ⟨y,g,l,B,w⟩=>
  aR (o a G d g _ l w) fun M K ⟨q,i,m,c,z⟩=>⟨(x,y)::q,i,m,.cons ⟨A,B⟩ c,z⟩)
noncomputable def lF (kvs more:List (aG×V)):List (aG×V):=more.foldl (fun a b=>d4 a b.1 b.2) kvs
theorem KV.merge:∀ {more:List (aG×V)}{a:List (aG×S4)}{kvs:List (aG×V)}{vs:List (aG×S4)},KV more a->KV kvs vs->KV (lF kvs more) (merged vs a):=by
 intro more a kvs vs r
 unfold KV at r
 induction r generalizing kvs vs with
 | nil=>intro q;exact q
 | @cons p q d g h t b=>
  intro c
  have e:KV (d4 kvs p.1 p.2) (stored vs q.1 q.2):=by
   have:=c.put p.1 h.2
   rw [<- h.1];exact this
  exact b e
theorem A8:∀ (more kvs:List (aG×V)),(lF kvs more).length<=kvs.length+more.length
 | [],kvs=>by show kvs.length<=kvs.length+0;omega
 | p::r,kvs=>by
  have a:=A8 r (d4 kvs p.1 p.2)
  have b:=HS kvs p.1 p.2
  show (lF (d4 kvs p.1 p.2) r).length<=_
  rw [TF];omega
theorem Ba {P:TC}{w:T7}:∀ {kvs:List (aG×V)}{ws:List (S4×S4)},VV (kvs.map fun e=>(kV e.1,e.2)) ws->∃ d,Carries (dD P w) ws d/\KV kvs d
 | [],_,r=>by rw [Ym] at r;cases r;exact ⟨[],V8,.nil⟩
 | p::kvs,_,r=>by
  rw [Tr] at r
  cases r with
  | @cons a b i bs h t=>
   obtain ⟨d,c,q⟩:=Ba (P:=P) (w:=w) t
   obtain ⟨j,g⟩:=b
   exact ⟨(p.1,g)::d,⟨vD h.1,rfl,c⟩,.cons ⟨rfl,h.2⟩ q⟩
noncomputable def Ig (a:List (TE×TE)):TE:=fun σ H Q=>∀ p,H p=none->rH a σ (aN H p (.dK [])) fun ps b=>b p=some (.dK [])/\∃ kvs:List (aG×V),ps=kvs.map (fun c=>(kV c.1,c.2))/\kvs.length<=15/\Q (.ref p) (aN b p (.dK (lF [] kvs)))
theorem Ih {X:Cx}{pos:Vc}{keys:List (Option Expr)}{a:List Expr}{i:List (TE×TE)}(h:jC X pos keys a i)(d:keys.all (·.isSome)=true)(y:keys.length=a.length)(v:keys≠[])
  (l:keys.length<=15):PE X (.Dict keys a pos) (Ig i):=by
 intro j s R H Q I q
 have A:=I.hok.fresh (Th s.heap.objs.size)
 have o:=I.laid (a:=s.heap.objs.size) (o:=.dK []) (h':=s.heap.push { cls:=.type "dict",data:=.dict #[] }) (t':=s.toks) (fun _ _ q=>S9 _ q) (Th _) (Ib s.heap I.big)
 refine wpAny_Dict_walk (knd:=dD X.prog X.w) d y v l (aR (h j _ R _ _ o (q _ A)) fun ws Z ⟨Y,T,n,m,e,g,r,U,K⟩=>?_)
 subst r
 obtain ⟨N,c,M⟩:=Ba (P:=X.prog) (w:=X.w) m
 obtain ⟨z,hd,O,L,p⟩:=HU n.hok e
 cases L
 refine ⟨N,c,p,fun u b E=>⟨.ref s.heap.objs.size,_,?_,rfl,K⟩⟩
 have G:(lF [] g).length<=Tj:=by
  have w:=A8 g []
  rw [Vh] at w
  rw [TY];omega
 have x:∃ q,u.get? s.heap.objs.size=some q:=let ⟨q,_,_,B,_⟩:=b;⟨q,B⟩
 exact vE n (by rw [e];exact V8) E x (HW G hd (M.merge .nil) b)
structure M1 (X:Cx)(o:Expr)(m:Str)(apos:Vc)(e:Expr)(cpos:Vc):Prop where
 base:V6 o m X.env (eval o X.env)=eval o X.env
 few:((Wa cpos (Uh [e] X.env)).all (fun x=>!x.1)&&(a0j cpos (YT [] X.env)).all (fun x=>x.1.isSome)
  && decide (([e]:List Expr).length+([]:List WE).length+(if ([]:List WE).isEmpty then 0 else 1)<30))=true
 line:(apos.endLine == cpos.line)=true
 trees:Wa cpos (Uh [e] X.env)=[(false,eval e X.env)]
structure M2 (X:Cx)(o:Expr)(m:Str)(apos:Vc)(e f:Expr)(cpos:Vc):Prop where
 base:V6 o m X.env (eval o X.env)=eval o X.env
 few:((Wa cpos (Uh [e,f] X.env)).all (fun x=>!x.1)&&(a0j cpos (YT [] X.env)).all (fun x=>x.1.isSome)
  && decide (([e,f]:List Expr).length+([]:List WE).length+(if ([]:List WE).isEmpty then 0 else 1)<30))=true
 line:(apos.endLine == cpos.line)=true
 trees:Wa cpos (Uh [e,f] X.env)=[(false,eval e X.env),(false,eval f X.env)]
noncomputable def IsD (H:Hp)(a:Addr):Prop:=(∃ kvs,Rd H a (.dK kvs))\/∃ kvs,Rd H a (.dT kvs)
section
variable {X:Cx}{a3L:List (Addr×VC)}{σ:St}{H:Hp}{s:S5}{a:Addr}{y d:V}{u r:S4}{o:Option V}{A:TR}{E:S4->S5->Prop}
end
section
variable {X:Cx}{o e f:Expr}{apos cpos:Vc}{td ty tx:TE}
end
section
variable {X:Cx}{a3L:List (Addr×VC)}{σ:St}{H:Hp}{s:S5}{a:Addr}{kvs:List (aG×V)}{A:TR}{E:S4->S5->Prop}
end
section
variable {X:Cx}{a3L:List (Addr×VC)}{σ:St}{H:Hp}{s:S5}{a:Addr}{y:V}{u:S4}{A:TR}{E:S4->S5->Prop}
end
end L2
namespace HT
open PySem PyProof.Rows
noncomputable def lexLt:List Int->List Int->Bool
 | [],[]=>false
 | [],_::_=>true
 | _::_,[]=>false
 | x::xs,y::ys=>if x=y then lexLt xs ys else decide (x<y)
theorem lexLt_cons (x y:Int)(xs ys:List Int):lexLt (x::xs) (y::ys)=if x=y then lexLt xs ys else decide (x<y):=rfl
theorem Ii:lexLt [] []=false:=rfl
theorem Ij (y:Int)(ys:List Int):lexLt [] (y::ys)=true:=rfl
theorem Ik (x:Int)(xs:List Int):lexLt (x::xs) []=false:=rfl
theorem Il (A:TR)(s:S5)(a:Int)(t:a1f)(c:Int)(u:a1f):∃ e,Zw A s (.int a t) (.int c u) e/\(e=true↔a=c):=
 ⟨(a == c),Z2 a t c u,by simp⟩
theorem Im (A:TR)(s:S5)(a:Int)(t:a1f)(c:Int)(u:a1f)(prog:TC)(w:T7)(E:S4->S5->Prop)(Q:S4->S5->Prop)(h:Q (.bool (decide (a<c))) s) :
  TH (TK prog w) A (richCompare .Lt (.int a t) (.int c u)) Q E s:=
 (Zz h:TH (TK prog w) A (UC .Lt (.int a t) (.int c u)) Q E s)
section
open PySem.SeqAt
open PySem.AutoSeq1 (wpAny_loadPart')
open PySem.MeetsSeq PySem.MeetsSeq2 PySem.MeetsSeq3
theorem Io (l b:Addr)(items i:Array S4)(n n2:Nat)(dd O:Option Addr)(sl U:Array (Option S4))(ns L:List Int)(X:Wl items.toList ns)(Y:Wl i.toList L) :
  Meets (Builtin.«tuple.__lt__» ⟨[.ref l,.ref b],[]⟩)
   (fun _ R s=>s.heap.get? l=some { cls:=.type "tuple",dict:=dd,data:=.seq items n,slots:=sl }/\s.heap.get? b=some { cls:=.type "tuple",dict:=O,data:=.seq i n2,slots:=U } /\
    R (.ok (.ret (.bool (lexLt ns L)))) s):=
 .of_wp fun B w A R s h=>by
  obtain ⟨K,g,d,N,M⟩:=s;obtain ⟨hl,hb,h⟩:=h
  have f2:=AutoSeq1.sub_tuple_tuple
  have z1:items.size=ns.length:=by rw [<- X.length];simp
  have z2:i.size=L.length:=by rw [<- Y.length];simp
  wp_walk using a2T hl,a2T hb,wpAny_forIn_list _ (fun rest b T=>b.1=none/\T=⟨K,g,d,N,M⟩/\∃ (vs ws:List S4)(o m:List Int),rest=vs.zip ws /\
   Wl vs o/\Wl ws m/\o.length+i.size=m.length+items.size/\R (.ok (.ret (.bool (lexLt o m)))) ⟨K,g,d,N,M⟩) _
  case turn=>
   rintro ⟨y,x⟩ rest b T ⟨E,rfl,vs,ws,o,m,r,G,p,j,v⟩
   cases G with
   | nil=>rw [List.zip_nil_left] at r;cases r
   | cons a t H=>
    cases p with
    | nil=>rw [List.zip_nil_right] at r;cases r
    | cons c u I=>
     rw [a0V] at r
     injection r with hyx hrest
     injection hyx with hy hx
     subst hy hx
     rw [lexLt_cons] at v
     simp only [TF] at j
     obtain ⟨e,he,z⟩:=Il A.in1 ⟨K,g,d,N,M⟩ a t c u
     refine S3 (he B w _ _ ?_)
     cases e with
     | true=>
      rw [if_pos (z.mp rfl)] at v
      wp_walk
      exact ⟨rfl,rfl,_,_,_,_,hrest,H,I,by omega,v⟩
     | false=>
      rw [if_neg (fun q=>absurd (z.mpr q) Uc)] at v
      have Q:=Im A.in1 ⟨K,g,d,N,M⟩ a t c u B w
      wp_walk using Q
      exact ⟨_,rfl,by simpa using v⟩
  case fin=>
   rintro ⟨b1,b2⟩ T ⟨E,rfl,vs,ws,o,m,r,G,p,j,v⟩
   simp only at E
   subst E
   have Z:lexLt o m=decide (items.size<i.size):=by
    cases G with
    | nil=>
     cases p with
     | nil=>
      simp only [Vh] at j
      rw [Ii]
      exact (decide_eq_false (by omega)).symm
     | cons c u hw=>
      simp only [Vh,TF] at j
      rw [Ij]
      exact (decide_eq_true (by omega)).symm
    | cons a t Z=>
     cases p with
     | nil=>
      simp only [Vh,TF] at j
      rw [Ik]
      exact (decide_eq_false (by omega)).symm
     | cons c u hw=>
      rw [a0V] at r
      cases r
   rw [Z] at v
   wp_walk
   exact ⟨_,rfl,by simpa [a2Q] using v⟩
  case h=>
   exact ⟨rfl,rfl,items.toList,i.toList,ns,L,rfl,X,Y,by omega,h⟩
end
section
variable {prog:TC}{w:T7}{A:TR}{E:S4->S5->Prop}{s:S5}
theorem lt_tupInts {l b:Addr}{items a:Array S4}{ns g:List Int}{Q:S4->S5->Prop}(B:a2z s.heap l items)(v:a2z s.heap b a)(y:Wl items.toList ns)(z:Wl a.toList g)
  (G:A.units<Vg)(h:Q (.bool (lexLt ns g)) s):TH (TK prog w) A (UC .Lt (.ref l) (.ref b)) Q E s:=by
 obtain ⟨⟨r,u,p,I⟩,q,hc,n,hd⟩:=id B
 obtain ⟨⟨o,j,i,m⟩,e,c,H,d⟩:=id v
 simp only at hc hd c d
 subst hc hd c d
 exact richCompare_meets_room (op:=.Lt) ⟨_,q,rfl⟩ ⟨_,e,rfl⟩ PySem.F.slot_tuple_lt PySem.F.entry_tuple_lt (PySem.F.args_tuple_lt_2 _ _) (Io l b items a n H u j I m ns g y z)
  ⟨q,e,show Xd (lexLt ns g)≠Value.notImplemented/\Q (.bool (lexLt ns g)) s from ⟨(fun x=>nomatch x),h⟩⟩ G
noncomputable def sIx (n d:Nat):Option Int->Nat
 | none=>d
 | some v=>if v<0 then (v+(n:Int)).toNat else min v.toNat n
theorem sIx_none (n d:Nat):sIx n d none=d:=rfl
theorem sIx_nat (n d k:Nat):sIx n d (some (k:Int))=min k n:=by
 show (if (k:Int)<0 then ((k:Int)+(n:Int)).toNat else min (k:Int).toNat n)=min k n
 rw [if_neg (by omega),V0]
theorem o9 (n d:Nat)(hd:d<=n)(o:Option Int):sIx n d o<=n:=by
 cases o with
 | none=>exact hd
 | some v=>
  show (if v<0 then (v+(n:Int)).toNat else min v.toNat n)<=n
  by_cases a:v<0
  ·rw [if_pos a];omega
  ·rw [if_neg a];exact Nat.min_le_right _ _
end
end HT
namespace L2
open PySem PySem.Spec PyProof.Rows
noncomputable abbrev TO:=St->Hp->(Option Int->Hp->Prop)->Prop
noncomputable def PO (X:Cx)(e:Option Expr)(t:TO):Prop:=
 ∀ (a3L:List (Addr×VC))(s:S5)(σ:St)(H:Hp)(Q:Option Int->Hp->Prop),Inv X a3L σ H s->t σ H Q->
  TH (TK X.prog X.w) X.A (evalPart e X.env) (fun u b=>∃ o a,Inv X a3L σ a b/\a3I u o/\Q o a) X.xe s
noncomputable def Ip:TO:=fun _ H Q=>Q none H
noncomputable def Iq (t:TE):TO:=fun σ H Q=>t σ H fun x a=>∃ i,x=.int i/\Q (some i) a
theorem vF {ns:List Int}:∀ {us:List S4},Vals (ns.map V.int) us->Wl us ns:=by
 induction ns with
 | nil=>intro us r;rw [Ym] at r;cases r;exact .nil
 | cons n ns a=>
  intro us r
  rw [Tr] at r
  cases r with
  | cons b c=>
   obtain ⟨t,e⟩:=b
   subst e
   exact .cons n t (a c)
section
variable {X:Cx}{e:Expr}{te:TE}{lo hi:Option Expr}{tl th:TO}{pos p2:Vc}
theorem Ir:PO X none Ip:=by
 intro a s b H Q I h
 rw [evalPart_none]
 exact Tg ⟨none,H,I,.none,h⟩
theorem Iu (h:PE X e te):PO X (some e) (Iq te):=by
 intro a s j H Q I hw
 rw [evalPart_some]
 refine aR (h a s j H _ I hw) fun u l ⟨x,b,c,g,d⟩=>?_
 obtain ⟨i,rfl,q⟩:=d
 obtain ⟨t,rfl⟩:=g
 exact ⟨some i,b,c,.int i t,q⟩
noncomputable def SlR (X:Cx)(r:V->Option Int->Option Int->Hp->VK->Prop):Prop:=
 ∀ (a3L:List (Addr×VC))(s:S5)(σ:St)(H:Hp)(x:V)(v b c:S4)(lo hi:Option Int)(a:Addr)(Q:VK),Inv X a3L σ H s->RelV x v->s.heap.IsSliceOf a b c .none->a3I b lo->a3I c hi->r x lo hi H Q->
  ∃ T id,a2d (.type T) "__getitem__" = pure (some (.builtin id))/\s.TypeIs v T/\TH (TK X.prog X.w) X.A (Zt v (.ref a)) (EP X a3L σ Q) X.xe s
theorem SlR.or {r g:V->Option Int->Option Int->Hp->VK->Prop}(h:SlR X r)(h':SlR X g):SlR X (fun x lo hi H Q=>r x lo hi H Q\/g x lo hi H Q):=by
 intro a s n H x v l m lo hi j Q I i b c d q
 rcases q with q|q
 ·exact h a s n H x v l m lo hi j Q I i b c d q
 ·exact h' a s n H x v l m lo hi j Q I i b c d q
noncomputable def Iw (r:V->Option Int->Option Int->Hp->VK->Prop)(te:TE)(tl th:TO):TE:=fun σ H Q=>te σ H fun x a=>tl σ a fun l b=>th σ b fun u c=>r x l u c Q
theorem Iy {r:V->Option Int->Option Int->Hp->VK->Prop}(G:SlR X r)(A:PE X e te)(E:PO X lo tl)(L:PO X hi th):PE X (.Subscript e (.Slice lo hi none p2) pos) (Iw r te tl th):=by
 intro a s d H Q I h
 refine a2k (aR (A a s d H _ I h) fun v Z ⟨x,m,o,Y,O⟩=>?_)
 refine wpAny_Slice (aR (E a Z d m _ o O) fun g s2 ⟨l,n,p,M,R⟩=>aR (L a s2 d n _ p R) fun i c ⟨u,j,w,N,U⟩=>?_)
 rw [evalPart_none]
 refine Tg ?_
 have y:Inv X a d j { c with heap:=c.heap.push { cls:=.type "slice",data:=.fields #[g,i,.none] } }:=w.kept (t':=c.toks) fun b ob q=>S9 _ q
 obtain ⟨T,id,z,K,B⟩:=G a { c with heap:=c.heap.push { cls:=.type "slice",data:=.fields #[g,i,.none] } } d j x v g i l u c.heap.objs.size Q y Y (a2A ..) M N U
 show TH (TK X.prog X.w) X.A (a0D e (.Slice lo hi none p2) v (.ref c.heap.objs.size)) (EP X a d Q) X.xe { c with heap:=c.heap.push { cls:=.type "slice",data:=.fields #[g,i,.none] } }
 exact tail_any (ops:=[.ref c.heap.objs.size,v]) K z B (by with_unfolding_all rfl)
noncomputable def jW (xs:List V)(lo hi:Option Int):List V:=(xs.drop (HT.sIx xs.length 0 lo)).take (HT.sIx xs.length xs.length hi - HT.sIx xs.length 0 lo)
theorem Iz (xs:List V)(lo hi:Option Int):(jW xs lo hi).length<=xs.length:=by
 unfold jW
 rw [TX,Uk]
 omega
end
end L2
namespace L2
open PySem PySem.Spec PyProof.Rows
noncomputable def lG (n:Nat)(i:Int):Option Nat:=if 0<=i then (if i<n then some i.toNat else none) else if -(n:Int)<=i then some (i+n).toNat else none
noncomputable def atI {a:Type}(xs:List a)(i:Int):Option a:=(lG xs.length i).bind fun j=>xs[j]?
theorem IA {n:Nat}{i:Int}{j:Nat}(h:lG n i=some j):seqIndex? i n=some j/\j<n/\-(n:Int)<=i/\i<n:=by
 unfold lG at h
 by_cases b:0<=i
 ·rw [if_pos b] at h
  by_cases a:i<n
  ·rw [if_pos a] at h
   have e:i.toNat=j:=TZ h
   exact ⟨by rw [seqIndex_of b a,e],by omega,by omega,a⟩
  ·rw [if_neg a] at h;cases h
 ·rw [if_neg b] at h
  by_cases a:-(n:Int)<=i
  ·rw [if_pos a] at h
   have e:(i+n).toNat=j:=TZ h
   exact ⟨by rw [seqIndex_neg (by omega) a,e],by omega,a,by omega⟩
  ·rw [if_neg a] at h;cases h
theorem vG {a:Type}{xs:List a}{i:Int}{v:a}(h:atI xs i=some v):∃ j,seqIndex? i xs.length=some j/\xs[j]? = some v/\j<xs.length/\-(xs.length:Int)<=i/\i<xs.length:=by
 unfold atI at h
 cases e:lG xs.length i with
 | none=>rw [e] at h;cases h
 | some j=>
  rw [e] at h
  obtain ⟨b,c,d,g⟩:=IA e
  exact ⟨j,b,h,c,d,g⟩
noncomputable def vH (b:Expr):Prop:=∀ o i,ZZ b false o i=operate [o,i] (Zt o i)
noncomputable def IxR (X:Cx)(r:R2):Prop:=
 ∀ (b a:Expr)(a3L:List (Addr×VC))(s:S5)(σ:St)(H:Hp)(x y:V)(v u:S4)(Q:VK),Inv X a3L σ H s->RelV x v->RelV y u->r x y H Q->
  ZZ a false v u=operate [v,u] (Zt v u)->TH (TK X.prog X.w) X.A (a0D b a v u) (EP X a3L σ Q) X.xe s
noncomputable def MtR (X:Cx)(id:String)(r:V->List V->Hp->VK->Prop):Prop:=
 ∀ (a3L:List (Addr×VC))(s:S5)(σ:St)(H:Hp)(x:V)(xs:List V)(v:S4)(us:List S4)(Q:VK),Inv X a3L σ H s->RelV x v->Vals xs us->r x xs H Q->
  TH (TK X.prog X.w) X.A (call (.builtin id) (v::us)) (EP X a3L σ Q) X.xe s
section
variable {X:Cx}{a b:Expr}{ta tb:TE}{pos:Vc}
theorem IxR.or {r i:R2}(h:IxR X r)(h':IxR X i):IxR X (fun x y H Q=>r x y H Q\/i x y H Q):=by
 intro d c e s m H x y v u Q I j l q g
 rcases q with q|q
 ·exact h d c e s m H x y v u Q I j l q g
 ·exact h' d c e s m H x y v u Q I j l q g
theorem MtR.or {id:String}{r d:V->List V->Hp->VK->Prop}(h:MtR X id r)(h':MtR X id d):MtR X id (fun x xs H Q=>r x xs H Q\/d x xs H Q):=by
 intro c s j H x xs v i Q I g e q
 rcases q with q|q
 ·exact h c s j H x xs v i Q I g e q
 ·exact h' c s j H x xs v i Q I g e q
theorem IB {r:R2}(j:IxR X r)(g:PE X a ta)(i:PE X b tb)(l:vH b):PE X (.Subscript a b pos) (oZ r ta tb):=by
 intro c s p H Q I h
 exact a2k (uX g i I h fun v u o x y d e m n q=>j a b c o p d x y v u Q e m n q (l _ _))
noncomputable def Bb (K:S1):R2:=fun x y H Q=>∃ p xs i v,x=.ref p/\y=.int i/\SqL K H p xs/\atI xs i=some v/\Q v H
noncomputable def Bc (K:S1):R2:=fun x y H Q=>∃ p xs i v,x=.ref p/\y=.int i/\SqT K H p xs/\atI xs i=some v/\Q v H
noncomputable def Bd:R2:=fun x y H Q=>∃ z i c,x=.str z/\y=.int i/\z.length<=Tj/\atI z.cps.toList i=some c/\Q (.str ⟨#[c]⟩) H
theorem ix_list:IxR X (Bb X.K):=by
 intro o n c s G H x y v u Q I T U h E
 obtain ⟨p,xs,i,z,rfl,rfl,R,N,q⟩:=h
 cases T
 obtain ⟨t,rfl⟩:=U
 obtain ⟨g,r,l,hz⟩:=I.list R
 obtain ⟨j,d,K,Z,L,M⟩:=vG N
 obtain ⟨w,A,m⟩:=r.get K
 have O:=r.length
 have hn:=mV
 have fin:EP X c G Q w s:=⟨z,H,I,m,q⟩
 by_cases B:0<=i
 ·have e:i.toNat=j:=by
   rw [seqIndex_of B M] at d
   exact TZ d
  exact item_listR l.isList B (by omega) (by rw [e];simpa using A) fin E
 ·have e:(i+(g.toArray.size:Int)).toNat=j:=by
   rw [seqIndex_neg (by omega) L] at d
   rw [Ta,<- O]
   exact TZ d
  exact a1a (x:=w) l.isList.typeIs a2t.lookup
   (wpAny_getItem_list_neg (Q:=fun r Y=>r=w/\EP X c G Q r Y) l.isList (by omega) (by rw [Ta]<;>omega) (by omega) (by rw [e];simpa using A) ⟨rfl,fin⟩) E
theorem ix_tup:IxR X (Bc X.K):=by
 intro g e c s m H x y v u Q I M N h K
 obtain ⟨p,xs,i,z,rfl,rfl,G,B,q⟩:=h
 cases M
 obtain ⟨t,rfl⟩:=N
 obtain ⟨L,r,l,Z⟩:=I.tuple G
 obtain ⟨j,o,A,R,T,U⟩:=vG B
 obtain ⟨w,n,d⟩:=r.get A
 have E:=r.length
 have Y:=mV
 have fin:EP X c m Q w s:=⟨z,H,I,d,q⟩
 exact a1a (x:=w) l.typeIs slot_tuple_getitem.lookup
  (getItem_tuple (j:=j) (Q:=fun r O=>r=w/\EP X c m Q r O) l (by omega) (by omega) (by rw [Ta,<- E];exact o) (by simpa using n) ⟨rfl,fin⟩) K
theorem IC:IxR X Bd:=by
 intro e d l s O H x y v u Q I E G h B
 obtain ⟨z,i,c,rfl,rfl,M,w,q⟩:=h
 obtain ⟨t,rfl⟩:=E
 obtain ⟨N,rfl⟩:=G
 obtain ⟨j,g,o,K,p,r⟩:=vG w
 have A:z.cps.toList.length=z.length:=by simp [YV]
 rw [A] at g p r
 have L:=mV
 exact tail_any (Yd s z t) slot_str_getitem.lookup (getItem_str (c:=c) (by
  have m:decide (i < -(2 ^ 63:Int))=false:=decide_eq_false (by omega)
  have n:decide (i >= 2 ^ 63)=false:=decide_eq_false (by omega)
  rw [m,n,a2n]) (by rw [g];simpa using o) ⟨.str ⟨#[c]⟩,H,I.tok _,⟨_,rfl⟩,q⟩) B
noncomputable def Be (K:S1):R2:=fun x y H Q=>Bb K x y H Q\/Bc K x y H Q\/Bd x y H Q
theorem ID:IxR X (Be X.K):=ix_list.or (ix_tup.or IC)
theorem Inv.lst {a3L:List (Addr×VC)}{σ:St}{H:Hp}{s:S5}{p:Addr}{xs:List V}(I:Inv X a3L σ H s)(h:H p=some (.lst xs)) :
  ∃ (c:List S4)(n:Nat),Vals xs c/\s.heap.get? p=some { cls:=.type "list",data:=.seq c.toArray n }/\xs.length<=Tj:=by
 obtain ⟨z,c,n,r,e⟩:=I.hok p _ h
 exact ⟨c,n,r,e,z⟩
theorem IE (lo c:Option Int)(n:Nat):(XR lo c none n).1=((HT.sIx n 0 lo:Nat):Int)/\(XR lo c none n).2.1=((HT.sIx n n c:Nat):Int)/\(XR lo c none n).2.2=1:=by
 refine ⟨?_,?_,rfl⟩
 ·cases lo with
  | none=>simp [XR,HT.sIx]
  | some i=>
   simp only [XR,HT.sIx,a0U,show (1:Int)>0 by decide,if_true]
   by_cases h:i<0
   ·simp only [h,if_true]<;>omega
   ·simp only [h,if_false]<;>omega
 ·cases c with
  | none=>simp [XR,HT.sIx]
  | some i=>
   simp only [XR,HT.sIx,a0U,show (1:Int)>0 by decide,if_true]
   by_cases h:i<0
   ·simp only [h,if_true]<;>omega
   ·simp only [h,if_false]<;>omega
theorem IF (c:List S4)(lo d:Option Int):slicePick c.toArray lo d none=((c.drop (HT.sIx c.length 0 lo)).take (HT.sIx c.length c.length d - HT.sIx c.length 0 lo)).toArray:=by
 obtain ⟨e,g,h⟩:=IE lo d c.toArray.size
 unfold slicePick
 rw [e,g,h]
 simp only [a3w,pick_run,Ta]<;>rfl
noncomputable def vJ (K:S1):V->Option Int->Option Int->Hp->VK->Prop:=fun x lo c H Q=>∃ a xs,x=.ref a/\SqL K H a xs/\∀ p,H p=none->Q (.ref p) (aN H p (.lst (jW xs lo c)))
theorem sl_list:SlR X (vJ X.K):=by
 intro j s E H x v A B e g z Q I w l p u h
 obtain ⟨a,c,rfl,m,q⟩:=h
 cases w
 obtain ⟨o,r,i,n⟩:=I.list m
 have d:=r.length
 refine ⟨"list",_,a2t.lookup,i.isList.typeIs,?_⟩
 refine wpAny_getItem_list_slice i.isList l p u .none (by simp) ?_ (by rw [Ta]<;>omega)
 rw [IF,<- d]
 refine ⟨.ref s.heap.objs.size,_,I.laid (t':=s.toks) (o:=.lst (jW c e g)) (fun b y q=>S9 _ q) (Th _) ?_,rfl,q _ (I.hok.fresh (Th _))⟩
 exact ⟨T8 (Iz c e g) n,_,0,(r.drop (HT.sIx c.length 0 e)).take (HT.sIx c.length c.length g - HT.sIx c.length 0 e),Tz _ rfl⟩
theorem Bf:OpR X (UC .NotIn) (fun x y H Q=>∃ i j,x=.str i/\y=.str j/\Q (.bl (!(!(UK j i 0 j.length 1).isEmpty))) H):=by
 intro c s l H x y v u Q I d e h
 obtain ⟨i,j,rfl,rfl,q⟩:=h
 obtain ⟨t,rfl⟩:=d
 obtain ⟨g,rfl⟩:=e
 exact notIn_str ⟨.bl _,H,I,rfl,q⟩
theorem call_len_seq:CallR X (.builtin "len") (fun xs H Q=>∃ p ys,xs=[.ref p]/\(SqL X.K H p ys\/SqT X.K H p ys)/\Q (.int ys.length) H):=by
 intro j s v H xs o Q I r h
 obtain ⟨p,ys,rfl,d,q⟩:=h
 obtain ⟨u,rfl,m⟩:=gK r
 cases m
 have n:=mV
 rcases d with d|d
 ·obtain ⟨e,i,g,l⟩:=I.list d
  have c:=i.length
  exact Calls.call_len_list g.isList (by simp only [Ta]<;>omega) ⟨.int ys.length,H,I.tok _,⟨s.toks+1,by rw [Ta,c]⟩,q⟩
 ·obtain ⟨e,i,g,l⟩:=I.tuple d
  have c:=i.length
  exact len_tuple g (by simp only [Ta]<;>omega) ⟨.int ys.length,H,I.tok _,⟨s.toks+1,by rw [Ta,c]⟩,q⟩
theorem IG:CallR X (.builtin "len") (fun xs H Q=>∃ z,xs=[.str z]/\z.length<=Tj/\Q (.int z.length) H):=by
 intro c s i H xs g Q I r h
 obtain ⟨z,rfl,e,q⟩:=h
 obtain ⟨u,rfl,t,rfl⟩:=gK r
 have d:=mV
 exact len_str (by omega) ⟨.int z.length,H,I.tok _,⟨_,rfl⟩,q⟩
theorem CallR.or {f:S4}{r d:List V->Hp->VK->Prop}(h:CallR X f r)(h':CallR X f d):CallR X f (fun xs H Q=>r xs H Q\/d xs H Q):=by
 intro c s i H xs g Q I e q
 rcases q with q|q
 ·exact h c s i H xs g Q I e q
 ·exact h' c s i H xs g Q I e q
theorem call_list_of:CallR X (.type "list") (fun xs H Q=>∃ p ys,xs=[.ref p]/\(SqL X.K H p ys\/SqT X.K H p ys)/\∀ l,H l=none->Q (.ref l) (aN H l (.lst ys))):=by
 intro w s B H xs E Q I r h
 obtain ⟨p,ys,rfl,j,q⟩:=h
 obtain ⟨u,rfl,A⟩:=gK r
 cases A
 have fin:∀ (c:List S4),Vals ys c->ys.length<=Tj->∀ (h':UA)(d:Nat),(∀ b z,s.heap.get? b=some z->h'.get? b=some z)->
   h'.get? s.heap.objs.size=some { cls:=.type "list",dict:=none,data:=.seq c.toArray d,slots:=#[] }->EP X w B Q (.ref s.heap.objs.size) { s with heap:=h' }:=fun c g m h' d v e=>
  ⟨.ref s.heap.objs.size,_,I.laid (t':=s.toks) v (Th _) (show ObjOk X.prog X.w _ h' _ (.lst ys) from ⟨m,c,d,g,e⟩),rfl,q _ (I.hok.fresh (Th _))⟩
 rcases j with j|j
 ·obtain ⟨c,g,y,m⟩:=I.list j
  have i:=g.length
  obtain ⟨o,x,hc,n,hd⟩:=y.isList
  exact call_list_seq p (.inl rfl) x hc hd (fun h' d v e=>fin c g m h' d v e) (by simp only [Ta]<;>omega)
 ·obtain ⟨c,g,y,m⟩:=I.tuple j
  have i:=g.length
  obtain ⟨o,x,hc,n,hd⟩:=y
  exact call_list_seq p (.inr rfl) x hc hd (fun h' d v e=>fin c g m h' d v e) (by simp only [Ta]<;>omega)
theorem Bg:CallR X (.type "tuple") (fun xs H Q=>∃ p ys,xs=[.ref p]/\((SqL X.K H p ys/\∀ l,H l=none->Q (.ref l) (aN H l (.tup ys)))\/(SqT X.K H p ys/\Q (.ref p) H))):=by
 intro d s x H xs B Q I r h
 obtain ⟨p,ys,rfl,h⟩:=h
 obtain ⟨u,rfl,A⟩:=gK r
 cases A
 rcases h with ⟨i,q⟩|⟨i,q⟩
 ·obtain ⟨c,m,j,w⟩:=I.list i
  have v:=m.length
  refine call_tuple_list j.isList (fun g z=>?_) (by simp only [Ta]<;>omega)
  have n:Inv X d x H { s with heap:=g }:=I.kept (t':=s.toks) z
  have y:Inv X d x (aN H g.objs.size (.tup ys)) { s with heap:=g.push { cls:=.type "tuple",data:=.seq c.toArray } }:=
   n.laid (t':=s.toks) (fun b o e=>S9 _ e) (Th _) (show ObjOk X.prog X.w _ _ _ (.tup ys) from ⟨w,c,m,TupN.new _ _⟩)
  exact ⟨.ref g.objs.size,_,y,rfl,q _ (n.hok.fresh (Th _))⟩
 ·obtain ⟨c,m,j,w⟩:=I.tuple i
  exact call_tuple_same j ⟨.ref p,H,I,rfl,q⟩
noncomputable def rJ (K:S1)(T:String)(x:V)(H:Hp):Prop:=match x with
 | .str _=>T = "str"
 | .int _=>T = "int"
 | .ref p=>(T = "list"/\∃ d,SqL K H p d)\/(T = "tuple"/\∃ o,K.lookup p=some o/\o.cls=.type "tuple"/\o.dict=none) \/
   (T = "dict"/\((∃ c,H p=some (.dK c))\/∃ c,H p=some (.dT c)))\/(T = "set"/\∃ S n,H p=some (.set S n))
 | _=>False
theorem Bh {a3L:List (Addr×VC)}{σ:St}{H:Hp}{s:S5}{T:String}{x:V}{v:S4}(I:Inv X a3L σ H s)(r:RelV x v)(ty:rJ X.K T x H) :
  s.TypeIs v T/\∀ a,v=.ref a->∃ l,s.heap.get? a=some l/\l.dict=none:=by
 cases x with
 | str z=>
  obtain ⟨t,rfl⟩:=r
  cases (show T = "str" from ty)
  exact ⟨Yd s z t,fun _ e=>nomatch e⟩
 | int i=>
  obtain ⟨t,rfl⟩:=r
  cases (show T = "int" from ty)
  exact ⟨typeIs_int s i t,fun _ e=>nomatch e⟩
 | ref p=>
  cases r
  rcases ty with ⟨rfl,w,q⟩|⟨rfl,o,d,hc,hd⟩|⟨rfl,d⟩|⟨rfl,S,n,d⟩
  ·obtain ⟨u,_,m,_⟩:=I.list q
   refine ⟨m.isList.typeIs,fun a e=>?_⟩
   cases e
   obtain ⟨o,n,e,c,hd,_⟩:=m
   exact ⟨o,e,hd⟩
  ·refine ⟨⟨o,I.kIn p o d,hc⟩,fun a e=>?_⟩
   cases e
   exact ⟨o,I.kIn _ o d,hd⟩
  ·have z:∃ o,s.heap.get? p=some o/\o.ExactDict:=by
    rcases d with ⟨j,d⟩|⟨j,d⟩
    ·obtain ⟨_,_,_,_,o,_,_,e,g,_⟩:=I.hok p _ d
     exact ⟨o,e,g⟩
    ·obtain ⟨_,_,_,_,o,_,_,e,g,_⟩:=I.hok p _ d
     exact ⟨o,e,g⟩
   obtain ⟨o,e,g⟩:=z
   refine ⟨⟨o,e,g.1⟩,fun a h=>?_⟩
   cases h
   exact ⟨o,e,g.2.1⟩
  ·obtain ⟨o,_,_,_,e,g,_⟩:=I.hok p _ d
   refine ⟨⟨o,e,g.1⟩,fun a h=>?_⟩
   cases h
   exact ⟨o,e,g.2.1⟩
 | _=>exact VB ty
noncomputable def Bi (K:S1)(T:String)(r:V->List V->Hp->VK->Prop)(to:TE):TE:=fun σ H Q=>to σ H fun x c=>rJ K T x c/\r x [] c Q
noncomputable def vK (K:S1)(T:String)(r:V->List V->Hp->VK->Prop)(to:TE)(t:TA):TE:=fun σ H Q=>to σ H fun x c=>rJ K T x c/\t σ c fun xs d=>r x xs d Q
variable {o e:Expr}{es:List Expr}{to:TE}{t:TA}{name:Str}{apos cpos:Vc}{T id:String}{r:V->List V->Hp->VK->Prop}
theorem IH (y:PlainAttrs T)(slot:a3G T name id)(i:a0h (.builtin id)=pure (.type "method_descriptor")) (u:MtR X id r)(w:PE X o to)
  (c:V6 o name X.env (eval o X.env)=eval o X.env:=by rfl)(d:(apos.endLine == cpos.line)=true:=by rfl):PE X (.Call (.Attribute o name apos) [] [] cpos) (Bi X.K T r to):=by
 intro g s m H Q I h
 refine Xb c d (aR (w g s m H _ I h) fun v A ⟨x,n,j,l,ty,z⟩=>?_)
 obtain ⟨p,q⟩:=Bh j l ty
 exact ⟨T,id,y,slot,i,p,q,VI rfl (XD (u g A m n x [] v [] Q j l .nil z))⟩
theorem Bj (L:PlainAttrs T)(slot:a3G T name id)(l:a0h (.builtin id)=pure (.type "method_descriptor")) (E:MtR X id r)(G:PE X o to)(B:PA X (e::es) t)
  (g:V6 o name X.env (eval o X.env)=eval o X.env:=by rfl)
  (j:((Wa cpos (Uh (e::es) X.env)).all (fun x=>!x.1)&&(a0j cpos (YT [] X.env)).all (fun x=>x.1.isSome)
   && decide ((e::es).length+([]:List WE).length+(if ([]:List WE).isEmpty then 0 else 1)<30))=true:=by rfl)
  (i:(apos.endLine == cpos.line)=true:=by rfl)(K:Uh (e::es) X.env=(false,eval e X.env)::Uh es X.env:=by rfl)(c:(Wa cpos (Uh es X.env)).any (·.1)=false:=by rfl) :
  PE X (.Call (.Attribute o name apos) (e::es) [] cpos) (vK X.K T r to t):=by
 intro d s m H Q I h
 refine a0Z g j i rfl (aR (G d s m H _ I h) fun v R ⟨x,u,n,q,ty,M⟩=>?_)
 obtain ⟨z,A⟩:=Bh n q ty
 refine ⟨T,id,L,slot,l,z,A,?_⟩
 have p:=B cpos d R m u _ n M
 rw [K] at p ⊢
 refine VI (by show (false||(Wa cpos (Uh es X.env)).any (·.1))=false;rw [c]<;>rfl) (a0p ?_)
 exact aR p fun Y U ⟨Z,w,y,O,N⟩=>E d U m w x Z v Y Q y q O N
end
end L2
namespace L2
open PySem PySem.Spec PyProof.Rows
noncomputable def fT (X:Cx)(id:String)(r:V->List V->Hp->VK->Prop):Prop:=
 ∀ (a3L:List (Addr×VC))(s:S5)(σ:St)(H:Hp)(x:V)(xs:List V)(v:S4)(us:List S4)(Q:VK),Inv X a3L σ H s->RelV x v->Vals xs us->r x xs H Q->
  TH (TK X.prog X.w) X.A (call (.builtin id) (v::us)) (EP X a3L σ Q) X.xe s
theorem Vals.one:∀ {x:V}{us:List S4},Vals [x] us->∃ u,us=[u]/\RelV x u
 | _,_,.cons r .nil=>⟨_,rfl,r⟩
theorem Vals.two:∀ {x y:V}{us:List S4},Vals [x,y] us->∃ u v,us=[u,v]/\RelV x u/\RelV y v
 | _,_,_,.cons r (.cons q .nil)=>⟨_,_,rfl,r,q⟩
theorem Vals.zero:∀ {us:List S4},Vals [] us->us=[]
 | _,.nil=>rfl
theorem Vals.dropLast {xs:List V}{us:List S4}(h:Vals xs us):Vals xs.dropLast us.dropLast:=by
 induction h with
 | nil=>exact .nil
 | cons r t a=>
  cases t with
  | nil=>exact .nil
  | cons q b=>exact .cons r a
theorem Vals.reverse {xs:List V}{us:List S4}(h:Vals xs us):Vals xs.reverse us.reverse:=by
 induction h with
 | nil=>exact .nil
 | cons r t a=>rw [a1s,a1s];exact Vals.append a (.cons r .nil)
theorem II {d:Type}(l:List d):l.eraseIdx (l.length - 1)=l.dropLast:=by
 induction l with
 | nil=>rfl
 | cons a r c=>
  cases r with
  | nil=>rfl
  | cons b r=>
   have e:(a::b::r).length - 1=((b::r).length - 1)+1:=by
    have g:(a::b::r).length=r.length+2:=rfl
    have h:(b::r).length=r.length+1:=rfl
    omega
   rw [e,List.eraseIdx_cons_succ,c]
   all_goals rfl
section
variable {X:Cx}{a3L:List (Addr×VC)}{σ:St}{H:Hp}{s:S5}{l b:Addr}{xs ys zs:List V}
theorem Inv.lset {a its':List S4}{n:Nat}{f:Array S4->Array S4}{t':Nat}(I:Inv X a3L σ H s)(c:H l=some (.lst xs))
  (e:s.heap.get? l=some { cls:=.type "list",data:=.seq a.toArray n }) (g:f a.toArray=its'.toArray)(i:Vals ys its')(hz:ys.length<=Tj) :
  Inv X a3L σ (aN H l (.lst ys)) { s with heap:=s.heap.update l (UQ f),toks:=t' }:=by
 have q:=PySem.IsL.update e f
 rw [g] at q
 refine I.write (x:=l) (e:=l) (by rw [c];exact trivial) (.inl rfl) (fun j u d h=>(Vp s.heap (UQ f) (U6 d)).trans h) ⟨_,q⟩ ?_
 exact ⟨hz,its',_,i,q⟩
theorem Inv.lnew {a:List S4}{t':Nat}(I:Inv X a3L σ H s)(c:Vals ys a)(hz:ys.length<=Tj) :
  Inv X a3L σ (aN H s.heap.objs.size (.lst ys)) { s with heap:=s.heap.push { cls:=.type "list",data:=.seq a.toArray },toks:=t' }:=
 I.laid (fun _ _ q=>S9 _ q) (Th _) ⟨hz,a,0,c,Tz _ rfl⟩
theorem Inv.fresh (I:Inv X a3L σ H s):H s.heap.objs.size=none:=I.hok.fresh (Th _)
theorem Inv.lstM (I:Inv X a3L σ H s)(c:H l=some (.lst xs)):xs.length<=Tj/\∃ (a:List S4)(n:Nat),Vals xs a/\xs.length=a.length/\s.heap.get? l=some { cls:=.type "list",data:=.seq a.toArray n }:=by
 obtain ⟨z,a,n,r,e⟩:=I.hok l _ c
 exact ⟨z,a,n,r,r.length,e⟩
theorem IJ {n:Nat}(h:n<=Tj):XG n=false:=by
 unfold XG
 exact decide_eq_false (by omega)
end
section
variable {X:Cx}
noncomputable def Bk:V->List V->Hp->VK->Prop:=fun x vs H Q=>∃ l xs y,x=.ref l/\vs=[y]/\H l=some (.lst xs)/\xs.length<Tj/\Q .non (aN H l (.lst (xs++[y])))
theorem Bl:fT X "list.append" Bk:=by
 intro c s A H x p v o Q I i g h
 obtain ⟨l,w,y,rfl,rfl,b,m,q⟩:=h
 cases i
 obtain ⟨u,rfl,d⟩:=g.one
 obtain ⟨z,a,n,r,j,e⟩:=I.lstM b
 refine W4 F.slot_list_append ⟨_,e,rfl⟩ F.entry_list_append (F.args_list_append_2 _ _) (PySem.list_append l a.toArray n u (by rw [Ta];omega)) ⟨e,?_⟩
 refine ⟨.non,_,I.lset (its':=a++[u]) b e (by simp) (r.append (.cons d .nil)) ?_,rfl,q⟩
 rw [Td,VT]
 omega
noncomputable def Bm:V->List V->Hp->VK->Prop:=fun x vs H Q=>∃ l b xs a,x=.ref l/\vs=[.ref b]/\H l=some (.lst xs)/\H b=some (.lst a)/\xs.length+a.length<=Tj/\Q .non (aN H l (.lst (xs++a)))
theorem IK:fT X "list.extend" Bm:=by
 intro j s T H x M v L Q I E B h
 obtain ⟨l,b,N,R,rfl,rfl,i,o,K,q⟩:=h
 cases E
 obtain ⟨u,rfl,A⟩:=B.one
 cases A
 obtain ⟨z,c,n,r,G,e⟩:=I.lstM i
 obtain ⟨O,a,w,y,p,m⟩:=I.lstM o
 have g:c.toArray.size+a.toArray.size<=Tj:=by rw [Ta,Ta];omega
 have d:¬ (!c.toArray.isEmpty&&XG (c.toArray.size+a.toArray.size))=true:=by
  rw [IJ g,Bool.and_false]
  exact Uc
 refine W4 F.slot_list_extend ⟨_,e,rfl⟩ F.entry_list_extend (F.args_list_extend_2 _ _)
  (AutoSeq1.list_extend_list_list_0 l c.toArray n b a.toArray w d (by rw [Ta];omega) (by omega)) ⟨e,m,?_⟩
 refine ⟨.non,_,I.lset (its':=c++a) i e (by simp) (r.append y) ?_,rfl,q⟩
 rw [Td]
 omega
noncomputable def Bn:V->List V->Hp->VK->Prop:=fun x vs H Q=>∃ l xs y,x=.ref l/\vs=[]/\H l=some (.lst xs)/\xs[xs.length - 1]? = some y/\Q y (aN H l (.lst xs.dropLast))
theorem IL:fT X "list.pop" Bn:=by
 intro g s G H x B v A Q I w p h
 obtain ⟨l,E,y,rfl,rfl,d,m,q⟩:=h
 cases w
 have b:=p.zero
 subst b
 obtain ⟨z,a,n,r,i,e⟩:=I.lstM d
 obtain ⟨u,j,o⟩:=r.get m
 have c:a.toArray[a.toArray.size - 1]? = some u:=by
  show a.toArray[a.length - 1]? = some u
  rw [<- UY,<- i]
  exact j
 refine W4 F.slot_list_pop ⟨_,e,rfl⟩ F.entry_list_pop (F.args_list_pop_1 _) (MeetsSeq.list_pop_last l a.toArray n u c (by rw [Ta];omega)) ⟨e,?_⟩
 refine ⟨y,_,I.lset (its':=a.dropLast) d e ?_ r.dropLast ?_,o,q⟩
 ·show a.toArray.eraseIdxIfInBounds (a.toArray.size - 1)=a.dropLast.toArray
  rw [Ta,List.eraseIdxIfInBounds_toArray,II]
 ·rw [List.length_dropLast]
  omega
noncomputable def Bo:V->List V->Hp->VK->Prop:=fun x vs H Q=>∃ l xs,x=.ref l/\vs=[]/\H l=some (.lst xs)/\Q .non (aN H l (.lst []))
theorem IM:fT X "list.clear" Bo:=by
 intro d s u H x o v m Q I i g h
 obtain ⟨l,p,rfl,rfl,c,q⟩:=h
 cases i
 have a:=g.zero
 subst a
 obtain ⟨z,b,n,r,j,e⟩:=I.lstM c
 refine W4 F.slot_list_clear ⟨_,e,rfl⟩ F.entry_list_clear (F.args_list_clear_1 _) (AutoSeq1.list_clear_list_0 l b.toArray n (by rw [Ta];omega)) ⟨e,?_⟩
 exact ⟨.non,_,I.lset (its':=[]) (ys:=[]) c e rfl .nil (Uv _),rfl,q⟩
noncomputable def Bp:R2:=fun x y H Q=>∃ l b xs a,x=.ref l/\y=.ref b/\H l=some (.lst xs)/\H b=some (.lst a)/\xs.length+a.length<=Tj/\∀ p,H p=none->Q (.ref p) (aN H p (.lst (xs++a)))
theorem IP:OpR X (WT .Add) Bp:=by
 intro d s N H x y v u Q I w A h
 obtain ⟨l,b,K,M,rfl,rfl,m,j,E,q⟩:=h
 cases w
 cases A
 obtain ⟨z,c,n,r,B,e⟩:=I.lstM m
 obtain ⟨L,a,G,p,o,g⟩:=I.lstM j
 refine PySem.P.add_list e g ?_ (by rw [Ta,Ta];omega)
 have i:c.toArray++a.toArray=(c++a).toArray:=by simp
 rw [i]
 exact ⟨.ref _,_,I.lnew (t':=s.toks) (r.append p) (by rw [Td];omega),rfl,q _ I.fresh⟩
end
section
variable {prog:TC}{w:T7}{A:TR}{E:S4->S5->Prop}{s:S5}
set_option maxRecDepth 100000 in
end
section
variable {X:Cx}
end
end L2
namespace Att
open PySem PySem.W PySem.Calls PyProof.Rows
theorem IQ {P:Params}{h:UA}:∀ (ns:List Int)(vs:List S4),WellAll P h vs (ns.map Xv)->Wl vs ns:=by
 intro ns
 induction ns with
 | nil=>
  intro vs w
  rw [Ym] at w
  cases w
  exact .nil
 | cons n ns c=>
  intro vs w
  rw [Tr] at w
  cases w with
  | cons a b=>
   cases a
   exact .cons _ _ (c _ b)
theorem script_of {l:OpenLaw}{n:Nat}(x:l.most=some n){P:Params}{h:UA}{args:List WData}{e:List S4}
  (c:l.row.toRowW.claim.pre args=true)(p:WellAll P h e args) :
  ∃ a s b,e=[To a]/\args=[WData.list (b.map Xv)]/\h.get? a=some { cls:=.type "list",data:=.seq s.toArray }/\Wl s b/\b.length<=n:=by
 have o:WShape.hasAll [] args [.list .int]=true:=(pre_splitW c).1
 have hc:l.pre.holds [] { args:=args } = true:=(pre_splitW c).2
 obtain ⟨d,r,rfl,u,v⟩:=hasAllW_cons o
 obtain rfl:=hasAllW_nil v
 obtain ⟨E,rfl,w⟩:=hasW_list u
 obtain ⟨b,rfl⟩:=items_int w
 have i:b.length<=n:=by
  unfold OpenLaw.pre at hc
  have j:(WTm.not (.lt (.lit (.int (n:Int))) (.len (.arg 0)))).holds [] { args:=[.list (b.map .int)] } = true:=by
   have j:=(holds_andW hc).1
   rw [x] at j
   exact j
  have m:=condW_of j (w_not (w_lt w_lit (w_len_list (w_arg rfl))))
  rw [S6] at m
  refine a1P fun q=>?_
  have z:(n:Int)<((b.length:Nat):Int):=by omega
  first
   | (rw [decide_eq_true z] at m;exact absurd m (by decide))
   | (simp at m;omega)
 cases p with
 | cons A B=>
  cases B
  cases A with
  | list y g=>exact ⟨_,_,b,rfl,rfl,y,IQ b _ g,i⟩
theorem post_true (l:OpenLaw)(args:List WData):l.row.toRowW.claim.post args (.bool true) args=true:=
 postW_of (r:=l.row.toRowW) (X:=(true == true))
  (show a2v [] (.bool true) .bool=true by first|rfl|decide|simp [a2v,WShape.arms,WShape.armsAll])
  (show (WTm.eq .res (.lit (.bool true))).value [] { args:=args,res:=some (.bool true),after:=args } = some (.bool (true == true)) from w_eq_bool (w_res rfl) w_lit) rfl
section
variable {prog:TC}{w:T7}{A:TR}{E:S4->S5->Prop}{s:S5}{K:Frag}
end
end Att
namespace L2
open PySem PySem.Spec PyProof.Rows
theorem Bq:∀ {vs:List S4}{ns:List Int},Wl vs ns->Vals (ns.map V.int) vs
 | _,_,.nil=>.nil
 | _,_,.cons n t h=>.cons ⟨t,rfl⟩ (Bq h)
noncomputable def Br (H:Hp):Prop:=∀ b,H b=none\/∃ o xs,H b=some (.frz o (.lst xs))
theorem law_call {P:TC}{w:T7}{K:S1}{mg Z:Str->Option S4}{CX:gM}{k:Nat}{R a:Addr}{fd:VO}{x:Str}{sp:Sp}{c:S5}{vs:List S4}{ns:List Int}
  (KX:K.In c.heap)(G:c.heap.Ns Vf mg)(g:c.heap.Ns a2j Z)(U:∀ x:Str,x ≠ "__name__"->Z x=Va x) (E:c.heap.NoLimit)(hg:c.gens = #[])
  (O:c.heap.get? a=some { cls:=.type "list",data:=.seq vs.toArray }) (hi:Wl vs ns)(hl:ns.length<=Tj)(hr:Room k Zv)
  (F:∀ i:UA,K.In i->i.Ns Vf mg->FnOk P w K mg i CX k R fd [x] sp)(y:∀ (s:S5)(u:S4),ZF s fd ⟨[u],[]⟩ [(x,u)])
  (Y:∀ H:Hp,Br H->SqL K H a (ns.map V.int)->sp [.ref a] H (fun v _=>v=.bl true) fun _ _ _=>False)
  (T:∀ H e j,CX [] H c (fun _ _ _=>False) e j->False) :
  Yl (TK P w) Zv (.call (.ref R) ⟨[.ref a],[]⟩) (fun r j=>r=.ok (.ret (.bool true))/\OldK c.heap j.heap/\j.os=c.os/\Y0 j.gens) c:=by
 have rv:=Bq hi
 have M:=hi.length
  -- from an abstract heap in which nothing but the script may be tracked
 have p:∀ H:Hp,Br H->SqL K H a (ns.map V.int)->HOk P w H c.heap->(∀ b,H b≠none->b=a)->(H a≠none->K.lookup a=none)->
   Yl (TK P w) Zv (.call (.ref R) ⟨[.ref a],[]⟩) (fun r j=>r=.ok (.ret (.bool true))/\OldK c.heap j.heap/\j.os=c.os/\Y0 j.gens) c:=by
  intro H hO hS I hA hK
  have iP:∀ {b:Addr}{o:VC},c.heap.get? b=some o->H b=none->(i9 c.heap H).get? b=some o:=fun e n=>Gh e n
  have noA:∀ {b:Addr}{o:VC}{es:Array UD}{ep:Nat},c.heap.get? b=some o->o.data=.dict es ep->H b=none:=fun {b o es ep} e d=>by
   cases q:H b with
   | none=>rfl
   | some u=>
    have Q:b=a:=hA b (by rw [q];simp)
    subst Q
    rw [O] at e;cases e
    have d':Data.seq vs.toArray _=a3K es ep:=d
    cases d'
  have l:∀ {b:Addr}{m:Str->Option S4},c.heap.Ns b m->(i9 c.heap H).Ns b m:=fun {b m} ⟨o,es,ep,e,d,r⟩=>⟨o,es,ep,iP e (noA e d),d,r⟩
  have B:K.In (i9 c.heap H):=fun b o e=>iP (KX b o e) (by
   cases q:H b with
   | none=>rfl
   | some u=>
    have Q:b=a:=hA b (by rw [q];simp)
    subst Q
    rw [hK (by rw [q];simp)] at e;cases e)
  have hM:Mod K mg (i9 c.heap H):=⟨B,l G,⟨Z,l g,U⟩,let ⟨mc,h1,h2⟩:=E;⟨mc,l h1,h2⟩⟩
  have e0:Env0 P w K mg (i9 c.heap H) Zv [] c H:=⟨rfl,hM,fun b o e=>Gi e,Y8 (Gg _ _),trivial,fun b g=>absurd (show b∈([]:List Addr) from g) (by simp),I,.of_eq hg⟩
  refine Zu ((F _ B (l G)).run Zv [] c H ⟨[.ref a],[]⟩ [.ref a] [.ref a] _ _ hr e0 (y c (.ref a)) (.cons rfl .nil) (Y H hO hS)) fun r j h=>?_
  cases r with
  | error e=>exact (T H e j h).elim
  | ok fl=>
   cases fl with
   | next=>exact VB h
   | brk=>exact VB h
   | cont=>exact VB h
   | ret u=>
    obtain ⟨v,H',os,A,un,L,r',q⟩:=h
    have q':v=.bl true:=q
    subst q'
    obtain rfl:u=Xd true:=r'
    refine ⟨rfl,OldK.of_keep fun b o e=>?_,os,A⟩
    cases q:H b with
    | none=>exact un.keep b o e q (by intro z;exact absurd (show b∈([]:List Addr) from z) (by simp)) (by simp)
    | some u=>
     rcases hO b with z|⟨ob,xs,z⟩
     ·rw [q] at z;cases z
     ·have z2:=un.frzs b ob _ z
      obtain ⟨e1,_⟩:=I b _ z
      obtain ⟨e2,_⟩:=L b _ z2
      rw [e] at e1;cases e1
      exact e2
 cases X:K.lookup a with
 | some o=>
    -- the script is one of the module's own objects
  have e:=KX a o X
  rw [O] at e
  cases e
  refine p (fun _=>none) (fun _=>.inl rfl) (.inr ⟨_,vs.toArray,_,X,rfl,rfl,rfl,by rw [Ta,M];exact hl,by simpa using rv⟩) (fun b u z=>by have N:(none:Option HO)=some u:=z;cases N) (fun b z=>absurd rfl z) fun z=>absurd rfl z
 | none=>
  refine p (fun b=>if b=a then some (.frz { cls:=.type "list",data:=.seq vs.toArray } (.lst (ns.map V.int))) else none) (fun b=>?_) (.inl (.inr ⟨{ cls:=.type "list",data:=.seq vs.toArray },if_pos rfl⟩)) (fun b u z=>?_) (fun b z=>?_) fun _=>X
  ·by_cases g:b=a
   ·exact .inr ⟨_,_,if_pos g⟩
   ·exact .inl (if_neg g)
  ·by_cases g:b=a
   ·have N:=(if_pos g).symm.trans z
    cases N
    subst g
    exact ⟨O,by rw [S6];exact hl,vs,_,rv,O⟩
   ·have N:=(if_neg g).symm.trans z
    cases N
  ·by_cases g:b=a
   ·exact g
   ·exact absurd (if_neg g) z
end L2
namespace L2
open PySem PySem.Spec PyProof.Rows
end L2
namespace L2
open PySem PySem.Spec PyProof.Rows
noncomputable def jD (s:Stmt):Arguments:=match s with
 | .FunctionDef _ a _ _ _ _ _ _ _ _=>a
 | _=>{ posonlyargs:=[],args:=[],vararg:=none,kwonlyargs:=[],kw_defaults:=[],kwarg:=none,defaults:=[] }
noncomputable def fI (s:Stmt):List Stmt:=match s with
 | .FunctionDef _ _ b _ _ _ _ _ _ _=>b
 | _=>[]
noncomputable def cI (s:Stmt):Wb:=match s with
 | .FunctionDef _ _ _ _ _ _ sc _ _ _=>sc
 | _=>{ kind:=.function,names:=[],isGenerator:=false,isCoroutine:=false }
noncomputable abbrev eX:gM:=fun _ _ _ _ _ _=>False
noncomputable abbrev E0:XK:=fun _ _ _=>False
theorem Bs {X:Cx}:rD eX X E0:=fun _ _ _ _ _ _ _ h=>h.elim
structure Fun (K:S1)(x qual:Str)(st:Stmt)(f:Addr)(fd:VO):Prop where
 ex:∃ (oc:S4)(od:Option Addr)(kV doc pm:S4)(an:Option Addr)(cdv ct:S4)(osl:Array (Option S4)),
  fd=VW x qual (jD st) (fI st) (cI st) .none kV doc pm an cdv ct/\K.lookup f=some ⟨oc,od,.func fd,osl⟩/\Yq K cdv qual=true
 kp:Vl K (.ref f)=true
section
variable {P:TC}{w:T7}{K:S1}{mg:Str->Option S4}{base:UA}
theorem Fun.ok {x a:Str}{st:Stmt}{f:Addr}{g:VO}{N ps:List Str}{k:Nat}{sp:Sp}(F:Fun K x a st f g)(S:FnScope N ps (cI st))(len:∀ vs H Q E,sp vs H Q E->vs.length=ps.length)
  (c:∀ (b:S4)(A:TR)(outer:List YY)(s:S5)(H:Hp)(vs:List V)(Q:VK)(E:XK),Room k (A.deeper (envOfC a (cI st) s.heap.objs.size f b))->sp vs H Q E->
   ∃ t,PSs (jB eX P w K mg base N a (cI st) f b A outer s H E).nox (fI st) t/\t { nx:=fun _ i=>Q .non i,rt:=Q } (start N vs) H):FnOk P w K mg base eX (k+1) f g ps sp:=by
 obtain ⟨p,r,kV,j,u,o,b,ct,n,rfl,m,d⟩:=F.ex
 refine HP m d S len fun A outer s H vs Q E l e=>?_
 obtain ⟨t,h,q⟩:=c b A outer s H vs Q E l e
 exact ⟨t,h.nox,q⟩
theorem Fun.binds {x a:Str}{st:Stmt}{f:Addr}{e:VO}{ps:List Str}(F:Fun K x a st f e)
  (h:∀ (kV c d:S4)(an:Option Addr)(b ct:S4)(us:List S4),us.length=ps.length->a0i (VW x a (jD st) (fI st) (cI st) .none kV c d an b ct) ⟨us,[]⟩=pure (ps.zip us)):Binds K e ps []:=by
 obtain ⟨l,m,kV,c,d,an,b,ct,i,rfl,j,g⟩:=F.ex
 exact .all (h kV c d an b ct)
theorem IS {x a:Str}{st:Stmt}{f:Addr}{h:S4}{i an:Option Addr}{e:Array (Option S4)}{kV d g b ct:S4}(l:K.lookup f=some ⟨h,i,.func (VW x a (jD st) (fI st) (cI st) .none kV d g an b ct),e⟩)
  (c:Yq K b a=true)(k:Vl K (.ref f)=true):Fun K x a st f (VW x a (jD st) (fI st) (cI st) .none kV d g an b ct):=⟨⟨h,i,kV,d,g,an,b,ct,e,rfl,l,c⟩,k⟩
end
theorem IT {A:TR}{k:Nat}(a:Room k A):A.units+1<Vg:=Nat.lt_of_le_of_lt (Nat.add_le_add_left (by decide:1<=64) _) a.units
section
variable {X:Cx}
theorem call_lenD:CallR X (.builtin "len") (fun xs H Q=>∃ a kvs,xs=[V.ref a]/\H a=some (.dK kvs)/\Q (.int kvs.length) H):=by
 intro c s j H xs i Q I r h
 obtain ⟨a,kvs,rfl,d,q⟩:=h
 obtain ⟨u,rfl,e⟩:=gK r
 cases e
 exact HX I (.inl d) fun t g b=>⟨.int kvs.length,H,b,⟨t,rfl⟩,q⟩
end
theorem jX {A B:Prop}(h:B):if false=true then A else B:=by
 rw [if_neg Uc]
 exact h
theorem jY {A B:Prop}(h:A):if true=true then A else B:=by
 rw [if_pos rfl]
 exact h
noncomputable def Same (H a:Hp):Prop:=∀ b o,H b=some o->a b=some o
theorem Same.refl (H:Hp):Same H H:=fun _ _ h=>h
theorem Same.trans {H d e:Hp}(a:Same H d)(b:Same d e):Same H e:=fun c o h=>b c o (a c o h)
theorem Same.free {H a:Hp}(e:Same H a){l:Addr}(h:a l=a2l):H l=a2l:=by
 cases q:H l with
 | none=>rfl
 | some o=>
  rw [e l o q] at h
  cases h
theorem Same.seq {K:S1}{H b:Hp}{a:Addr}{xs:List V}(e:Same H b)(h:SqL K H a xs):SqL K b a xs:=by
 rcases h with (h|⟨o,h⟩)|h
 ·exact .inl (.inl (e _ _ h))
 ·exact .inl (.inr ⟨o,e _ _ h⟩)
 ·exact .inr h
section
variable {κ:Type} [DecidableEq κ]
end
end L2
namespace Lw
open PySem L2
noncomputable def aO (i:Nat):Stmt:=UP.main.body.getD i (.Pass ⟨0,0,0,0⟩)
noncomputable def Vw:TC:={ UP with main:={ UP.main with body:=aO 1::aO 2::aO 3::aO 4::aO 5::aO 6::aO 8::aO 9::aO 10::aO 11::aO 12::aO 13::aO 14::aO 15::aO 16::aO 18::aO 19::aO 20::aO 21::aO 22::aO 23::aO 24::aO 25::aO 26::aO 27::aO 28::aO 29::aO 31::aO 32::aO 34::aO 35::aO 36::aO 37::aO 38::aO 40::aO 41::aO 42::aO 43::aO 44::aO 45::aO 46::aO 47::aO 48::aO 49::aO 50::aO 51::aO 52::[] } }
noncomputable abbrev vS (x:String)(n:Nat):S4:=Y1 (Yp x) n
noncomputable abbrev vI (i:Int):S4:=XO i 0
noncomputable abbrev vR (a:Addr):S4:=To a
noncomputable abbrev vN:S4:=UT
noncomputable abbrev kO (x y:String)(a b c:Nat)(l n i j k:Int)(r:Addr)(q:Int)(vs:Array S4)(t d:Int)(e:Nat):VC:={ cls:=Wo "code",data:=a2O (#[vS x a,vS x b,vS y c,vI l,vI n,vI i,vI j,vI k,vR r,Xd true,vI q]++vs++#[vI t,vI d,vS y e]) }
noncomputable abbrev tO (fs:Array S4):VC:={ cls:=Wo "tuple",data:=Data.seq fs }
noncomputable abbrev fO (x:Str)(n:Nat)(m:S4)(c:Addr):VC:=⟨Wo "function",none,.func (VW x x (jD (aO n)) (fI (aO n)) (cI (aO n)) UT UT UT m none (To c) UT),#[]⟩
noncomputable abbrev eO (P:WV)(x:String)(n:Nat)(v:S4):UD:={ hash:=PyData.keyHash P (Yp x),key:=Y1 (Yp x) n,val:=v }
noncomputable abbrev eR (P:WV)(x:String)(n:Nat)(a:Addr):UD:=eO P x n (vR a)
noncomputable abbrev kA (p:Addr×VC)(R:S1):S1:=p::R
noncomputable abbrev vM (n:Nat):S4:=[vS "creasecourt.places" 305,vS "creasecourt.sheets" 377,vS "creasecourt.faces" 466,vS "creasecourt.drawings" 495,vS "law_creasecourt_k26_faces_hang_together" 537].getD n vN
noncomputable abbrev kF (x:String)(r a:Nat)(l n:Int)(t i:Nat)(m:S4)(R:S1):S1:=(r+5,kO x "/claim/cut.py" a (a+1) (a+2) l n 0 0 3 r 181 #[vR (r+1),vN,vR (r+2),vR (r+3),vR (r+4)] t l (t+1))::(r+6,fO x i m (r+5))::R
noncomputable abbrev kG (x:String)(r a:Nat)(l n:Int)(t i:Nat)(m:S4)(R:S1):S1:=(r+3,kO x "/claim/cut.py" a (a+1) (a+2) l n 0 0 3 r 181 #[vR (r+1),vN,vN,vN,vR (r+2)] t l (t+1))::(r+4,fO x i m (r+3))::R
noncomputable def Kx:WV → S1:=fun P=>kA (3,{ cls:=Wo "dict",data:=a3K #[eO P "__name__" 165 (vS "law_creasecourt_k26_faces_hang_together" 537),eO P "__doc__" 166 vN,eO P "__package__" 167 vN,eO P "__loader__" 168 (a1Y "__main__.__loader__#opaque"),eO P "__spec__" 169 vN,eR P "__annotations__" 170 6,eR P "__builtins__" 171 4,eO P "__file__" 173 (vS "/claim/cut.py" 172),eO P "__cached__" 174 vN,eR P "CreaseError" 206 24,eR P "NoSize" 222 37,eR P "NoMark" 238 49,eR P "NoText" 254 61,eR P "NoEdge" 279 80,eR P "Twice" 304 99,eR P "is_whole" 313 108,eR P "is_place" 320 115,eR P "is_edge" 327 122,eR P "is_quarter" 334 129,eR P "line_of" 341 136,eR P "beside" 350 143,eR P "edges_of" 356 148,eR P "number_by" 364 155,eR P "mirrored" 376 162,eR P "MARKS" 382 163,eR P "is_size" 389 170,eR P "check_size" 397 177,eR P "is_mark" 404 184,eR P "is_within" 413 191,eR P "places_within" 419 196,eR P "quarters_in" 425 201,eR P "edges_in" 431 206,eR P "is_inner_edge" 440 213,eR P "neighbours_in" 446 218,eR P "sheet_of" 458 225,eR P "marks_in" 465 232,eR P "face_with" 481 239,eR P "faces" 494 246,eR P "sign_at" 505 253,eR P "drawn" 511 258,eR P "sign_in" 519 265,eR P "creases_in" 525 270,eR P "read_sheet" 536 277,eR P "_law_draw" 546 284,eR P "_law_kind" 553 291,eR P "_law_near" 559 296,eR P "_law_int" 566 303,eR P "_law_are" 575 310,eR P "_law_amid" 581 315,eR P "_law_size" 588 322,eR P "_law_line" 596 329,eR P "_law_creases" 602 334,eR P "_law_numbers" 612 341,eR P "_law_reached" 627 348,eR P "_law_right" 633 353,eR P "law" 639 358] 56 }) <|
 kF "is_whole" 102 307 21 1 311 8 (vM 0) <|
 kF "is_place" 109 314 23 1 318 9 (vM 0) <|
 kF "is_edge" 116 321 25 1 325 10 (vM 0) <|
 kF "is_quarter" 123 328 29 1 332 11 (vM 0) <|
 kF "line_of" 130 335 33 1 339 12 (vM 0) <|
 kF "beside" 137 342 37 1 348 13 (vM 0) <|
 kG "edges_of" 144 351 41 1 354 14 (vM 0) <|
 kF "number_by" 149 357 43 2 362 15 (vM 0) <|
 kF "mirrored" 156 365 51 2 374 16 (vM 0) <|
 kA (163,tO #[vS "h" 379,vS "v" 380,vS "o" 381]) <|
 kF "is_size" 164 383 65 1 387 19 (vM 1) <|
 kF "check_size" 171 390 67 2 395 20 (vM 1) <|
 kF "is_mark" 178 398 70 1 402 21 (vM 1) <|
 kF "is_within" 185 405 72 3 411 22 (vM 1) <|
 kG "places_within" 192 414 74 2 417 23 (vM 1) <|
 kG "quarters_in" 197 420 79 2 423 24 (vM 1) <|
 kG "edges_in" 202 426 81 2 429 25 (vM 1) <|
 kF "is_inner_edge" 207 432 83 3 438 26 (vM 1) <|
 kG "neighbours_in" 214 441 85 3 444 27 (vM 1) <|
 kF "sheet_of" 219 447 87 3 456 28 (vM 1) <|
 kF "marks_in" 226 459 100 1 463 29 (vM 1) <|
 kF "face_with" 233 468 103 3 479 31 (vM 2) <|
 kF "faces" 240 482 113 1 492 32 (vM 2) <|
 kF "sign_at" 247 497 125 3 503 34 (vM 3) <|
 kG "drawn" 254 506 133 1 509 35 (vM 3) <|
 kF "sign_in" 259 512 139 2 517 36 (vM 3) <|
 kG "creases_in" 266 520 141 3 523 37 (vM 3) <|
 kF "read_sheet" 271 526 144 1 534 38 (vM 3) <|
 kF "_law_draw" 278 539 157 2 544 40 (vM 4) <|
 kF "_law_kind" 285 547 159 1 551 41 (vM 4) <|
 kG "_law_near" 292 554 161 2 557 42 (vM 4) <|
 kF "_law_int" 297 560 165 1 564 43 (vM 4) <|
 kF "_law_are" 304 567 167 2 573 44 (vM 4) <|
 kG "_law_amid" 311 576 174 3 579 45 (vM 4) <|
 kF "_law_size" 316 582 179 1 586 46 (vM 4) <|
 kF "_law_line" 323 589 181 1 594 47 (vM 4) <|
 kG "_law_creases" 330 597 184 3 600 48 (vM 4) <|
 kF "_law_numbers" 335 603 198 1 610 49 (vM 4) <|
 kF "_law_reached" 342 613 208 4 625 50 (vM 4) <|
 kG "_law_right" 349 628 220 4 631 51 (vM 4) <|
 kG "law" 354 634 233 1 637 52 (vM 4) <| []
noncomputable def As:List Addr:=[3,107,108,114,115,121,122,128,129,135,136,142,143,147,148,154,155,161,162,163,169,170,176,177,183,184,190,191,195,196,200,201,205,206,212,213,217,218,224,225,231,232,238,239,245,246,252,253,257,258,264,265,269,270,276,277,283,284,290,291,295,296,302,303,309,310,314,315,321,322,328,329,333,334,340,341,347,348,352,353,357,358]
theorem pC:∀ P,As=(Kx P).map (·.1):=fun _=>by kernel_rfl
open PySem.W PyProof.Rows in
theorem run:LeftO (Z6 UO).prog Vw [] (fun s=>xlAt Vw [] s&&recOk (a2x (a1p (Z6 UO))) s) (Hook.obs (a3D Kx As pC)) (Hook.val (a3D Kx As pC)) 5244:=fun w=>by kernel_rfl
end Lw
set_option maxHeartbeats 4000000
namespace L3
open PySem
open PySem.SetTable (Probe Met Slot bits runEnd leap turns insertAt sizeAbove)
namespace Tb
noncomputable def lH (m:Nat)(p:Probe):Probe:=
 if p.more>0 then { p with j:=p.j+1,more:=p.more - 1 } else
 { p with j:=(leap m p.i p.perturb).1,more:=runEnd m (leap m p.i p.perturb).1 - (leap m p.i p.perturb).1,i:=(leap m p.i p.perturb).1,perturb:=(leap m p.i p.perturb).2 }
noncomputable def IU (m:Nat)(b:Nat):Probe:={ j:=b % (m+1),more:=runEnd m (b % (m+1)) - b % (m+1),i:=b % (m+1),perturb:=b,dummy:=none }
noncomputable def cB (m b:Nat):Nat->Probe
 | 0=>IU m b
 | k+1=>lH m (cB m b k)
noncomputable def lp (m b:Nat):Nat->Nat×Nat
 | 0=>(b % (m+1),b)
 | n+1=>leap m (lp m b n).1 (lp m b n).2
noncomputable def hd (m i q:Nat):Probe:={ j:=i,more:=runEnd m i - i,i:=i,perturb:=q,dummy:=none }
theorem pD {m b k i q:Nat}(h:cB m b k=hd m i q):∀ r,r<=runEnd m i - i->cB m b (k+r) = { j:=i+r,more:=runEnd m i - i - r,i:=i,perturb:=q,dummy:=none }
 | 0,_=>by rw [Ys,h];rfl
 | r+1,hr=>by
  have e:=pD h r (by omega)
  show lH m (cB m b (k+r))=_
  rw [e]
  unfold lH
  rw [if_pos (show runEnd m i - i - r>0 by omega)]
  show Probe.mk (i+r+1) (runEnd m i - i - r - 1) i q none=_
  rw [Z7,Nat.sub_sub]
theorem IV {m b k i q:Nat}(h:cB m b k=hd m i q):cB m b (k+(runEnd m i - i)+1)=hd m (leap m i q).1 (leap m i q).2:=by
 have e:=pD h (runEnd m i - i) (Th _)
 show lH m (cB m b (k+(runEnd m i - i)))=_
 rw [e]
 unfold lH
 rw [if_neg (show ¬ (runEnd m i - i - (runEnd m i - i)>0) by omega)]
 rfl
noncomputable def nx (m i:Nat):Nat:=(i * 5+1) % (m+1)
noncomputable def gN (m:Nat):Nat->Nat->Nat
 | 0,i=>i
 | n+1,i=>gN m n (nx m i)
theorem pF (m:Nat):∀ (a b i:Nat),gN m (a+b) i=gN m b (gN m a i)
 | 0,b,i=>by rw [VM];rfl
 | a+1,b,i=>by rw [Nat.succ_add];exact pF m a b (nx m i)
noncomputable def lI (m:Nat):Nat->Nat->Nat->Nat
 | 0,_,acc=>acc
 | f+1,i,acc=>lI m f (nx m i) (acc ||| (1 <<< i))
theorem Bt (m j:Nat):∀ (f i a:Nat),(lI m f i a).testBit j=true->a.testBit j=true\/∃ n,n<f/\gN m n i=j
 | 0,_,_,h=>.inl h
 | f+1,i,a,h=>by
  rcases Bt m j f (nx m i) _ h with h|⟨n,d,e⟩
  ·rw [Nat.testBit_or] at h
   cases c:a.testBit j with
   | true=>exact .inl rfl
   | false=>
    rw [c,a2o,Nat.testBit_shiftLeft] at h
    refine .inr ⟨0,by omega,?_⟩
    simp at h
    have b:Nat.testBit 1 (j - i)=true:=h.2
    rw [Nat.testBit_one_eq_true_iff_self_eq_zero] at b
    show i=j
    omega
  ·exact .inr ⟨n+1,by omega,e⟩
noncomputable def mW (m:Nat):Bool:=lI m (m+1) 0 0 == 2 ^ (m+1) - 1&&gN m (m+1) 0 == 0
theorem IW {m:Nat}(h:mW m=true){i j:Nat}(o:i<=m)(g:j<=m):∃ n,n<=m/\gN m n i=j:=by
 unfold mW at h
 rw [Ti,beq_iff_eq,beq_iff_eq] at h
 have b:∀ j,j<=m->∃ n,n<m+1/\gN m n 0=j:=fun j g=>by
  rcases Bt m j (m+1) 0 0 (by rw [h.1,Nat.testBit_two_pow_sub_one];simp;omega) with q|q
  ·simp at q
  ·exact q
 obtain ⟨a,p,d⟩:=b i o
 obtain ⟨c,hc,e⟩:=b j g
 by_cases l:a<=c
 ·refine ⟨c - a,by omega,?_⟩
  rw [<- d,<- pF,show a+(c - a)=c by omega,e]
 ·refine ⟨m+1 - a+c,by omega,?_⟩
  rw [<- d,<- pF,show a+(m+1 - a+c)=m+1+c by omega,pF,h.2,e]
theorem Bu (m b:Nat):∀ n,(lp m b n).2=b / 32 ^ n
 | 0=>by simp [lp]
 | n+1=>by
  show (lp m b n).2 / 32=_
  rw [Bu m b n,Nat.div_div_eq_div_mul,Nat.pow_succ]
theorem Bv (m b:Nat):∀ n,(lp m b n).1<=m
 | 0=>a1C (a3H _ (Y5 _))
 | n+1=>a1C (a3H _ (Y5 _))
theorem IX {m b:Nat}(c:b<2 ^ 64):∀ n,lp m b (13+n)=(gN m n (lp m b 13).1,0):=by
 have a:∀ n,13<=n->(lp m b n).2=0:=fun n d=>by
  rw [Bu]
  apply Nat.div_eq_of_lt
  refine T1 c ?_
  have:(2:Nat) ^ 64<=32 ^ 13:=by decide
  exact T8 this (Nat.pow_le_pow_right (by decide) d)
 intro n
 have one:∀ n i,gN m (n+1) i=nx m (gN m n i):=fun n i=>by
  rw [pF];rfl
 induction n with
 | zero=>exact Prod.ext rfl (a 13 (Th _))
 | succ n e=>
  show leap m (lp m b (13+n)).1 (lp m b (13+n)).2=_
  rw [e,one]
  simp [leap,nx]
theorem IY {m b j:Nat}(hc:mW m=true)(a:b<2 ^ 64)(c:j<=m):∃ n,n<=m+13/\(lp m b n).1=j:=by
 obtain ⟨n,d,e⟩:=IW hc (Bv m b 13) c
 exact ⟨13+n,by omega,by rw [IX a];exact e⟩
noncomputable def Reach (m:Nat)(S:List Nat)(b j:Nat):Prop:=∃ k,(cB m b k).j=j/\∀ k',k'<k->(cB m b k').j∈S
theorem Reach.mono {m b j:Nat}{S c:List Nat}(h:Reach m S b j)(g:∀ x,x∈S->x∈c):Reach m c b j:=
 let ⟨k,e,a⟩:=h;⟨k,e,fun i d=>g _ (a i d)⟩
theorem IZ {m:Nat}{S:List Nat}(b:S.length<=m):∃ j,j<=m/\j∉S:=by
 refine XM fun h=>?_
 have all:∀ j,j<=m->j∈S:=fun j a=>XM fun q=>h ⟨j,a,q⟩
 have:=List.Nodup.length_le_of_subset (l₁:=Ui (m+1)) (l₂:=S) Yg fun j a=>all j (by simpa [ZC] using a)
 rw [X7] at this
 omega
theorem vL {xs:Array Nat}{j:Nat}(g:∀ a b,a<b->b<xs.size->xs.getD a 0<xs.getD b 0):∀ (f lo d:Nat),d - lo<=f->lo<=d->d<=xs.size->(∀ i,i<lo->xs.getD i 0<j)->(∀ i,d<=i->i<xs.size->j<=xs.getD i 0)->
  Xr xs j f lo d<=xs.size/\(∀ i,i<Xr xs j f lo d->xs.getD i 0<j)/\∀ i,Xr xs j f lo d<=i->i<xs.size->j<=xs.getD i 0
 | 0,lo,d,hf,h1,h2,a,b=>by
  have e:lo=d:=by omega
  show lo<=xs.size/\(∀ i,i<lo->_)/\∀ i,lo<=i->_
  exact ⟨by omega,a,by rw [e];exact b⟩
 | f+1,lo,d,hf,h1,h2,a,b=>by
  unfold Xr
  by_cases q:lo<d
  ·rw [if_pos q]
   dsimp only
   have n:(lo+d) / 2<xs.size:=by omega
   have e:xs.getD ((lo+d) / 2) j=xs.getD ((lo+d) / 2) 0:=by simp [WI,n]
   rw [e]
   by_cases c:xs.getD ((lo+d) / 2) 0<j
   ·rw [if_pos c]
    refine vL g f _ _ (by omega) (by omega) h2 (fun i l=>?_) b
    rcases Wy i ((lo+d) / 2) with z|z
    ·exact W8 (g _ _ z n) c
    ·have:i=(lo+d) / 2:=by omega
     rw [this];exact c
   ·rw [if_neg c]
    refine vL g f _ _ (by omega) (by omega) (by omega) a fun i l m=>?_
    rcases Wy ((lo+d) / 2) i with z|z
    ·have:=g _ _ z m;omega
    ·have:i=(lo+d) / 2:=by omega
     rw [this];omega
  ·rw [if_neg q]
   exact ⟨by omega,a,fun i h m=>b i (by omega) m⟩
theorem Bw {xs:Array Nat}(h:xs.toList.Pairwise (·<·)):∀ a b,a<b->b<xs.size->xs.getD a 0<xs.getD b 0:=fun a b c d=>by
 have:=Ub.mp h a b (by simpa using W8 c d) (by simpa using d) c
 simpa [WI,d,W8 c d] using this
theorem Ja {xs:Array Nat}(h:xs.toList.Pairwise (·<·))(j:Nat):XC xs j<=xs.size/\(∀ i,i<XC xs j->xs.getD i 0<j)/\∀ i,XC xs j<=i->i<xs.size->j<=xs.getD i 0:=
 vL (Bw h) _ _ _ (by omega) (by omega) (Th _) (fun i z=>absurd z (WK _)) fun i z a=>by omega
noncomputable abbrev mX:=Nat×Int×S4
structure Ok (t:Yx)(R:List mX):Prop where
 place:t.place.toList=R.map (·.1)
 dum:t.dummies = #[]
 rise:(R.map (·.1)).Pairwise (·<·)
 le:∀ r∈R,r.1<=t.mask
 cov:mW t.mask=true
 odd:t.mask % 2=1
 room:R.length<=t.mask
 road:∀ r∈R,Reach t.mask (R.map (·.1)) (bits r.2.1) r.1
section
variable {t:Yx}{R:List mX}
theorem Jb (h:Int):bits h<2 ^ 64:=by
 unfold bits
 have a:0<=h % (2 ^ 64:Int):=XJ _ (by decide)
 have b:h % (2 ^ 64:Int)<2 ^ 64:=WR _ (by decide)
 omega
theorem Ok.size (o:Ok t R):t.place.size=R.length:=by
 have:=congrArg US o.place
 simpa using this
theorem Ok.uniq (o:Ok t R){r c:mX}(h:r∈R)(h':c∈R)(e:r.1=c.1):r=c:=by
 have p:=Ur.mp o.rise
 obtain ⟨i,d,a⟩:=VG h
 obtain ⟨k,g,b⟩:=VG h'
 rcases W7 i k with z|z|z
 ·have:=Ub.mp p i k d g z
  rw [a,b] at this;omega
 ·subst z;rw [<- a,<- b]
 ·have:=Ub.mp p k i g d z
  rw [a,b] at this;omega
theorem Ok.getD (o:Ok t R){i:Nat}(a:i<R.length):t.place.getD i 0=(R[i]).1:=by
 have h:t.place.toList[i]? = (R.map (·.1))[i]?:=by rw [o.place]
 have b:i<t.place.size:=by rw [o.size];exact a
 simp [a,b] at h
 simp [WI,b,h]
theorem Ok.sorted (o:Ok t R):t.place.toList.Pairwise (·<·):=by rw [o.place];exact o.rise
theorem Jc (j:Nat):a1y #[] j=false:=by
 unfold a1y
 simp
theorem Ok.live (o:Ok t R){j:Nat}(h:j∈R.map (·.1)):∃ i r,t.slot j=.live i/\R[i]? = some r/\r.1=j:=by
 obtain ⟨r,m,e⟩:=TQ.mp h
 obtain ⟨i,a,d⟩:=VG m
 have b:=Ja o.sorted j
 have l:t.place.getD i 0=j:=by rw [o.getD a,d];exact e
 have c:i<t.place.size:=by rw [o.size];exact a
 have g:XC t.place j=i:=by
  rcases W7 (XC t.place j) i with z|z|z
  ·have n:=b.2.2 _ (Th _) (by omega)
   have p:=Bw o.sorted _ _ z c
   omega
  ·exact z
  ·have:=b.2.1 i z;omega
 refine ⟨i,r,?_,by rw [<- d];exact S7 a,e⟩
 unfold a1g
 dsimp only
 rw [g,if_pos]
 have:t.place[i]? = some j:=by
  rw [ZP c]
  simpa [WI,c] using l
 rw [this]
 exact beq_self_eq_true _
theorem Ok.empty (o:Ok t R){j:Nat}(h:j∉R.map (·.1)):t.slot j=.empty:=by
 unfold a1g
 dsimp only
 rw [if_neg,o.dum,Jc]
 ·rfl
 ·intro q
  rw [beq_iff_eq] at q
  apply h
  rw [<- o.place]
  exact Array.mem_toList_iff.mpr (Array.mem_of_getElem? q)
theorem Bx (m b:Nat):∀ k,(cB m b k).dummy=none
 | 0=>rfl
 | k+1=>by
  show (lH m (cB m b k)).dummy=none
  unfold lH
  split<;>exact Bx m b k
theorem Ok.go (o:Ok t R)(ZS:Nat->Int)(x:∀ i r,R[i]? = some r->ZS i=r.2.1){h:Int}{K:Nat}(v:(cB t.mask (bits h) K).j∉R.map (·.1))(w:∀ k',k'<K->(cB t.mask (bits h) k').j∈R.map (·.1)) :
  ∀ (f k:Nat),k<=K->K<k+f->
   (Xq t ZS h f (cB t.mask (bits h) k)=some (.empty (cB t.mask (bits h) K).j none)/\∀ k' r,k<=k'->k'<K->r∈R->r.1=(cB t.mask (bits h) k').j->r.2.1≠h) \/
   ∃ k' i r,k<=k'/\k'<K/\R[i]? = some r/\r.1=(cB t.mask (bits h) k').j/\r.2.1=h/\Xq t ZS h f (cB t.mask (bits h) k)=some (.candidate (cB t.mask (bits h) k').j i (cB t.mask (bits h) (k'+1))) /\
    ∀ c g,k<=c->c<k'->g∈R->g.1=(cB t.mask (bits h) c).j->g.2.1≠h
 | 0,k,h1,h2=>by omega
 | f+1,k,h1,h2=>by
  rcases Wy k K with z|z
  ·obtain ⟨i,r,e,p,u⟩:=o.live (w k z)
   have M:Xq t ZS h (f+1) (cB t.mask (bits h) k)=if ZS i == h then some (.candidate (cB t.mask (bits h) k).j i (cB t.mask (bits h) (k+1))) else Xq t ZS h f (cB t.mask (bits h) (k+1)):=by
    show (match t.slot (cB t.mask (bits h) k).j with|.empty=>_|.dummy=>_|.live i=>_)=_
    rw [e]
    rfl
   rw [M,x i r p]
   have s:r∈R:=Ts p
   by_cases q:r.2.1=h
   ·refine .inr ⟨k,i,r,Th _,z,p,u,q,?_,fun c g a b=>by omega⟩
    rw [q,if_pos (beq_self_eq_true _)]
   ·rw [if_neg (by simpa using q)]
    have j:∀ g,g∈R->g.1=(cB t.mask (bits h) k).j->g.2.1≠h:=fun g d l=>by
     rw [o.uniq d s (l.trans u.symm)];exact q
    rcases Ok.go o ZS x v w f (k+1) z (by omega) with ⟨a,b⟩|⟨k',N,g,O,A,B,E,G,H,I⟩
    ·refine .inl ⟨a,fun k' g L n d l=>?_⟩
     rcases Wy k k' with y|y
     ·exact b k' g y n d l
     ·have:k'=k:=by omega
      subst this;exact j g d l
    ·refine .inr ⟨k',N,g,by omega,A,B,E,G,H,fun c m L n d l=>?_⟩
     rcases Wy k c with y|y
     ·exact I c m y n d l
     ·have:c=k:=by omega
      subst this;exact j m d l
  ·have:k=K:=by omega
   subst this
   refine .inl ⟨?_,fun k' r a b=>by omega⟩
   show (match t.slot (cB t.mask (bits h) k).j with|.empty=>_|.dummy=>_|.live i=>_)=_
   rw [o.empty v]
   show some (Met.empty _ (cB t.mask (bits h) k).dummy)=_
   rw [Bx]
end
noncomputable def lv (m:Nat)(a:Array (Option Nat)):List (Nat×Nat):=(Ui (m+1)).filterMap fun j=>(a.getD j none).map (j,·)
theorem mem_lv {m:Nat}{c:Array (Option Nat)}{j i:Nat}:(j,i)∈lv m c↔j<=m/\c.getD j none=some i:=by
 unfold lv
 rw [YR]
 constructor
 ·rintro ⟨a,n,e⟩
  rw [S8] at e
  obtain ⟨b,d,g⟩:=e
  cases g
  exact ⟨by simpa [ZC] using n,d⟩
 ·rintro ⟨h,l⟩
  exact ⟨j,by simpa [ZC] using h,by rw [l];rfl⟩
theorem Jd (m:Nat)(i:Array (Option Nat)):((lv m i).map (·.1)).Pairwise (·<·):=by
 rw [Ur]
 unfold lv
 refine a2M (R:=(·<·)) _ (fun a j h b d l c=>?_) List.pairwise_lt_range
 rw [S8] at d c
 obtain ⟨_,_,e⟩:=d
 obtain ⟨_,_,g⟩:=c
 rw [<- e,<- g]
 exact h
structure Ow (m:Nat)(ds:List Int)(ow:Array (Option Nat)):Prop where
 size:ow.size=m+1
 lt:∀ j i,ow.getD j none=some i->i<ds.length
 all:∀ i,i<ds.length->∃ j,ow.getD j none=some i
 inj:∀ j j' i,ow.getD j none=some i->ow.getD j' none=some i->j=j'
 road:∀ j i,ow.getD j none=some i->Reach m ((lv m ow).map (·.1)) (bits (ds.getD i 0)) j
section
variable {m:Nat}{ds:List Int}{ow:Array (Option Nat)}
theorem Ow.le (o:Ow m ds ow){j i:Nat}(h:ow.getD j none=some i):j<=m:=by
 rcases Wy j ow.size with z|z
 ·rw [o.size] at z;omega
 ·simp [WI,Xs.mpr z] at h
theorem Ow.taken (o:Ow m ds ow){j:Nat}(b:j<=m):j∈(lv m ow).map (·.1)↔(ow.getD j (some 0)).isNone=false:=by
 have c:j<ow.size:=by rw [o.size];omega
 have e:ow.getD j (some 0)=ow.getD j none:=by simp [WI,c]
 rw [e]
 constructor
 ·intro q
  obtain ⟨⟨a,i⟩,d,rfl⟩:=TQ.mp q
  rw [(mem_lv.mp d).2];rfl
 ·intro q
  cases z:ow.getD j none with
  | none=>rw [z] at q;cases q
  | some i=>exact TQ.mpr ⟨(j,i),mem_lv.mpr ⟨b,z⟩,rfl⟩
theorem Ow.perm (o:Ow m ds ow):((lv m ow).map (·.2)).Perm (Ui ds.length):=by
 have r:((lv m ow).map (·.2)).Nodup:=by
  have p:=Ur.mp (Jd m ow)
  unfold XT
  rw [Ur]
  refine p.imp_of_mem fun {a b} l n c e=>?_
  obtain ⟨d,g⟩:=a
  obtain ⟨h,u⟩:=b
  have:=o.inj d h g (mem_lv.mp l).2 (by have:=(mem_lv.mp n).2;rw [this];exact congrArg some e.symm)
  exact Vn _ (this ▸ c)
 refine (List.perm_ext_iff_of_nodup r Yg).mpr fun i=>?_
 rw [Ul]
 constructor
 ·intro q
  obtain ⟨⟨a,i⟩,s,rfl⟩:=TQ.mp q
  exact o.lt a i (mem_lv.mp s).2
 ·intro q
  obtain ⟨j,e⟩:=o.all i q
  exact TQ.mpr ⟨(j,i),mem_lv.mpr ⟨o.le e,e⟩,rfl⟩
theorem Ow.count (o:Ow m ds ow):(lv m ow).length=ds.length:=by
 have:=o.perm.length_eq
 simpa using this
theorem Ow.free (o:Ow m ds ow){b:Nat}:∀ (f n a:Nat),cB m b a=hd m (lp m b n).1 (lp m b n).2->(∀ k',k'<a->(cB m b k').j∈(lv m ow).map (·.1))->(∃ N,n<=N/\N<n+f/\(lp m b N).1∉(lv m ow).map (·.1))->
  ∃ j,Xw m ow f (lp m b n).1 (lp m b n).2=some j/\j<=m/\j∉(lv m ow).map (·.1)/\Reach m ((lv m ow).map (·.1)) b j
 | 0,n,a,_,_,⟨N,h1,h2,_⟩=>by omega
 | f+1,n,a,hk,ht,⟨N,h1,h2,hN⟩=>by
  have v:=Bv m b n
  have l:runEnd m (lp m b n).1<=m:=by unfold runEnd;split<;>omega
  have p:(lp m b n).1<=runEnd m (lp m b n).1:=by unfold runEnd;split<;>omega
  unfold Xw
  cases z:(Ui (runEnd m (lp m b n).1+1 - (lp m b n).1)).find? fun k=>(ow.getD ((lp m b n).1+k) (some 0)).isNone with
  | some r=>
   rw [List.find?_range_eq_some] at z
   obtain ⟨h,s,u⟩:=z
   rw [Ul] at s
   refine ⟨(lp m b n).1+r,rfl,by omega,fun q=>?_,a+r,by rw [pD hk r (by omega)],fun k' c=>?_⟩
   ·rw [o.taken (by omega)] at q
    rw [q] at h;cases h
   ·rcases Wy k' a with y|y
    ·exact ht k' y
    ·obtain ⟨d,rfl⟩:=Z9 y
     rw [pD hk d (by omega)]
     show (lp m b n).1+d∈_
     rw [o.taken (by omega)]
     have:=u d (by omega)
     simpa using this
  | none=>
   rw [List.find?_range_eq_none] at z
   have g:∀ r,r<runEnd m (lp m b n).1+1 - (lp m b n).1->(lp m b n).1+r∈(lv m ow).map (·.1):=fun r i=>by
    rw [o.taken (by omega)]
    have:=z r i
    simpa using this
   have ne:N≠n:=fun e=>hN (by rw [e];exact g 0 (by omega))
   refine Ow.free o f (n+1) _ (IV hk) (fun k' c=>?_) ⟨N,by omega,by omega,hN⟩
   rcases Wy k' a with y|y
   ·exact ht k' y
   ·obtain ⟨d,rfl⟩:=Z9 y
    rw [pD hk d (by omega)]
    exact g d (by omega)
theorem Ow.step (o:Ow m ds ow)(hc:mW m=true)(G:ds.length<=m)(h:Int):∃ j,Xw m ow (turns m) (bits h % (m+1)) (bits h)=some j/\Ow m (ds++[h]) (ow.setIfInBounds j (some ds.length)):=by
 obtain ⟨g,B,u⟩:=IZ (m:=m) (S:=(lv m ow).map (·.1)) (by rw [S6,o.count];exact G)
 obtain ⟨N,K,A⟩:=IY hc (Jb h) B
 obtain ⟨j,e,E,w,H⟩:=o.free (b:=bits h) (turns m) 0 0 rfl (fun l z=>absurd z (WK _)) ⟨N,Uv _,by unfold turns;omega,by rw [A];exact u⟩
 have x:j<ow.size:=by rw [o.size];omega
 have get:∀ k,(ow.setIfInBounds j (some ds.length)).getD k none=if k=j then some ds.length else ow.getD k none:=fun k=>by
  by_cases q:k=j
  ·subst q;simp [WI,x]
  ·rw [if_neg q]
   simp [WI]
   split
   ·rw [Array.getElem_setIfInBounds]
    rw [if_neg (U6 q)]
   ·rfl
 have r:ow.getD j none=none:=by
  cases z:ow.getD j none with
  | none=>rfl
  | some i=>exact absurd (TQ.mpr ⟨(j,i),mem_lv.mpr ⟨E,z⟩,rfl⟩) w
 have p:∀ y,y∈(lv m ow).map (·.1)->y∈(lv m (ow.setIfInBounds j (some ds.length))).map (·.1):=fun y I=>by
  obtain ⟨⟨a,i⟩,q,rfl⟩:=TQ.mp I
  have s:=mem_lv.mp q
  refine TQ.mpr ⟨(a,i),mem_lv.mpr ⟨s.1,?_⟩,rfl⟩
  rw [get,if_neg (fun z=>by rw [z,r] at s;cases s.2)]
  exact s.2
 refine ⟨j,e,⟨by rw [ZY];exact o.size,fun k i b=>?_,fun i v=>?_,fun k l i c d=>?_,fun k i b=>?_⟩⟩
 ·rw [get] at b
  rw [Td,VT]
  by_cases q:k=j
  ·rw [if_pos q] at b;cases b;omega
  ·rw [if_neg q] at b;have:=o.lt k i b;omega
 ·rw [Td,VT] at v
  by_cases q:i=ds.length
  ·exact ⟨j,by rw [get,if_pos rfl,q]⟩
  ·obtain ⟨k,b⟩:=o.all i (by omega)
   exact ⟨k,by rw [get,if_neg (fun z=>by rw [z,r] at b;cases b)];exact b⟩
 ·rw [get] at c d
  by_cases q:k=j
  ·by_cases n:l=j
   ·rw [q,n]
   ·rw [if_pos q] at c;rw [if_neg n] at d
    cases c;exact absurd (o.lt l _ d) (Vn _)
  ·by_cases n:l=j
   ·rw [if_neg q] at c;rw [if_pos n] at d
    cases d;exact absurd (o.lt k _ c) (Vn _)
   ·rw [if_neg q] at c;rw [if_neg n] at d
    exact o.inj k l i c d
 ·rw [get] at b
  by_cases q:k=j
  ·rw [if_pos q] at b;cases b
   rw [q]
   have:(ds++[h]).getD ds.length 0=h:=by simp [Ug]
   rw [this]
   exact H.mono p
  ·rw [if_neg q] at b
   have v:=o.lt k i b
   have:(ds++[h]).getD i 0=ds.getD i 0:=by simp [Ug,Tq v]
   rw [this]
   exact (o.road k i b).mono p
end
theorem Ow.nil (m:Nat):Ow m [] (Zk (m+1) none):=by
 have e:∀ j,(Zk (m+1) (none:Option Nat)).getD j none=none:=fun j=>by
  simp [WI]
 have a:∀ {P:Prop}(j i:Nat),(Zk (m+1) (none:Option Nat)).getD j none=some i->P:=fun j i h=>by
  rw [e] at h;exact nomatch h
 exact ⟨by simp,fun j i h=>a j i h,fun i h=>absurd h (WK _),fun j b i h _=>a j i h,fun j i h=>a j i h⟩
end Tb
end L3
namespace L3
open PySem
open PySem.SetTable (Probe Met Slot bits runEnd leap turns insertAt sizeAbove)
namespace Tb
section
variable {prog:TC}{w:T7}{K:Type} [DecidableEq K] {knd:KeyKind prog w K}{A:TR}{E:S4->S5->Prop}{s:S5}
theorem fits_of {t:Yx}{R:List mX}{es:Array (Int×S4)}(o:Ok t R)(c:es.toList=R.map (·.2)):t.fits es.size=true:=by
 have a:es.size=R.length:=by simpa using congrArg US c
 have b:=o.room
 unfold SetTable.fits SetTable.fill
 rw [o.size,a,o.dum]
 simp;exact b
end
section
variable {prog:TC}{w:T7}{A:TR}{E:S4->S5->Prop}{s:S5}
noncomputable abbrev El:=List Int×Addr
noncomputable def hashT (k:List Int):Int:=reduceHash (a2P (k.map hashInt))
noncomputable def Je (p:El):Int×S4:=(hashT p.1,To p.2)
noncomputable def Msk (m:Nat):Prop:=m=7\/m=31\/m=127\/m=511
theorem Msk.cov {m:Nat}(h:Msk m):mW m=true:=by
 rcases h with rfl|rfl|rfl|rfl<;>decide +kernel
theorem Msk.odd {m:Nat}(h:Msk m):m % 2=1:=by
 rcases h with rfl|rfl|rfl|rfl<;>rfl
noncomputable def vO (w:T7):Bool:=w.params.followText "set-order"
noncomputable def By (a:Bool)(L:List El)(o:VC):Prop:=∃ es ep t R,o.ExactSet/\o.data=.set es ep t/\es.toList=R.map (·.2)/\Ok t R/\es.toList.Perm (L.map Je)/\(L.map (·.1)).Nodup/\Msk t.mask/\L.length * 5<t.mask * 3/\t.plain=true/\t.led=a
noncomputable def SObj (L:List El)(o:VC):Prop:=∃ a,By a L o
noncomputable def G5 (prog:TC)(w:T7)(h:UA)(a:Addr)(L:List El):Prop:=∃ o,h.get? a=some o/\By (!vO w) L o/\∀ p∈L,IsTupleKey (X4 prog w) h p.1 p.2
end
end Tb
end L3
namespace L3
open PySem
namespace Tb
noncomputable def Jf (w:T7)(t:Yx):Nat->Nat
 | 0=>0
 | i+1=>if vO w then 0 else t.place.getD i 0+1
section
variable {prog:TC}{w:T7}{A:TR}{E:S4->S5->Prop}{s:S5}
noncomputable def SIt (w:T7)(h:UA)(I a:Addr)(t:Yx)(i n ep:Nat):Prop:=∃ o,h.get? I=some o/\o.cls=.type "set_iterator"/\o.data=.fields #[WO (Jf w t i),WO i,.ref a,WO n,WO ep]
theorem SIt.ty {I a:Addr}{t:Yx}{i n ep:Nat}(x:SIt w s.heap I a t i n ep):s.TypeIs (.ref I) "set_iterator":=let ⟨o,b,hc,_⟩:=x;⟨o,b,hc⟩
structure SAt (w:T7)(h:UA)(a:Addr)(es:Array (Int×S4))(ep:Nat)(t:Yx)(R:List mX):Prop where
 at_:∃ o,h.get? a=some o/\o.cls=.type "set"/\o.data=.set es ep t
 he:es.toList=R.map (·.2)
 ok:Ok t R
 pl:t.plain=true
 led:t.led = !vO w
theorem SAt.ty {a:Addr}{es:Array (Int×S4)}{ep:Nat}{t:Yx}{R:List mX}(x:SAt w s.heap a es ep t R):s.TypeIs (.ref a) "set":=let ⟨o,b,hc,_⟩:=x.at_;⟨o,b,hc⟩
end
end Tb
end L3
namespace L3
open PySem L2
inductive D where
 | non|bl (b:Bool)|int (i:Int)|str (x:Str)|tup (xs:List D)|rol (xs:List D)|loc (a:Nat)|ty (n:String)
 deriving Inhabited
inductive C where
 | lst (xs:List D)
 | dK (kvs:List (aG×D))
 | st (ks:List (List Int))
 | dT (kvs:List (List Int×D))
 deriving Inhabited
noncomputable abbrev Hm:=List C
noncomputable abbrev aH:=List (Option D)
noncomputable abbrev ME:=aH->Hm->Option (D×Hm)
noncomputable abbrev MT:=aH->Hm->Option (Bool×Hm)
noncomputable abbrev MA:=aH->Hm->Option (List D×Hm)
inductive Fl where
 | nx|rt (d:D)|bk|ct
noncomputable abbrev MS:=aH->Hm->Option (Fl×aH×Hm)
noncomputable abbrev MF:=List D->Hm->Option (D×Hm)
noncomputable def RoL (K:S1)(H:Hp)(p:Addr)(xs:List V):Prop:=
 (∃ o,H p=some (.frz o (.lst xs))) \/
  ∃ (o:VC)(a:Array S4)(n:Nat),K.lookup p=some o/\o.cls=.type "list"/\o.dict=none/\o.data=.seq a n/\a.size<=Tj/\Vals xs a.toList
theorem RoL.sq {K:S1}{H:Hp}{p:Addr}{xs:List V}(h:RoL K H p xs):SqL K H p xs:=by
 rcases h with ⟨o,h⟩|h
 ·exact .inl (.inr ⟨o,h⟩)
 ·exact .inr h
mutual
inductive IsD (K:S1)(π:Nat->Addr)(n:Nat)(H:Hp):V->D->Prop where
 | non:IsD K π n H .non .non
 | bl (b:Bool):IsD K π n H (.bl b) (.bl b)
 | int (i:Int):IsD K π n H (.int i) (.int i)
 | str (x:Str):IsD K π n H (.str x) (.str x)
 | tup {p:Addr}{vs:List V}{ds:List D}(h:SqT K H p vs)(t:IsDs K π n H vs ds):IsD K π n H (.ref p) (.tup ds)
 | rol {p:Addr}{vs:List V}{ds:List D}(h:RoL K H p vs)(t:IsDs K π n H vs ds):IsD K π n H (.ref p) (.rol ds)
 | loc {a:Nat}(h:a<n):IsD K π n H (.ref (π a)) (.loc a)
 | ty (x:String):IsD K π n H (.ty x) (.ty x)
inductive IsDs (K:S1)(π:Nat->Addr)(n:Nat)(H:Hp):List V->List D->Prop where
 | nil:IsDs K π n H [] []
 | cons {v:V}{d:D}{vs:List V}{ds:List D}(h:IsD K π n H v d)(t:IsDs K π n H vs ds):IsDs K π n H (v::vs) (d::ds)
end
structure Ext (π:Nat->Addr)(n:Nat)(H:Hp)(π':Nat->Addr)(n':Nat)(H':Hp):Prop where
 le:n<=n'
 pi:∀ a,a<n->π' a=π a
 tup:∀ p vs,H p=some (.tup vs)->H' p=some (.tup vs)
 frz:∀ p o u,H p=some (.frz o u)->H' p=some (.frz o u)
structure Ext0 (π:Nat->Addr)(n:Nat)(H:Hp)(π':Nat->Addr)(n':Nat)(H':Hp):Prop where
 le:n<=n'
 pi:∀ a,a<n->π' a=π a
 tup:∀ p vs,H p=some (.tup vs)->H' p=some (.tup vs)
 frz:∀ p o u,(∀ φ,u≠HO.ext φ)->H p=some (.frz o u)->H' p=some (.frz o u)
section
variable {K:S1}{π π' π2:Nat->Addr}{n n' n2:Nat}{H H' H2:Hp}
theorem Ext.weak (e:Ext π n H π' n' H'):Ext0 π n H π' n' H':=⟨e.le,e.pi,e.tup,fun p o u _ h=>e.frz p o u h⟩
theorem Ext.refl:Ext π n H π n H:=⟨Th _,fun _ _=>rfl,fun _ _ h=>h,fun _ _ _ h=>h⟩
theorem Ext.trans (a:Ext π n H π' n' H')(b:Ext π' n' H' π2 n2 H2):Ext π n H π2 n2 H2:=
 ⟨T8 a.le b.le,fun i h=>(b.pi i (T1 h a.le)).trans (a.pi i h),fun p c h=>b.tup p c (a.tup p c h),fun p o u h=>b.frz p o u (a.frz p o u h)⟩
theorem Ext0.sqT (e:Ext0 π n H π' n' H'){p:Addr}{vs:List V}(h:SqT K H p vs):SqT K H' p vs:=by
 rcases h with h|h
 ·rcases h with h|⟨o,h⟩
  ·exact .inl (.inl (e.tup _ _ h))
  ·exact .inl (.inr ⟨o,e.frz _ _ _ (fun _ z=>nomatch z) h⟩)
 ·exact .inr h
theorem Ext.sqT (e:Ext π n H π' n' H'){p:Addr}{vs:List V}(h:SqT K H p vs):SqT K H' p vs:=e.weak.sqT h
theorem Ext0.roL (e:Ext0 π n H π' n' H'){p:Addr}{vs:List V}(h:RoL K H p vs):RoL K H' p vs:=by
 rcases h with ⟨o,h⟩|h
 ·exact .inl ⟨o,e.frz _ _ _ (fun _ z=>nomatch z) h⟩
 ·exact .inr h
theorem Ext.roL (e:Ext π n H π' n' H'){p:Addr}{vs:List V}(h:RoL K H p vs):RoL K H' p vs:=e.weak.roL h
mutual
theorem IsD.mono0 {v:V}{d:D}(e:Ext0 π n H π' n' H'):IsD K π n H v d->IsD K π' n' H' v d
 | .non=>.non
 | .bl b=>.bl b
 | .int i=>.int i
 | .str x=>.str x
 | .ty x=>.ty x
 | .tup h t=>.tup (e.sqT h) (IsDs.mono0 e t)
 | .rol h t=>.rol (e.roL h) (IsDs.mono0 e t)
 | .loc h=>by
  rw [<- e.pi _ h]
  exact .loc (T1 h e.le)
theorem IsDs.mono0 {vs:List V}{ds:List D}(e:Ext0 π n H π' n' H'):IsDs K π n H vs ds->IsDs K π' n' H' vs ds
 | .nil=>.nil
 | .cons h t=>.cons (IsD.mono0 e h) (IsDs.mono0 e t)
end
theorem IsD.mono {v:V}{d:D}(e:Ext π n H π' n' H')(h:IsD K π n H v d):IsD K π' n' H' v d:=h.mono0 e.weak
theorem IsDs.mono {vs:List V}{ds:List D}(e:Ext π n H π' n' H')(h:IsDs K π n H vs ds):IsDs K π' n' H' vs ds:=h.mono0 e.weak
theorem IsDs.length {vs:List V}{ds:List D}(h:IsDs K π n H vs ds):vs.length=ds.length:=by
 induction ds generalizing vs with
 | nil=>cases h;rfl
 | cons d ds a=>
  cases h with
  | cons h t=>rw [TF,TF,a t]
theorem IsDs.get {vs:List V}{ds:List D}(h:IsDs K π n H vs ds){i:Nat}{d:D}(e:ds[i]? = some d):∃ v,vs[i]? = some v/\IsD K π n H v d:=by
 induction ds generalizing vs i with
 | nil=>simp at e
 | cons g ds c=>
  cases h with
  | cons h t=>
   cases i with
   | zero=>
    simp at e
    subst e
    exact ⟨_,rfl,h⟩
   | succ i=>
    obtain ⟨v,a,b⟩:=c t (by simpa using e)
    exact ⟨v,by simpa using a,b⟩
theorem IsDs.append {vs ws:List V}{ds es:List D}(h:IsDs K π n H vs ds)(a:IsDs K π n H ws es):IsDs K π n H (vs++ws) (ds++es):=by
 induction ds generalizing vs with
 | nil=>cases h;exact a
 | cons d ds b=>
  cases h with
  | cons h t=>exact .cons h (b t)
theorem IsDs.drop {vs:List V}{ds:List D}(h:IsDs K π n H vs ds)(k:Nat):IsDs K π n H (vs.drop k) (ds.drop k):=by
 induction ds generalizing vs k with
 | nil=>cases h;simpa using IsDs.nil
 | cons d ds a=>
  cases h with
  | cons h t=>
   cases k with
   | zero=>exact .cons h t
   | succ k=>exact a t k
theorem IsDs.take {vs:List V}{ds:List D}(h:IsDs K π n H vs ds)(k:Nat):IsDs K π n H (vs.take k) (ds.take k):=by
 induction ds generalizing vs k with
 | nil=>cases h;simpa using IsDs.nil
 | cons d ds a=>
  cases h with
  | cons h t=>
   cases k with
   | zero=>exact .nil
   | succ k=>exact .cons h (a t k)
theorem IsDs.atI {vs:List V}{ds:List D}(h:IsDs K π n H vs ds){i:Int}{d:D}(e:L2.atI ds i=some d):∃ v,L2.atI vs i=some v/\IsD K π n H v d:=by
 unfold L2.atI at e ⊢
 rw [h.length]
 cases q:lG ds.length i with
 | none=>rw [q] at e;cases e
 | some j=>
  rw [q] at e
  exact h.get e
end
noncomputable def rK (p:Addr)(L:List Tb.El):HO:=.ext fun h=>∃ o,h.get? p=some o/\Tb.SObj L o
noncomputable def Bz (p:List Int×Addr×V)(w:S4):UD:=⟨Tb.hashT p.1,.ref p.2.1,w⟩
noncomputable def bE (a:Addr)(ps:List (List Int×Addr×V)):HO:=.ext fun h=>∃ ws:List S4,Vals (ps.map (·.2.2)) ws/\(a == U0)=false/\ps.length<=Tj /\
 ∃ o b c,h.get? a=some o/\o.ExactDict/\o.data=.dict b c/\b.toList=a0a Bz ps ws/\(ps.map (·.1)).Nodup
structure Rp (K:S1)(π:Nat->Addr)(H:Hp)(μ:Hm):Prop where
 inj:∀ a b,a<μ.length->b<μ.length->π a=π b->a=b
 has:∀ a,a<μ.length->(H (π a)).isSome=true
 lst:∀ a xs,μ[a]? = some (.lst xs)->∃ vs,H (π a)=some (.lst vs)/\IsDs K π μ.length H vs xs
 dK:∀ a kvs,μ[a]? = some (.dK kvs)->∃ vs,H (π a)=some (.dK vs)/\vs.map (·.1)=kvs.map (·.1)/\IsDs K π μ.length H (vs.map (·.2)) (kvs.map (·.2))
 st:∀ a ks,μ[a]? = some (.st ks)->∃ L:List Tb.El,H (π a)=some (rK (π a) L)/\L.map (·.1)=ks/\IsDs K π μ.length H (L.map fun p=>V.ref p.2) (ks.map fun k=>D.tup (k.map D.int))
 dT:∀ a kvs,μ[a]? = some (.dT kvs)->∃ ps:List (List Int×Addr×V),H (π a)=some (bE (π a) ps)/\ps.map (·.1)=kvs.map (·.1)/\IsDs K π μ.length H (ps.map fun p=>V.ref p.2.1) (kvs.map fun k=>D.tup (k.1.map D.int))/\IsDs K π μ.length H (ps.map (·.2.2)) (kvs.map (·.2))
structure En (K:S1)(π:Nat->Addr)(n:Nat)(H:Hp)(σ:St)(ρ:aH):Prop where
 len:σ.length=ρ.length
 get:∀ (i:Nat)(d:D),ρ[i]? = some (some d)->∃ v,σ[i]? = some (some v)/\IsD K π n H v d
section
variable {K:S1}{π π' π2:Nat->Addr}{n n' n2:Nat}{H H' H2:Hp}{μ μ':Hm}{σ:St}{ρ:aH}
theorem En.mono (E:En K π n H σ ρ)(e:Ext π n H π' n' H'):En K π' n' H' σ ρ:=
 ⟨E.len,fun i d h=>let ⟨v,a,b⟩:=E.get i d h;⟨v,a,b.mono e⟩⟩
theorem En.set (E:En K π n H σ ρ){v:V}{d:D}(h:IsD K π n H v d)(i:Nat):En K π n H (σ.set i (some v)) (ρ.set i (some d)):=by
 refine ⟨by rw [Wc,Wc];exact E.len,fun j c e=>?_⟩
 rw [List.getElem?_set] at e ⊢
 by_cases a:i=j
 ·subst a
  rw [if_pos rfl] at e ⊢
  rw [E.len]
  by_cases b:i<ρ.length
  ·rw [if_pos b] at e ⊢
   cases e
   exact ⟨v,rfl,h⟩
  ·rw [if_neg b] at e
   cases e
 ·rw [if_neg a] at e ⊢
  exact E.get j c e
theorem Rp.ne {p:Addr}(R:Rp K π H μ)(h:H p=none){a:Nat}(b:a<μ.length):π a≠p:=fun e=>by
 have:=R.has a b
 rw [e,h] at this
 cases this
theorem Rp.fresh {p:Addr}{o:HO}(R:Rp K π H μ)(h:H p=none):Ext π μ.length H π μ.length (aN H p o)/\Rp K π (aN H p o) μ:=by
 have c:∀ b u,H b=some u->aN H p o b=some u:=fun b u e=>by
  rw [bS (lC e h)]
  exact e
 have e:Ext π μ.length H π μ.length (aN H p o):=⟨Th _,fun _ _=>rfl,fun q g e=>c q _ e,fun q o u e=>c q _ e⟩
 refine ⟨e,R.inj,fun a d=>?_,fun a v d=>?_,fun a l d=>?_,fun a s d=>?_
  ,fun a l d=>?_
  ⟩
 ·rw [bS (R.ne h d)]
  exact R.has a d
 ·obtain ⟨g,i,j⟩:=R.lst a v d
  exact ⟨g,c _ _ i,j.mono e⟩
 ·obtain ⟨g,i,j,m⟩:=R.dK a l d
  exact ⟨g,c _ _ i,j,m.mono e⟩
 ·obtain ⟨g,i,j,m⟩:=R.st a s d
  exact ⟨g,c _ _ i,j,m.mono e⟩
 ·obtain ⟨g,i,j,m,r⟩:=R.dT a l d
  exact ⟨g,c _ _ i,j,m.mono e,r.mono e⟩
noncomputable def vP (K:S1)(π:Nat->Addr)(n:Nat)(H:Hp)(p:Addr):C->HO->Prop
 | .lst xs,.lst vs=>IsDs K π n H vs xs
 | .dK kvs,.dK vs=>vs.map (·.1)=kvs.map (·.1)/\IsDs K π n H (vs.map (·.2)) (kvs.map (·.2))
 | .st ks,o=>∃ L:List Tb.El,o=rK p L/\L.map (·.1)=ks/\IsDs K π n H (L.map fun p=>V.ref p.2) (ks.map fun k=>D.tup (k.map D.int))
 | .dT kvs,o=>∃ a:List (List Int×Addr×V),o=bE p a/\a.map (·.1)=kvs.map (·.1)/\IsDs K π n H (a.map fun p=>V.ref p.2.1) (kvs.map fun k=>D.tup (k.1.map D.int))/\IsDs K π n H (a.map (·.2.2)) (kvs.map (·.2))
 | _,_=>False
noncomputable def fU (π:Nat->Addr)(n:Nat)(p:Addr):Nat->Addr:=fun a=>if a=n then p else π a
theorem Rp.alloc {p:Addr}{c:C}{o:HO}(R:Rp K π H μ)(h:H p=none)(hc:vP K π μ.length H p c o) :
  Ext π μ.length H (fU π μ.length p) (μ++[c]).length (aN H p o)/\Rp K (fU π μ.length p) (aN H p o) (μ++[c])/\fU π μ.length p μ.length=p:=by
 have B:(μ++[c]).length=μ.length+1:=by simp
 have g:∀ b u,H b=some u->aN H p o b=some u:=fun b u e=>by
  rw [bS (lC e h)]
  exact e
 have w:fU π μ.length p μ.length=p:=if_pos rfl
 have s:∀ a,a<μ.length->fU π μ.length p a=π a:=fun a d=>if_neg (TJ d)
 have e:Ext π μ.length H (fU π μ.length p) (μ++[c]).length (aN H p o):=⟨by rw [B];exact YF _,s,fun q l e=>g q _ e,fun q o u e=>g q _ e⟩
 have split:∀ a,a<(μ++[c]).length->a<μ.length\/a=μ.length:=fun a d=>by rw [B] at d;omega
 have get:∀ a,a<μ.length->(μ++[c])[a]? = μ[a]?:=fun a d=>Tq d
 have j:(μ++[c])[μ.length]? = some c:=by simp
 refine ⟨e,⟨fun a b d z q=>?_,fun a d=>?_,fun a G d=>?_,fun a y d=>?_,fun a E d=>?_
  ,fun a y d=>?_
  ⟩,w⟩
 ·rcases split a d with d|rfl<;>rcases split b z with z|rfl
  ·rw [s a d,s b z] at q
   exact R.inj a b d z q
  ·rw [s a d,w] at q
   exact absurd q (R.ne h d)
  ·rw [w,s b z] at q
   exact absurd q.symm (R.ne h z)
  ·rfl
 ·rcases split a d with d|rfl
  ·rw [s a d,bS (R.ne h d)]
   exact R.has a d
  ·rw [w,cV]
   rfl
 ·have i:a<(μ++[c]).length:=(S2.mp d).1
  rcases split a i with m|rfl
  ·rw [get a m] at d
   obtain ⟨l,x,r⟩:=R.lst a G d
   rw [s a m]
   exact ⟨l,g _ _ x,r.mono e⟩
  ·rw [j] at d
   cases d
   cases o with
   | lst l=>
    rw [w]
    exact ⟨l,cV,IsDs.mono e hc⟩
   | _=>exact VB hc
 ·have i:a<(μ++[c]).length:=(S2.mp d).1
  rcases split a i with m|rfl
  ·rw [get a m] at d
   obtain ⟨l,x,r,v⟩:=R.dK a y d
   rw [s a m]
   exact ⟨l,g _ _ x,r,v.mono e⟩
  ·rw [j] at d
   cases d
   cases o with
   | dK l=>
    rw [w]
    exact ⟨l,cV,hc.1,IsDs.mono e hc.2⟩
   | _=>exact VB hc
 ·have i:a<(μ++[c]).length:=(S2.mp d).1
  rcases split a i with m|rfl
  ·rw [get a m] at d
   obtain ⟨l,x,r,v⟩:=R.st a E d
   rw [s a m]
   exact ⟨l,g _ _ x,r,v.mono e⟩
  ·rw [j] at d
   cases d
   obtain ⟨L,rfl,r,v⟩:=hc
   rw [w]
   exact ⟨L,cV,r,v.mono e⟩
 ·have i:a<(μ++[c]).length:=(S2.mp d).1
  rcases split a i with m|rfl
  ·rw [get a m] at d
   obtain ⟨l,x,r,v,A⟩:=R.dT a y d
   rw [s a m]
   exact ⟨l,g _ _ x,r,v.mono e,A.mono e⟩
  ·rw [j] at d
   cases d
   obtain ⟨L,rfl,r,v,A⟩:=hc
   rw [w]
   exact ⟨L,cV,r,v.mono e,A.mono e⟩
theorem Rp.put0 {a:Nat}{c:C}{o u:HO}(R:Rp K π H μ)(I:a<μ.length)(B:H (π a)=some u)(E:(∃ vs,u=.lst vs)\/(∃ vs,u=.dK vs)\/(∃ A,u=.ext A)\/∃ y A,u=.frz y (.ext A))(hc:vP K π μ.length H (π a) c o) :
  Ext0 π μ.length H π (μ.set a c).length (aN H (π a) o)/\Rp K π (aN H (π a) o) (μ.set a c):=by
 have m:(μ.set a c).length=μ.length:=Wc ..
 have e:Ext0 π μ.length H π (μ.set a c).length (aN H (π a) o):=by
  refine ⟨Y8 m.symm,fun _ _=>rfl,fun q vs z=>?_,fun q O Q nx z=>?_⟩
  ·rw [bS]
   ·exact z
   ·intro e
    subst e
    rw [B] at z
    rcases E with ⟨w,rfl⟩|⟨w,rfl⟩|⟨w,rfl⟩|⟨y,w,rfl⟩<;>cases z
  ·rw [bS]
   ·exact z
   ·intro e
    subst e
    rw [B] at z
    rcases E with ⟨w,rfl⟩|⟨w,rfl⟩|⟨w,rfl⟩|⟨y,w,rfl⟩<;>cases z
    exact nx _ rfl
 have i:∀ b,b<μ.length->b≠a->aN H (π a) o (π b)=H (π b):=fun b d x=>bS fun q=>x (R.inj b a d I q)
 refine ⟨e,⟨fun b G d v=>R.inj b G (m ▸ d) (m ▸ v),fun b d=>?_,fun b N d=>?_,fun b r d=>?_,fun b M d=>?_
  ,fun b r d=>?_
  ⟩⟩
 ·by_cases h:b=a
  ·subst h
   rw [cV]
   rfl
  ·rw [i b (m ▸ d) h]
   exact R.has b (m ▸ d)
 ·have g:b<μ.length:=m ▸ (S2.mp d).1
  by_cases h:b=a
  ·subst h
   rw [Uw g] at d
   cases d
   cases o with
   | lst vs=>exact ⟨vs,cV,IsDs.mono0 e hc⟩
   | _=>exact VB hc
  ·rw [UI (U6 h)] at d
   obtain ⟨vs,p,j⟩:=R.lst b N d
   exact ⟨vs,by rw [i b g h];exact p,j.mono0 e⟩
 ·have g:b<μ.length:=m ▸ (S2.mp d).1
  by_cases h:b=a
  ·subst h
   rw [Uw g] at d
   cases d
   cases o with
   | dK vs=>exact ⟨vs,cV,hc.1,IsDs.mono0 e hc.2⟩
   | _=>exact VB hc
  ·rw [UI (U6 h)] at d
   obtain ⟨vs,p,j,l⟩:=R.dK b r d
   exact ⟨vs,by rw [i b g h];exact p,j,l.mono0 e⟩
 ·have g:b<μ.length:=m ▸ (S2.mp d).1
  by_cases h:b=a
  ·subst h
   rw [Uw g] at d
   cases d
   obtain ⟨L,rfl,j,l⟩:=hc
   exact ⟨L,cV,j,l.mono0 e⟩
  ·rw [UI (U6 h)] at d
   obtain ⟨vs,p,j,l⟩:=R.st b M d
   exact ⟨vs,by rw [i b g h];exact p,j,l.mono0 e⟩
 ·have g:b<μ.length:=m ▸ (S2.mp d).1
  by_cases h:b=a
  ·subst h
   rw [Uw g] at d
   cases d
   obtain ⟨L,rfl,j,l,s⟩:=hc
   exact ⟨L,cV,j,l.mono0 e,s.mono0 e⟩
  ·rw [UI (U6 h)] at d
   obtain ⟨vs,p,j,l,s⟩:=R.dT b r d
   exact ⟨vs,by rw [i b g h];exact p,j,l.mono0 e,s.mono0 e⟩
theorem Rp.put {a:Nat}{c:C}{o u:HO}(R:Rp K π H μ)(g:a<μ.length)(b:H (π a)=some u)(d:(∃ vs,u=.lst vs)\/(∃ vs,u=.dK vs)\/∃ j,u=.ext j)(hc:vP K π μ.length H (π a) c o) :
  Ext π μ.length H π (μ.set a c).length (aN H (π a) o)/\Rp K π (aN H (π a) o) (μ.set a c):=by
 have i:(μ.set a c).length=μ.length:=Wc ..
 have e:Ext π μ.length H π (μ.set a c).length (aN H (π a) o):=by
  refine ⟨Y8 i.symm,fun _ _=>rfl,fun q vs z=>?_,fun q l m z=>?_⟩
  ·rw [bS]
   ·exact z
   ·intro e
    subst e
    rw [b] at z
    rcases d with ⟨w,rfl⟩|⟨w,rfl⟩|⟨w,rfl⟩<;>cases z
  ·rw [bS]
   ·exact z
   ·intro e
    subst e
    rw [b] at z
    rcases d with ⟨w,rfl⟩|⟨w,rfl⟩|⟨w,rfl⟩<;>cases z
 exact ⟨e,(R.put0 g b (d.imp_right fun h=>h.imp_right .inl) hc).2⟩
end
noncomputable def KC (K:S1)(Q:VK)(π:Nat->Addr)(n:Nat)(H:Hp)(d:D)(a:Hm):Prop:=
 ∀ b v c,Ext π n H b a.length c->Rp K b c a->IsD K b a.length c v d->Q v c
theorem KC.after {K:S1}{Q:VK}{π b:Nat->Addr}{n h:Nat}{H g:Hp}{d:D}{a:Hm}(k:KC K Q π n H d a)(e:Ext π n H b h g):KC K Q b h g d a:=
 fun c v j l R i=>k c v j (e.trans l) R i
noncomputable def tM (K:S1)(m:ME):TE:=fun σ H Q=>∃ π ρ b d a,Rp K π H b/\En K π b.length H σ ρ/\m ρ b=some (d,a)/\KC K Q π b.length H d a
noncomputable def cP (K:S1)(m:MT):TT:=fun σ H Q=>∃ π ρ d b a,Rp K π H d/\En K π d.length H σ ρ/\m ρ d=some (b,a)/\∀ c e,Ext π d.length H c a.length e->Rp K c e a->Q b e
noncomputable def d5 (K:S1)(m:MA):TA:=fun σ H Q=>∃ π ρ d ds a,Rp K π H d/\En K π d.length H σ ρ/\m ρ d=some (ds,a)/\∀ b vs c,Ext π d.length H b a.length c->Rp K b c a->IsDs K b a.length c vs ds->Q vs c
noncomputable def lJ (K:S1)(E:Ends)(π:Nat->Addr)(n:Nat)(H:Hp)(h:Fl)(g:aH)(b:Hm):Prop:=
 match h with
 | .nx=>∀ a c e,Ext π n H a b.length e->Rp K a e b->En K a b.length e c g->E.nx c e
 | .bk=>∀ a c e,Ext π n H a b.length e->Rp K a e b->En K a b.length e c g->E.bk c e
 | .ct=>∀ a c e,Ext π n H a b.length e->Rp K a e b->En K a b.length e c g->E.ct c e
 | .rt d=>KC K E.rt π n H d b
noncomputable def cR (K:S1)(m:MS):TS:=fun E σ H=>∃ π ρ c d b a,Rp K π H c/\En K π c.length H σ ρ/\m ρ c=some (d,b,a)/\lJ K E π c.length H d b a
noncomputable def iH (K:S1)(k:Nat)(f:MF):Sp:=fun vs H Q _=>vs.length=k/\∃ π ds b d a,Rp K π H b/\IsDs K π b.length H vs ds/\f ds b=some (d,a)/\KC K Q π b.length H d a
section
variable {X:Cx}{e a b c:Expr}{t:TE}{m ma mb mc:ME}{pos:Vc}
theorem cD (h:PE X e t)(hw:∀ σ H Q,tM X.K m σ H Q->t σ H Q):PE X e (tM X.K m):=fun a3L s σ H Q I q=>h a3L s σ H Q I (hw σ H Q q)
theorem rL {t:TT}{m:MT}(h:PT X e t)(hw:∀ σ H Q,cP X.K m σ H Q->t σ H Q):PT X e (cP X.K m):=fun a3L s σ H Q I q=>h a3L s σ H Q I (hw σ H Q q)
theorem BA {t:TT}{m:MT}(h:PW X e t)(hw:∀ σ H Q,cP X.K m σ H Q->t σ H Q):PW X e (cP X.K m):=fun d a3L s σ H Q I q=>h d a3L s σ H Q I (hw σ H Q q)
theorem BB {es:List Expr}{t:TA}{m:MA}(h:PA X es t)(hw:∀ σ H Q,d5 X.K m σ H Q->t σ H Q):PA X es (d5 X.K m):=fun p a3L s σ H Q I q=>h p a3L s σ H Q I (hw σ H Q q)
theorem iI {st:Stmt}{t:TS}{m:MS}(h:PS X st t)(hw:∀ E σ H,cR X.K m E σ H->t E σ H):PS X st (cR X.K m):=fun a3L s σ H E I q=>h a3L s σ H E I (hw E σ H q)
theorem BC {st:List Stmt}{t:TS}{m:MS}(h:PSs X st t)(hw:∀ E σ H,cR X.K m E σ H->t E σ H):PSs X st (cR X.K m):=fun a3L s σ H E I q=>h a3L s σ H E I (hw E σ H q)
noncomputable def aA (i:Nat):ME:=fun ρ g=>match ρ[i]? with|some (some d)=>some (d,g)|_=>none
noncomputable def mC (d:D):ME:=fun _ g=>some (d,g)
theorem Jg {i:Nat}{ρ:aH}{j g:Hm}{d:D}(h:aA i ρ j=some (d,g)):ρ[i]? = some (some d)/\g=j:=by
 unfold aA at h
 split at h
 ·rename_i l e
  cases h
  exact ⟨e,rfl⟩
 ·cases h
theorem Jh {x:Str}(i:Nat)(h:PE X (.Name x pos) (Ay i)):PE X (.Name x pos) (tM X.K (aA i)):=cD h (by
 rintro s H Q ⟨p,r,q,d,o,R,E,n,k⟩
 obtain ⟨g,rfl⟩:=Jg n
 obtain ⟨v,j,l⟩:=E.get i d g
 exact ⟨v,j,k p v H .refl R l⟩)
theorem mY {v:V}{d:D}(h:PE X e (tC v))(hd:∀ π n H,IsD X.K π n H v d):PE X e (tM X.K (mC d)):=cD h (by
 rintro p H Q ⟨π,o,l,j,i,R,E,g,k⟩
 cases g
 exact k π v H .refl R (hd _ _ _))
theorem Ji {i:Int}{j:Nat}:PE X (.Constant (.int i) j pos) (tM X.K (mC (.int i))):=mY Gn fun _ _ _=>.int i
theorem Jj {i:Bool}{j:Nat}:PE X (.Constant (.bool i) j pos) (tM X.K (mC (.bl i))):=mY Gp fun _ _ _=>.bl i
theorem Jk {i:Str}{j:Nat}:PE X (.Constant (.str i) j pos) (tM X.K (mC (.str i))):=mY Gr fun _ _ _=>.str i
theorem Jl {j:Nat}:PE X (.Constant .none j pos) (tM X.K (mC .non)):=mY Gq fun _ _ _=>.non
noncomputable def aB (f:D->D->Hm->Option (D×Hm))(a b:ME):ME:=fun ρ d=>(a ρ d).bind fun p=>(b ρ p.2).bind fun q=>f p.1 q.1 q.2
noncomputable def cL (K:S1)(f:D->D->Hm->Option (D×Hm))(r:R2):Prop:=
 ∀ i H g x y d h j l Q,Rp K i H g->IsD K i g.length H j x->IsD K i g.length H l y->f x y g=some (d,h)->KC K Q i g.length H d h->r j l H Q
theorem mZ {f:D->D->Hm->Option (D×Hm)}{r:R2}{K:S1}(z:cL K f r):∀ σ H Q,tM K (aB f ma mb) σ H Q->oZ r (tM K ma) (tM K mb) σ H Q:=by
 rintro σ H Q ⟨M,q,L,d,j,R,E,g,k⟩
 obtain ⟨⟨x,h⟩,v,g⟩:=S0.mp g
 obtain ⟨⟨y,i⟩,w,g⟩:=S0.mp g
 exact ⟨M,q,L,x,h,R,E,v,fun l G N o u A=>⟨l,q,h,y,i,u,E.mono o,w,fun n I s p R2 B=>z n s i x y d j G I Q R2 (A.mono p) B g (k.after (o.trans p))⟩⟩
theorem Jm {op:a0k}{r:R2}{f:D->D->Hm->Option (D×Hm)}(i:OpR X (WT op) r)(h:cL X.K f r)(d:PE X a (tM X.K ma))(g:PE X b (tM X.K mb)):PE X (.BinOp a op b pos) (tM X.K (aB f ma mb)):=
 cD (Hr i d g) (mZ h)
theorem d6 {op:XF}{r:R2}{f:D->D->Hm->Option (D×Hm)}(j:OpR X (UC op) r)(h:cL X.K f r)(d:PE X a (tM X.K ma))(g:PE X b (tM X.K mb))(i:Wq op b=false):PE X (.Compare a [op] [b] pos) (tM X.K (aB f ma mb)):=
 cD (Hw j d g i) (mZ h)
noncomputable def aW (m:ME):MT:=fun ρ d=>(m ρ d).bind fun p=>match p.1 with|.bl b=>some (b,p.2)|_=>none
theorem BE {K:S1}:∀ σ H Q,cP K (aW m) σ H Q->tM K m σ H fun x g=>∃ k,x=.bl k/\Q k g:=by
 rintro σ H Q ⟨r,s,o,b,p,R,E,d,k⟩
 obtain ⟨⟨x,q⟩,l,d⟩:=S0.mp d
 cases x with
 | bl c=>
  cases d
  refine ⟨r,s,o,_,_,R,E,l,fun h v g j i n=>?_⟩
  cases n
  exact ⟨_,rfl,k h g j i⟩
 | _=>cases d
theorem d7 {op:XF}{r:R2}{f:D->D->Hm->Option (D×Hm)}(n:OpR X (UC op) r)(j:cL X.K f r)(g:PE X a (tM X.K ma))(i:PE X b (tM X.K mb))(l:Wq op b=false):PT X (.Compare a [op] [b] pos) (cP X.K (aW (aB f ma mb))):=
 rL (Hx n g i l) fun d H Q h=>mZ j d H _ (BE d H Q h)
end
end L3
namespace L3
open PySem L2
section
variable {X:Cx}{e a b c:Expr}{m ma mb mc:ME}{pos:Vc}{mt mu:MT}{rest:List Expr}
noncomputable def gO (a b:MT):MT:=fun ρ d=>(a ρ d).bind fun p=>match p.1 with|true=>b ρ p.2|false=>some (false,p.2)
noncomputable def gP (a b:MT):MT:=fun ρ d=>(a ρ d).bind fun p=>match p.1 with|true=>some (true,p.2)|false=>b ρ p.2
noncomputable def dO (a:MT):MT:=fun ρ d=>(a ρ d).map fun p=>(!p.1,p.2)
theorem Jn (d:PT X a (cP X.K mt)):PW X (.BoolOp .And [a] pos) (cP X.K mt):=Gy d
theorem Jo (d:PT X a (cP X.K mt)):PW X (.BoolOp .Or [a] pos) (cP X.K mt):=Gz d
theorem Jp (v:PT X a (cP X.K mt))(w:PW X (.BoolOp .And (b::rest) pos) (cP X.K mu)):PW X (.BoolOp .And (a::b::rest) pos) (cP X.K (gO mt mu)):=BA (GA v w) (by
 rintro A H Q ⟨z,p,y,d,l,R,E,i,k⟩
 obtain ⟨⟨x,g⟩,u,i⟩:=S0.mp i
 refine ⟨z,p,y,x,g,R,E,u,fun h q j o=>?_⟩
 cases x with
 | true=>
  refine jY ?_
  exact ⟨h,p,g,d,l,o,E.mono j,i,fun n r s R2=>k n r (j.trans s) R2⟩
 | false=>
  refine jX ?_
  cases i
  exact k h q j o)
theorem Jq (v:PT X a (cP X.K mt))(w:PW X (.BoolOp .Or (b::rest) pos) (cP X.K mu)):PW X (.BoolOp .Or (a::b::rest) pos) (cP X.K (gP mt mu)):=BA (GB v w) (by
 rintro A H Q ⟨z,p,y,d,l,R,E,i,k⟩
 obtain ⟨⟨x,g⟩,u,i⟩:=S0.mp i
 refine ⟨z,p,y,x,g,R,E,u,fun h q j o=>?_⟩
 cases x with
 | true=>
  refine jY ?_
  cases i
  exact k h q j o
 | false=>
  refine jX ?_
  exact ⟨h,p,g,d,l,o,E.mono j,i,fun n r s R2=>k n r (j.trans s) R2⟩)
theorem Jr (p:PT X a (cP X.K mt)):PT X (.UnaryOp .Not a pos) (cP X.K (dO mt)):=rL (GC p) (by
 rintro v H Q ⟨s,u,q,d,r,R,E,g,k⟩
 obtain ⟨⟨x,h⟩,o,g⟩:=S8.mp g
 cases g
 exact ⟨s,u,q,x,h,R,E,o,fun i j n l=>k i j n l⟩)
noncomputable def cS (a b:ME):ME:=fun ρ d=>(a ρ d).bind fun p=>match p.1 with|.bl true=>b ρ p.2|.bl false=>some (.bl false,p.2)|_=>none
noncomputable def vQ (a b:ME):ME:=fun ρ d=>(a ρ d).bind fun p=>match p.1 with|.bl true=>some (.bl true,p.2)|.bl false=>b ρ p.2|_=>none
noncomputable def lM (a:ME):ME:=fun ρ d=>(a ρ d).bind fun p=>match p.1 with|.bl b=>some (.bl (!b),p.2)|_=>none
theorem Js {op:BoolOp}(h:PE X a (tM X.K m)):PE X (.BoolOp op [a] pos) (tM X.K m):=GH h
theorem Jt (r:PE X a (tM X.K ma))(s:PE X (.BoolOp .And (b::rest) pos) (tM X.K mb)):PE X (.BoolOp .And (a::b::rest) pos) (tM X.K (cS ma mb)):=cD (GI r s) (by
 rintro z H Q ⟨w,o,v,d,l,R,E,g,k⟩
 obtain ⟨⟨x,h⟩,q,g⟩:=S0.mp g
 cases x with
 | bl c=>
  refine ⟨w,o,v,.bl c,h,R,E,q,fun i y p j n u=>?_⟩
  cases u
  refine ⟨c,rfl,?_⟩
  cases c with
  | true=>
   refine jY ?_
   exact ⟨i,o,h,d,l,n,E.mono j,g,k.after j⟩
  | false=>
   refine jX ?_
   cases g
   exact k i _ p j n (.bl false)
 | _=>cases g)
theorem Ju (r:PE X a (tM X.K ma))(s:PE X (.BoolOp .Or (b::rest) pos) (tM X.K mb)):PE X (.BoolOp .Or (a::b::rest) pos) (tM X.K (vQ ma mb)):=cD (GJ r s) (by
 rintro z H Q ⟨w,o,v,d,l,R,E,g,k⟩
 obtain ⟨⟨x,h⟩,q,g⟩:=S0.mp g
 cases x with
 | bl c=>
  refine ⟨w,o,v,.bl c,h,R,E,q,fun i y p j n u=>?_⟩
  cases u
  refine ⟨c,rfl,?_⟩
  cases c with
  | true=>
   refine jY ?_
   cases g
   exact k i _ p j n (.bl true)
  | false=>
   refine jX ?_
   exact ⟨i,o,h,d,l,n,E.mono j,g,k.after j⟩
 | _=>cases g)
theorem Jv (o:PE X a (tM X.K ma)):PE X (.UnaryOp .Not a pos) (tM X.K (lM ma)):=cD (GK o) (by
 rintro y H Q ⟨u,v,q,d,r,R,E,g,k⟩
 obtain ⟨⟨x,s⟩,n,g⟩:=S0.mp g
 cases x with
 | bl c=>
  cases g
  refine ⟨u,v,q,_,_,R,E,n,fun h w i l j p=>?_⟩
  cases p
  exact ⟨_,rfl,k h _ i l j (.bl _)⟩
 | _=>cases g)
noncomputable def iJ (t:MT)(a b:ME):ME:=fun ρ d=>(t ρ d).bind fun p=>match p.1 with|true=>a ρ p.2|false=>b ρ p.2
theorem Jw (hc:PT X c (cP X.K mt))(q:PE X a (tM X.K ma))(r:PE X b (tM X.K mb)):PE X (.IfExp c a b pos) (tM X.K (iJ mt ma mb)):=cD (GN hc q r) (by
 rintro w H Q ⟨u,n,s,d,h,R,E,l,k⟩
 obtain ⟨⟨x,g⟩,p,l⟩:=S0.mp l
 refine ⟨u,n,s,x,g,R,E,p,fun i v j o=>?_⟩
 cases x with
 | true=>
  refine jY ?_
  exact ⟨i,n,g,d,h,o,E.mono j,l,k.after j⟩
 | false=>
  refine jX ?_
  exact ⟨i,n,g,d,h,o,E.mono j,l,k.after j⟩)
noncomputable def aD:MA:=fun _ d=>some ([],d)
noncomputable def aC (a:ME)(r:MA):MA:=fun ρ d=>(a ρ d).bind fun p=>(r ρ p.2).bind fun q=>some (p.1::q.1,q.2)
variable {es:List Expr}{ms:MA}
theorem Jx:PA X [] (d5 X.K aD):=BB HF (by
 rintro n H Q ⟨i,l,j,d,h,R,E,g,k⟩
 cases g
 exact k i [] H .refl R .nil)
theorem Jy (v:PE X e (tM X.K m))(w:PA X es (d5 X.K ms))(y:Uh (e::es) X.env=(false,eval e X.env)::Uh es X.env:=by rfl):PA X (e::es) (d5 X.K (aC m ms)):=BB (HG v w y) (by
 rintro O H Q ⟨K,p,G,d,I,R,E,g,k⟩
 obtain ⟨⟨x,h⟩,s,g⟩:=S0.mp g
 obtain ⟨⟨B,i⟩,u,g⟩:=S0.mp g
 cases g
 exact ⟨K,p,G,x,h,R,E,s,fun j M L n r z=>⟨j,p,h,B,i,r,E.mono n,u,fun l N q o R2 A=>k l _ q (n.trans o) R2 (.cons (z.mono o) A)⟩⟩)
noncomputable def cC (ms:MA):ME:=fun ρ d=>(ms ρ d).bind fun p=>if p.1.length<=Tj then some (.tup p.1,p.2) else none
noncomputable def c6 (ms:MA):ME:=fun ρ d=>(ms ρ d).bind fun p=>if p.1.length<=Tj then some (.loc p.2.length,p.2++[.lst p.1]) else none
theorem Jz {v:Nat}(h:PA X es (d5 X.K ms)):PE X (.Tuple es v pos) (tM X.K (cC ms)):=cD (HJ h) (by
 rintro I H Q ⟨z,A,w,d,x,R,E,g,k⟩
 obtain ⟨⟨G,y⟩,q,g⟩:=S0.mp g
 split at g
 ·rename_i r
  cases g
  refine ⟨z,A,w,_,_,R,E,q,fun i u B o n l=>⟨by rw [l.length];exact r,fun p s=>?_⟩⟩
  obtain ⟨j,R2⟩:=n.fresh (o:=.tup u) s
  exact k i _ _ (o.trans j) R2 (.tup (.of cV) (l.mono j))
 ·cases g)
theorem JA (h:PA X es (d5 X.K ms)):PE X (.List es pos) (tM X.K (c6 ms)):=cD (HK h) (by
 rintro K H Q ⟨G,I,A,d,B,R,E,i,k⟩
 obtain ⟨⟨l,g⟩,w,i⟩:=S0.mp i
 split at i
 ·rename_i x
  cases i
  refine ⟨G,I,A,l,g,R,E,w,fun j n o u s r=>⟨by rw [r.length];exact x,fun p y=>?_⟩⟩
  obtain ⟨v,R2,q⟩:=s.alloc (c:=.lst l) (o:=.lst n) y r
  have z:IsD X.K (fU j g.length p) (g++[C.lst l]).length (aN o p (.lst n)) (.ref p) (.loc g.length):=by
   have:=IsD.loc (K:=X.K) (π:=fU j g.length p) (n:=(g++[C.lst l]).length) (H:=aN o p (.lst n)) (a:=g.length) (by simp)
   rw [q] at this
   exact this
  exact k _ _ _ (u.trans v) R2 z
 ·cases i)
noncomputable def aI (f:MF)(ms:MA):ME:=fun ρ d=>(ms ρ d).bind fun p=>f p.1 p.2
theorem JB {K:S1}{f:MF}{n:Nat}{E:XK}(v:∀ ρ i ds g,ms ρ i=some (ds,g)->ds.length=n):∀ σ H Q,tM K (aI f ms) σ H Q->u9 (iH K n f) [] E (d5 K ms) σ H Q:=by
 rintro σ H Q ⟨x,ρ,i,d,g,R,E,j,k⟩
 obtain ⟨⟨l,h⟩,p,j⟩:=S0.mp j
 refine ⟨x,ρ,i,l,h,R,E,p,fun o w r u s q=>?_⟩
 show iH K n f (w++[]) r Q _
 rw [Uz]
 exact ⟨by rw [q.length];exact v ρ i l h p,o,l,h,d,g,s,q,j,k.after u⟩
theorem JC:∀ ρ g ds d,aD ρ g=some (ds,d)->ds.length=0:=by
 intro ρ g ds d h
 cases h
 rfl
theorem JD {n:Nat}(h:∀ ρ i ds d,ms ρ i=some (ds,d)->ds.length=n):∀ ρ i ds d,aC m ms ρ i=some (ds,d)->ds.length=n+1:=by
 intro ρ i ds d g
 obtain ⟨⟨x,j⟩,q,g⟩:=S0.mp g
 obtain ⟨⟨o,p⟩,l,g⟩:=S0.mp g
 cases g
 rw [TF,h ρ j o _ l]
theorem JE {k:Nat}{f:Addr}{i:VO}{ps:List Str}{j:MF}{x:Str}{p:Vc}{n:Nat}(F:FnOk X.prog X.w X.K X.mg X.base eX k f i ps (iH X.K n j))(w:Room k X.A)(r:Gl X x)(u:X.mg x=some (.ref f))
  (s:Vl X.K (.ref f)=true)(o:Binds X.K i ps [])(l:PA X (e::es) (d5 X.K ms))(v:∀ z y ds h,ms z y=some (ds,h)->ds.length=n)(d:(x == ("__debug__":Str))=false:=by decide)
  (q:Uh (e::es) X.env=(false,eval e X.env)::Uh es X.env:=by rfl)(g:(Wa pos (Uh es X.env)).any (·.1)=false:=by rfl) :
  PE X (.Call (.Name x p) (e::es) [] pos) (tM X.K (aI j ms)):=
 cD (HL F w r u s o .nil (E:=E0) Bs l d q g) (JB v)
noncomputable def d8 (K:S1)(f:MF)(r:List V->Hp->VK->Prop):Prop:=
 ∀ i H h l d g j Q,Rp K i H h->IsDs K i h.length H j l->f l h=some (d,g)->KC K Q i h.length H d g->r j H Q
theorem BF {K:S1}{f:MF}{r:List V->Hp->VK->Prop}(s:d8 K f r):∀ σ H Q,tM K (aI f ms) σ H Q->vA r (d5 K ms) σ H Q:=by
 rintro σ H Q ⟨x,y,w,d,i,R,E,h,k⟩
 obtain ⟨⟨l,g⟩,q,h⟩:=S0.mp h
 exact ⟨x,y,w,l,g,R,E,q,fun j v n p o u=>s j n g l d i v Q o u h (k.after p)⟩
theorem JF {f:MF}{r:List V->Hp->VK->Prop}{id:String}{x:Str}{p:Vc}(hc:CallR X (.builtin id) r)(j:d8 X.K f r)(l:Gl X x)(n:X.mg x=none)(q:Va x=some (.builtin id))(h:PA X (e::es) (d5 X.K ms))
  (o:x ≠ "__name__":=by decide) (d:(x == ("__debug__":Str))=false:=by decide)
  (i:Uh (e::es) X.env=(false,eval e X.env)::Uh es X.env:=by rfl)(g:(Wa pos (Uh es X.env)).any (·.1)=false:=by rfl):PE X (.Call (.Name x p) (e::es) [] pos) (tM X.K (aI f ms)):=
 cD (HQ hc l n q h o d i g) (BF j)
theorem JG {f:MF}{r:List V->Hp->VK->Prop}{T:String}{x:Str}{p:Vc}(hc:CallR X (.type T) r)(j:d8 X.K f r)(l:Gl X x)(n:X.mg x=none)(q:Va x=some (.type T))(h:PA X (e::es) (d5 X.K ms))
  (o:x ≠ "__name__":=by decide) (d:(x == ("__debug__":Str))=false:=by decide)
  (i:Uh (e::es) X.env=(false,eval e X.env)::Uh es X.env:=by rfl)(g:(Wa pos (Uh es X.env)).any (·.1)=false:=by rfl):PE X (.Call (.Name x p) (e::es) [] pos) (tM X.K (aI f ms)):=
 cD (HR hc l n q h o d i g) (BF j)
noncomputable def bP (d:Hm):D->Option (List D)
 | .tup xs=>some xs
 | .rol xs=>some xs
 | .loc a=>match d[a]? with|some (.lst xs)=>some xs|_=>none
 | _=>none
noncomputable def fV:D->D->Hm->Option (D×Hm)
 | .str z,.int i,μ=>if z.length<=Tj then (atI z.cps.toList i).map fun c=>(.str ⟨#[c]⟩,μ) else none
 | x,.int i,μ=>(bP μ x).bind fun g=>(atI g i).map fun d=>(d,μ)
 | _,_,_=>none
theorem JI {K:S1}:cL K fV (Be K):=by
 intro p H O x y d G M N Q R r B g k
 cases B with
 | int i=>
  cases r with
  | str z=>
   simp only [fV] at g
   split at g
   ·rename_i w
    obtain ⟨c,j,l⟩:=S8.mp g
    cases l
    exact .inr (.inr ⟨z,i,c,rfl,rfl,w,j,k p _ H .refl R (.str _)⟩)
   ·cases g
  | tup h t=>
   simp only [fV,bP,T6] at g
   obtain ⟨q,j,l⟩:=S8.mp g
   cases l
   obtain ⟨v,n,o⟩:=t.atI j
   exact .inr (.inl ⟨_,_,i,v,rfl,rfl,h,n,k p _ H .refl R o⟩)
  | rol h t=>
   simp only [fV,bP,T6] at g
   obtain ⟨q,j,l⟩:=S8.mp g
   cases l
   obtain ⟨v,n,o⟩:=t.atI j
   exact .inl ⟨_,_,i,v,rfl,rfl,h.sq,n,k p _ H .refl R o⟩
  | @loc a I=>
   simp only [fV,bP] at g
   split at g
   ·rename_i E A
    simp only [T6] at g
    obtain ⟨q,j,l⟩:=S8.mp g
    cases l
    obtain ⟨L,s,u⟩:=R.lst a E A
    obtain ⟨v,n,o⟩:=u.atI j
    exact .inl ⟨_,_,i,v,rfl,rfl,.of s,n,k p _ H .refl R o⟩
   ·cases g
  | _=>simp [fV,bP] at g
 | _=>cases r<;>simp [fV] at g
theorem JJ (d:PE X a (tM X.K ma))(g:PE X b (tM X.K mb))(h:vH b):PE X (.Subscript a b pos) (tM X.K (aB fV ma mb)):=cD (IB ID d g h) (mZ JI)
noncomputable def iK (xs:List D)(lo d:Option Int):List D:=(xs.drop (HT.sIx xs.length 0 lo)).take (HT.sIx xs.length xs.length d - HT.sIx xs.length 0 lo)
noncomputable abbrev MO:=aH->Hm->Option (Option Int×Hm)
noncomputable def pG:MO:=fun _ d=>some (none,d)
noncomputable def iL (m:ME):MO:=fun ρ d=>(m ρ d).bind fun p=>match p.1 with|.int i=>some (some i,p.2)|_=>none
noncomputable def pH (K:S1)(m:MO):TO:=fun σ H Q=>∃ π ρ h o d,Rp K π H h/\En K π h.length H σ ρ/\m ρ h=some (o,d)/\∀ g i,Ext π h.length H g d.length i->Rp K g i d->Q o i
theorem JK:PO X none (pH X.K pG):=fun a3L s σ H Q I q=>Ir a3L s σ H Q I (by
 obtain ⟨h,j,i,o,g,R,E,d,k⟩:=q
 cases d
 exact k h H .refl R)
theorem JL (h:PE X e (tM X.K m)):PO X (some e) (pH X.K (iL m)):=fun a3L s σ H Q I q=>Iu h a3L s σ H Q I (by
 obtain ⟨y,z,u,o,v,R,E,d,k⟩:=q
 obtain ⟨⟨x,w⟩,p,d⟩:=S0.mp d
 cases x with
 | int i=>
  cases d
  refine ⟨y,z,u,_,_,R,E,p,fun g A j n l r=>?_⟩
  cases r
  exact ⟨_,rfl,k g j n l⟩
 | _=>cases d)
noncomputable def jE (z:Str)(lo d:Option Int):Str:=⟨((z.cps.toList.drop (HT.sIx z.length 0 lo)).take (HT.sIx z.length z.length d - HT.sIx z.length 0 lo)).toArray⟩
theorem BG (lo g:Option Int)(n:Nat):Vd lo g 1 n=(Ui (HT.sIx n n g - HT.sIx n 0 lo)).map (HT.sIx n 0 lo+·):=by
 rw [<- a3w]
 have d:∀ i:Int,max 0 (min (if i<0 then i+(n:Int) else i) (n:Int))=(((if i<0 then (i+(n:Int)).toNat else min i.toNat n:Nat)):Int):=fun i=>by
  by_cases h:i<0
  ·simp only [h,if_true];omega
  ·simp only [h,if_false];omega
 unfold Vd HT.sIx
 simp only [show ((1:Int)>0)=True from by simp,if_true]
 cases lo with
 | none=>
  cases g with
  | none=>rfl
  | some j=>dsimp only;rw [d j];rfl
 | some i=>
  cases g with
  | none=>dsimp only;rw [d i]
  | some j=>dsimp only;rw [d i,d j]
theorem o9 {n d:Nat}(hd:d<=n)(v:Option Int):HT.sIx n d v<=n:=by
 unfold HT.sIx
 cases v with
 | none=>exact hd
 | some i=>simp only;split<;>omega
theorem JM (z:Str)(lo d:Option Int):(⟨((Vd lo d 1 z.length).filterMap (z.cps[·]?)).toArray⟩:Str)=jE z lo d:=by
 unfold jE
 have g:z.cps.toList.length=z.length:=by simp [YV]
 have i:=o9 (Uv z.length) lo
 have j:=o9 (Th z.length) d
 rw [BG]
 have h:=StrLaws.picks z.cps.toList (HT.sIx z.length z.length d - HT.sIx z.length 0 lo) (HT.sIx z.length 0 lo)
 by_cases c:HT.sIx z.length 0 lo<=HT.sIx z.length z.length d
 ·have h:=h (by rw [g];omega)
  have e:(fun x:Nat=>z.cps.toList[x]?)=(fun x:Nat=>z.cps[x]?):=by funext x;simp
  rw [e] at h
  rw [<- h]
 ·rw [show HT.sIx z.length z.length d - HT.sIx z.length 0 lo=0 by omega]
  simp
theorem JN {z:Str}{lo d:Option Int}(h:(Vd lo d 1 z.length).length=z.length):jE z lo d=z:=by
 have g:z.cps.toList.length=z.length:=by simp [YV]
 have i:=o9 (Uv z.length) lo
 have j:=o9 (Th z.length) d
 rw [BG,S6,X7] at h
 unfold jE
 have:(z.cps.toList.drop (HT.sIx z.length 0 lo)).take (HT.sIx z.length z.length d - HT.sIx z.length 0 lo)=z.cps.toList:=by
  by_cases c:z.length=0
  ·have:z.cps.toList=[]:=Vk.mp (by rw [g];exact c)
   rw [this];simp
  ·rw [show HT.sIx z.length 0 lo=0 by omega,VQ,Vo (by rw [g];omega)]
 rw [this]
noncomputable def BH:V->Option Int->Option Int->Hp->VK->Prop:=fun x lo d H Q=>∃ z,x=.str z/\z.length<=Tj/\Q (.str (jE z lo d)) H
theorem BI {v:S4}{o:Option Int}(p:a3I v o):∃ l:Option (Int×a1f),v=partValue l/\l.map (·.1)=o:=by
 cases p with
 | none=>exact ⟨none,rfl,rfl⟩
 | int i t=>exact ⟨some (i,t),rfl,rfl⟩
theorem JO {X:Cx}:SlR X BH:=by
 intro j s T H x v O R d i N Q I L E G K h
 obtain ⟨z,rfl,M,q⟩:=h
 obtain ⟨t,rfl⟩:=L
 obtain ⟨l,rfl,n⟩:=BI G
 obtain ⟨u,rfl,p⟩:=BI K
 refine ⟨"str",_,F.slot_str_getitem.lookup,Yd s z t,?_⟩
 obtain ⟨o,r,w,y⟩:=E
 refine wpAny_getItem_str_slice (l:=l) (u:=u) (st:=none) ⟨o,r,w,y⟩ rfl ?_
 have B:slicePicked z l u none=Vd d i 1 z.length:=by
  unfold slicePicked;rw [n,p];rfl
 unfold sliceMade
 rw [B]
 split
 ·rename_i hc
  have g:(Vd d i 1 z.length).length=z.length:=by
   simp only [Ti,beq_iff_eq] at hc
   exact hc.2
  rw [JN g] at q
  exact ⟨.str z,H,I,⟨t,rfl⟩,q⟩
 ·rw [JM]
  refine ⟨?_,.str _,H,I.tok _,⟨_,rfl⟩,q⟩
  have A:z.cps.toList.length=z.length:=by simp [YV]
  show ((z.cps.toList.drop (HT.sIx z.length 0 d)).take (HT.sIx z.length z.length i - HT.sIx z.length 0 d)).toArray.size<=Tj
  rw [Ta,TX,Uk,A]
  omega
noncomputable def BJ (K:S1):V->Option Int->Option Int->Hp->VK->Prop:=fun x lo d H Q=>vJ K x lo d H Q\/BH x lo d H Q
theorem JP {X:Cx}:SlR X (BJ X.K):=sl_list.or JO
theorem BK {K:S1}{x:V}{lo d:Option Int}{H:Hp}{Q:VK}(h:vJ K x lo d H Q):BJ K x lo d H Q:=.inl h
noncomputable def iM (a:ME)(lo d:MO):ME:=fun ρ h=>(a ρ h).bind fun p=>(lo ρ p.2).bind fun q=>(d ρ q.2).bind fun r=>
 match p.1 with
 | .tup _=>none
 | .str z=>if z.length<=Tj then some (.str (jE z q.1 r.1),r.2) else none
 | x=>(bP r.2 x).bind fun g=>some (.loc r.2.length,r.2++[.lst (iK g q.1 r.1)])
theorem BL {K:S1}{π:Nat->Addr}{n:Nat}{H:Hp}{vs:List V}{ds:List D}(h:IsDs K π n H vs ds)(lo d:Option Int):IsDs K π n H (jW vs lo d) (iK ds lo d):=by
 unfold jW iK
 rw [h.length]
 exact (h.drop _).take _
theorem gQ {K:S1}{π:Nat->Addr}{d:Hm}{p:Addr}{c:C}{H:Hp}:IsD K (fU π d.length p) (d++[c]).length H (.ref p) (.loc d.length):=by
 have:=IsD.loc (K:=K) (π:=fU π d.length p) (n:=(d++[c]).length) (H:=H) (a:=d.length) (by simp)
 rw [show fU π d.length p d.length=p from if_pos rfl] at this
 exact this
theorem JQ {lo L:Option Expr}{N M:MO}{p2:Vc}(ha:PE X a (tM X.K ma))(hl:PO X lo (pH X.K N))(hu:PO X L (pH X.K M)):PE X (.Subscript a (.Slice lo L none p2) pos) (tM X.K (iM ma N M)):=cD (Iy JP ha hl hu) (by
 rintro σ H Q ⟨π,K,μ,d,μ',R,E,g,k⟩
 obtain ⟨⟨x,o⟩,U,g⟩:=S0.mp g
 obtain ⟨⟨l,r⟩,Y,g⟩:=S0.mp g
 obtain ⟨⟨u,B⟩,Z,g⟩:=S0.mp g
 refine ⟨π,K,μ,x,o,R,E,U,fun G v1 H1 j T i1=>⟨G,K,o,l,r,T,E.mono j,Y,fun I H2 n R2=>⟨I,K,r,u,B,R2,(E.mono j).mono n,Z,fun π3 H3 v s=>?_⟩⟩⟩
 have i3:=(i1.mono n).mono v
 cases i3 with
 | rol h t=>
  simp only [bP,T6] at g
  cases g
  refine BK ⟨_,_,rfl,h.sq,fun p A=>?_⟩
  obtain ⟨y,w,q⟩:=s.alloc (c:=.lst (iK _ l u)) (o:=.lst (jW _ l u)) A (BL t l u)
  exact k _ _ _ (((j.trans n).trans v).trans y) w gQ
 | @loc i hi'=>
  simp only [bP] at g
  split at g
  ·rename_i O hx
   simp only [T6] at g
   cases g
   obtain ⟨vs,h5,h6⟩:=s.lst i O hx
   refine BK ⟨_,_,rfl,.of h5,fun p A=>?_⟩
   obtain ⟨y,w,q⟩:=s.alloc (c:=.lst (iK O l u)) (o:=.lst (jW vs l u)) A (BL h6 l u)
   exact k _ _ _ (((j.trans n).trans v).trans y) w gQ
  ·cases g
 | tup h t=>simp at g
 | str z=>
  simp only at g
  split at g
  ·rename_i hz
   cases g
   exact .inr ⟨z,rfl,hz,k _ _ _ ((j.trans n).trans v) s (.str _)⟩
  ·cases g
 | _=>simp [bP] at g)
end
section
variable {X:Cx}{e a b c:Expr}{m:ME}{pos:Vc}{mt:MT}{st:Stmt}{rest body orelse:List Stmt}{ms mr mu:MS}
noncomputable def bG:MS:=fun ρ d=>some (.nx,ρ,d)
noncomputable def aL (a b:MS):MS:=fun ρ d=>(a ρ d).bind fun p=>match p.1 with|.nx=>b p.2.1 p.2.2|_=>some p
noncomputable def aS (m:ME):MS:=fun ρ d=>(m ρ d).map fun p=>(.rt p.1,ρ,p.2)
noncomputable def d9 (m:ME):MS:=fun ρ d=>(m ρ d).map fun p=>(.nx,ρ,p.2)
noncomputable def bH (t:MT)(a b:MS):MS:=fun ρ d=>(t ρ d).bind fun p=>match p.1 with|true=>a ρ p.2|false=>b ρ p.2
noncomputable def bC (i:Nat)(m:ME):MS:=fun ρ d=>(m ρ d).map fun p=>(.nx,ρ.set i (some p.1),p.2)
theorem JR:PSs X [] (cR X.K bG):=BC GQ (by
 rintro E l H ⟨i,p,o,n,j,h,R,d,g,k⟩
 cases g
 exact k i l H .refl R d)
theorem JS (h1:PS X st (cR X.K ms))(A:PSs X rest (cR X.K mr)):PSs X (st::rest) (cR X.K (aL ms mr)):=BC (GR h1 A) (by
 rintro E M H ⟨G,I,B,w,u,r,R,y,i,k⟩
 obtain ⟨⟨v,p,o⟩,h1,i⟩:=S0.mp i
 refine ⟨G,I,B,v,p,o,R,y,h1,?_⟩
 cases v with
 | nx=>
  intro s K L q z x
  refine ⟨s,p,o,w,u,r,z,x,i,?_⟩
  cases w with
  | nx=>exact fun g h l n R2 j=>k g h l (q.trans n) R2 j
  | bk=>exact fun g h l n R2 j=>k g h l (q.trans n) R2 j
  | ct=>exact fun g h l n R2 j=>k g h l (q.trans n) R2 j
  | rt d=>exact KC.after k q
 | rt d=>cases i;exact k
 | bk=>cases i;exact k
 | ct=>cases i;exact k)
theorem JT (h1:PS X st (cR X.K ms)):PSs X [st] (cR X.K ms):=GS h1
theorem JU:PS X (.Pass pos) (cR X.K bG):=iI GU (by
 rintro E l H ⟨i,p,o,n,j,h,R,d,g,k⟩
 cases g
 exact k i l H .refl R d)
theorem JV (j:PE X e (tM X.K m)):PS X (.Return (some e) pos) (cR X.K (aS m)):=iI (GY j) (by
 rintro E s H ⟨o,p,l,r,q,n,R,h,d,k⟩
 obtain ⟨⟨x,g⟩,i,d⟩:=S8.mp d
 cases d
 exact ⟨o,p,l,x,g,R,h,i,k⟩)
theorem JW (p:PE X e (tM X.K m))(q:Yb e none pos.line X.env=pure false:=by rfl):PS X (.Expr e pos) (cR X.K (d9 m)):=iI (GW p q) (by
 rintro E y H ⟨u,v,r,z,w,s,R,i,d,k⟩
 obtain ⟨⟨x,g⟩,o,d⟩:=S8.mp d
 cases d
 exact ⟨u,v,r,x,g,R,i,o,fun h B l j n A=>k h y l j n (i.mono j)⟩)
theorem JX (hc:PT X c (cP X.K mt))(G:PSs X body (cR X.K ms))(I:PSs X orelse (cR X.K mu)):PS X (.If c body orelse pos) (cR X.K (bH mt ms mu)):=iI (G4 hc G I) (by
 rintro E M H ⟨L,w,K,s,n,j,R,v,u,k⟩
 obtain ⟨⟨x,i⟩,B,u⟩:=S0.mp u
 refine ⟨L,w,K,x,i,R,v,B,fun l A o y=>?_⟩
 have z:lJ X.K E l i.length A s n j:=by
  cases s with
  | nx=>exact fun g h q r R2 p=>k g h q (o.trans r) R2 p
  | bk=>exact fun g h q r R2 p=>k g h q (o.trans r) R2 p
  | ct=>exact fun g h q r R2 p=>k g h q (o.trans r) R2 p
  | rt d=>exact KC.after k o
 cases x with
 | true=>
  refine jY ?_
  exact ⟨l,w,i,s,n,j,y,v.mono o,u,z⟩
 | false=>
  refine jX ?_
  exact ⟨l,w,i,s,n,j,y,v.mono o,u,z⟩)
theorem BM {i:Nat}{x:Str}{d:Vc}(r:X.N.Nodup)(v:X.N[i]? = some x)(y:Loc X.env.scope x)(s:PE X e (tM X.K m))(w:Yb e (some (.Name x d)) pos.line X.env=pure false:=by rfl)
  (u:X.fn x=true\/X.env.scope.names.lookup x=some .local:=by first|exact .inl rfl|exact .inr rfl|assumption):PS X (.Assign [.Name x d] e pos) (cR X.K (bC i m)):=iI (G9 r v y s w u) (by
 rintro E N H ⟨G,I,A,L,K,B,R,l,g,k⟩
 obtain ⟨⟨x,h⟩,q,g⟩:=S8.mp g
 cases g
 exact ⟨G,I,A,x,h,R,l,q,fun j M o n p z=>k j _ o n p ((l.mono n).set z i)⟩)
end
noncomputable def rM (n:Nat)(ds:List D):aH:=ds.map some++Vv (n - ds.length) none
noncomputable def vT (n:Nat)(m:MS):MF:=fun ds a=>(m (rM n ds) a).bind fun p=>match p.1 with|.rt d=>some (d,p.2.2)|.nx=>some (.non,p.2.2)|_=>none
theorem JY {K:S1}{π:Nat->Addr}{n:Nat}{H:Hp}{N:List Str}{vs:List V}{ds:List D}(h:IsDs K π n H vs ds)(o:vs.length<=N.length):En K π n H (L2.start N vs) (rM N.length ds):=by
 have a:=h.length
 refine ⟨by simp [L2.start,rM,a],fun i d e=>?_⟩
 unfold rM at e
 unfold L2.start
 by_cases b:i<ds.length
 ·rw [Tq (by simpa using b),TB] at e
  obtain ⟨m,c,g⟩:=S8.mp e
  cases g
  obtain ⟨v,j,l⟩:=h.get c
  exact ⟨v,by rw [Tq (by rw [S6,a];exact b),TB,j];rfl,l⟩
 ·rw [Tx (by simpa using Xs.mp b)] at e
  have:=V4 (n:=N.length - ds.length) (a:=(none:Option D)) (i:=i - (ds.map some).length)
  rw [this] at e
  split at e<;>simp at e
section
variable {P:TC}{w:T7}{K:S1}{mg:Str->Option S4}{base:UA}
theorem JZ {x a:Str}{st:Stmt}{f:Addr}{o:VO}{N ps:List Str}{k:Nat}{m:MS}(F:Fun K x a st f o)(S:FnScope N ps (cI st))(g:ps.length<=N.length)
  (c:∀ (b:S4)(A:TR)(outer:List YY)(s:S5)(H:Hp)(E:XK),Room k (A.deeper (ZA a (cI st) s.heap.objs.size f b))->
   PSs (jB eX P w K mg base N a (cI st) f b A outer s H E).nox (fI st) (cR K m)):FnOk P w K mg base eX (k+1) f o ps (iH K ps.length (vT N.length m)):=by
 refine F.ok S (fun G H Q E h=>h.1) fun b A outer s H G Q E z h=>⟨_,c b A outer s H E z,?_⟩
 obtain ⟨B,M,ds,I,d,L,R,i,e,q⟩:=h
 obtain ⟨⟨p,n,j⟩,y,e⟩:=S0.mp e
 refine ⟨M,_,I,p,n,j,R,JY i (by rw [B];exact g),y,?_⟩
 cases p with
 | rt U=>cases e;exact q
 | nx=>cases e;exact fun l O r v u T=>q l .non r v u .non
 | bk=>cases e
 | ct=>cases e
end
end L3
namespace L3
open PySem L2
open SeqAt (EqAt RcAt RcNeAt)
inductive KD where
 | non|bl (b:Bool)|int (i:Int)|str (x:Str)|tup (n:Nat)|lst (n:Nat)
inductive IsK (s:S5):S4->KD->Prop where
 | non:IsK s .none .non
 | bl (b:Bool):IsK s (.bool b) (.bl b)
 | int (i:Int)(t:a1f):IsK s (.int i t) (.int i)
 | str (x:Str)(t:a1f):IsK s (.str x t) (.str x)
 | tup {l:Addr}{its:List S4}(h:s.heap.IsTuple l its.toArray):IsK s (.ref l) (.tup its.length)
 | lst {l:Addr}{its:List S4}(h:s.heap.IsList l its.toArray):IsK s (.ref l) (.lst its.length)
noncomputable def m3 (e:Nat->Bool):KD->KD->Bool
 | .non,.non=>true
 | .bl a,.bl b=>a == b
 | .bl a,.int b=>(if a then 1 else 0) == b
 | .int a,.bl b=>a == (if b then 1 else 0)
 | .int a,.int b=>a == b
 | .str a,.str b=>a == b
 | .tup n,.tup k=>(Ui (min n k)).all e&&n == k
 | .lst n,.lst k=>(Ui (min n k)).all e&&n == k
 | _,_=>false
noncomputable def rN (A:TR)(s:S5)(u v:S4)(e:Nat->Bool):Prop:=
 (∀ l b c a,u=.ref l->v=.ref b->s.heap.IsTuple l c->s.heap.IsTuple b a->∀ j (h1:j<c.size)(d:j<a.size),EqAt A.in1 s c[j] a[j] (e j)) /\
 (∀ l b c a,u=.ref l->v=.ref b->s.heap.IsList l c->s.heap.IsList b a->∀ j (h1:j<c.size)(d:j<a.size),EqAt A.in1 s c[j] a[j] (e j))
section
variable {A:TR}{s:S5}{u v:S4}{k k':KD}{e:Nat->Bool}
theorem BN {n k:Nat}(e:Nat->Bool)(h:n=k):((Ui (min n k)).all e&&n == k)=(Ui n).all e:=by
 subst h
 simp
theorem BO {n k:Nat}(e:Nat->Bool)(h:n≠k):((Ui (min n k)).all e&&n == k)=false:=by
 simp [h]
theorem vU (h:IsK s u k)(h':IsK s v k')(c:A.units<Vg)(o:rN A s u v e):RcAt A s u v (m3 e k k'):=by
 cases h with
 | non=>
  cases h' with
  | non=>exact RcAt.none_none
  | bl b=>exact RcAt.none_bool b
  | int i t=>exact RcAt.none_int i t
  | str x t=>exact RcAt.none_str x t
  | tup h=>exact RcAt.none_tuple h c
  | lst h=>exact RcAt.none_list h c
 | bl a=>
  cases h' with
  | non=>exact RcAt.bool_none a
  | bl b=>exact RcAt.bool_bool a b
  | int i t=>exact RcAt.bool_int a i t
  | str x t=>exact RcAt.bool_str a x t
  | tup h=>exact RcAt.bool_tuple a h c
  | lst h=>exact RcAt.bool_list a h c
 | int a j=>
  cases h' with
  | non=>exact RcAt.int_none a j
  | bl b=>exact RcAt.int_bool a j b
  | int i t=>exact RcAt.int_int a j i t
  | str x t=>exact RcAt.int_str a j x t
  | tup h=>exact RcAt.int_tuple a j h c
  | lst h=>exact RcAt.int_list a j h c
 | str a j=>
  cases h' with
  | non=>exact RcAt.str_none a j
  | bl b=>exact RcAt.str_bool a j b
  | int i t=>exact RcAt.str_int a j i t
  | str x t=>exact RcAt.str_str a j x t
  | tup h=>exact RcAt.str_tuple a j h c
  | lst h=>exact RcAt.str_list a j h c
 | tup g=>
  cases h' with
  | non=>exact RcAt.tuple_none g c
  | bl b=>exact RcAt.tuple_bool b g c
  | int i t=>exact RcAt.tuple_int i t g c
  | str x t=>exact RcAt.tuple_str x t g c
  | tup h=>
   have:=RcAt.tuples (e:=e) g h c (o.1 _ _ _ _ rfl rfl g h)
   simpa [m3] using this
  | lst h=>exact RcAt.tuple_list g h c
 | lst g=>
  cases h' with
  | non=>exact RcAt.list_none g c
  | bl b=>exact RcAt.list_bool b g c
  | int i t=>exact RcAt.list_int i t g c
  | str x t=>exact RcAt.list_str x t g c
  | tup h=>exact RcAt.list_tuple g h c
  | @lst b d h=>
   rename_i l m
   by_cases n:m.length=d.length
   ·have:=RcAt.lists (e:=e) g h (by simpa using n) c (o.2 _ _ _ _ rfl rfl g h)
    show RcAt A s _ _ ((Ui (min m.length d.length)).all e&&m.length == d.length)
    rw [BN e n]
    simpa using this
   ·have:=RcAt.lists_lengths g h (by simpa using n) c
    show RcAt A s _ _ ((Ui (min m.length d.length)).all e&&m.length == d.length)
    rw [BO e n]
    exact this
theorem J0 (h:IsK s u k)(h':IsK s v k')(c:A.units<Vg)(o:rN A s u v e):RcNeAt A s u v (!m3 e k k'):=by
 cases h with
 | non=>
  cases h' with
  | non=>exact RcNeAt.none_none
  | bl b=>exact RcNeAt.none_bool b
  | int i t=>exact RcNeAt.none_int i t
  | str x t=>exact RcNeAt.none_str x t
  | tup h=>exact RcNeAt.none_tuple h c
  | lst h=>exact RcNeAt.none_list h c
 | bl a=>
  cases h' with
  | non=>exact RcNeAt.bool_none a
  | bl b=>exact RcNeAt.bool_bool a b
  | int i t=>exact RcNeAt.bool_int a i t
  | str x t=>exact RcNeAt.bool_str a x t
  | tup h=>exact RcNeAt.bool_tuple a h c
  | lst h=>exact RcNeAt.bool_list a h c
 | int a j=>
  cases h' with
  | non=>exact RcNeAt.int_none a j
  | bl b=>exact RcNeAt.int_bool a j b
  | int i t=>exact RcNeAt.int_int a j i t
  | str x t=>exact RcNeAt.int_str a j x t
  | tup h=>exact RcNeAt.int_tuple a j h c
  | lst h=>exact RcNeAt.int_list a j h c
 | str a j=>
  cases h' with
  | non=>exact RcNeAt.str_none a j
  | bl b=>exact RcNeAt.str_bool a j b
  | int i t=>exact RcNeAt.str_int a j i t
  | str x t=>exact RcNeAt.str_str a j x t
  | tup h=>exact RcNeAt.str_tuple a j h c
  | lst h=>exact RcNeAt.str_list a j h c
 | tup g=>
  cases h' with
  | non=>exact RcNeAt.tuple_none g c
  | bl b=>exact RcNeAt.tuple_bool b g c
  | int i t=>exact RcNeAt.tuple_int i t g c
  | str x t=>exact RcNeAt.tuple_str x t g c
  | tup h=>
   have:=RcNeAt.tuples (e:=e) g h c (o.1 _ _ _ _ rfl rfl g h)
   simpa [m3] using this
  | lst h=>exact RcNeAt.tuple_list g h c
 | lst g=>
  cases h' with
  | non=>exact RcNeAt.list_none g c
  | bl b=>exact RcNeAt.list_bool b g c
  | int i t=>exact RcNeAt.list_int i t g c
  | str x t=>exact RcNeAt.list_str x t g c
  | tup h=>exact RcNeAt.list_tuple g h c
  | @lst b d h=>
   rename_i l m
   by_cases n:m.length=d.length
   ·have:=RcNeAt.lists (e:=e) g h (by simpa using n) c (o.2 _ _ _ _ rfl rfl g h)
    show RcNeAt A s _ _ (!((Ui (min m.length d.length)).all e&&m.length == d.length))
    rw [BN e n]
    simpa using this
   ·have:=RcNeAt.lists_lengths g h (by simpa using n) c
    show RcNeAt A s _ _ (!((Ui (min m.length d.length)).all e&&m.length == d.length))
    rw [BO e n]
    exact this
theorem J1 (h:IsK s u k)(h':IsK s v k')(c:A.units<Vg)(o:rN A s u v e)(n:∀ l b,u=.ref l->v=.ref b->l≠b):EqAt A s u v (m3 e k k'):=by
 cases h with
 | non=>
  cases h' with
  | non=>exact EqAt.same _
  | bl b=>exact EqAt.none_bool b
  | int i t=>exact EqAt.none_int i t
  | str x t=>exact EqAt.none_str x t
  | tup h=>exact EqAt.none_tuple h c
  | lst h=>exact EqAt.none_list h c
 | bl a=>
  cases h' with
  | non=>exact EqAt.bool_none a
  | bl b=>exact EqAt.bool_bool a b
  | int i t=>exact EqAt.bool_int a i t
  | str x t=>exact EqAt.bool_str a x t
  | tup h=>exact EqAt.bool_tuple a h c
  | lst h=>exact EqAt.bool_list a h c
 | int a d=>
  cases h' with
  | non=>exact EqAt.int_none a d
  | bl b=>exact EqAt.int_bool a d b
  | int i t=>exact EqAt.int_int a d i t
  | str x t=>exact EqAt.int_str a d x t
  | tup h=>exact EqAt.int_tuple a d h c
  | lst h=>exact EqAt.int_list a d h c
 | str a d=>
  cases h' with
  | non=>exact EqAt.str_none a d
  | bl b=>exact EqAt.str_bool a d b
  | int i t=>exact EqAt.str_int a d i t
  | str x t=>exact EqAt.str_str a d x t
  | tup h=>exact EqAt.str_tuple a d h c
  | lst h=>exact EqAt.str_list a d h c
 | @tup l m g=>
  cases h' with
  | non=>exact EqAt.tuple_none g c
  | bl b=>exact EqAt.tuple_bool b g c
  | int i t=>exact EqAt.tuple_int i t g c
  | str x t=>exact EqAt.tuple_str x t g c
  | @tup b j h=>exact EqAt.of_refs (n l b rfl rfl) (vU (k:=.tup m.length) (k':=.tup j.length) (.tup g) (.tup h) c o)
  | lst h=>exact EqAt.tuple_list g h c
 | @lst l m g=>
  cases h' with
  | non=>exact EqAt.list_none g c
  | bl b=>exact EqAt.list_bool b g c
  | int i t=>exact EqAt.list_int i t g c
  | str x t=>exact EqAt.list_str x t g c
  | tup h=>exact EqAt.list_tuple g h c
  | @lst b j h=>exact EqAt.of_refs (n l b rfl rfl) (vU (k:=.lst m.length) (k':=.lst j.length) (.lst g) (.lst h) c o)
end
inductive KdD where
 | non|bl (b:Bool)|int (i:Int)|str (x:Str)|tup (xs:List D)|lst (xs:List D)
noncomputable def cW (c:Hm):D->Option KdD
 | .non=>some .non
 | .bl b=>some (.bl b)
 | .int i=>some (.int i)
 | .str x=>some (.str x)
 | .tup xs=>some (.tup xs)
 | .rol xs=>some (.lst xs)
 | .loc a=>match c[a]? with|some (.lst xs)=>some (.lst xs)|_=>none
 | .ty _=>none
noncomputable def fW (f:D->D->Option Bool):List D->List D->Option Bool
 | x::xs,y::ys=>(f x y).bind fun b=>(fW f xs ys).map fun c=>b&&c
 | [],[]=>some true
 | _,_=>some false
noncomputable def gR (f:D->D->Option Bool):KdD->KdD->Option Bool
 | .non,.non=>some true
 | .bl a,.bl b=>some (a == b)
 | .bl a,.int b=>some ((if a then 1 else 0) == b)
 | .int a,.bl b=>some (a == (if b then 1 else 0))
 | .int a,.int b=>some (a == b)
 | .str a,.str b=>some (a == b)
 | .tup xs,.tup ys=>fW f xs ys
 | .lst xs,.lst ys=>fW f xs ys
 | _,_=>some false
noncomputable def cJ:Nat->Hm->D->D->Option Bool
 | 0,_,_,_=>none
 | n+1,μ,x,y=>(cW μ x).bind fun a=>(cW μ y).bind fun b=>gR (cJ n μ) a b
noncomputable def vV:KdD->KD
 | .non=>.non|.bl b=>.bl b|.int i=>.int i|.str x=>.str x|.tup xs=>.tup xs.length|.lst xs=>.lst xs.length
noncomputable def m4:KdD->List D
 | .tup xs=>xs|.lst xs=>xs|_=>[]
section
variable {X:Cx}{a3L:List (Addr×VC)}{σ:St}{H:Hp}{s:S5}{π:Nat->Addr}{μ:Hm}
inductive KdAt (X:Cx)(π:Nat->Addr)(n:Nat)(H:Hp)(s:S5)(u:S4):KdD->Prop where
 | non (h:u=.none):KdAt X π n H s u .non
 | bl (b:Bool)(h:u=.bool b):KdAt X π n H s u (.bl b)
 | int (i:Int)(t:a1f)(h:u=.int i t):KdAt X π n H s u (.int i)
 | str (x:Str)(t:a1f)(h:u=.str x t):KdAt X π n H s u (.str x)
 | tup {xs:List D}(p:Addr)(vs:List V)(its:List S4)(h:u=.ref p)(q:SqT X.K H p vs)(i:IsDs X.K π n H vs xs)(r:Vals vs its)(t:s.heap.IsTuple p its.toArray):KdAt X π n H s u (.tup xs)
 | lst {xs:List D}(p:Addr)(vs:List V)(its:List S4)(h:u=.ref p)(q:SqL X.K H p vs)(i:IsDs X.K π n H vs xs)(r:Vals vs its)(t:s.heap.IsList p its.toArray):KdAt X π n H s u (.lst xs)
theorem m5 (I:Inv X a3L σ H s)(R:Rp X.K π H μ){v:V}{d:D}{u:S4}(h:IsD X.K π μ.length H v d)(r:RelV v u){k:KdD}(e:cW μ d=some k):KdAt X π μ.length H s u k:=by
 cases h with
 | non=>cases e;exact .non r
 | bl b=>cases e;exact .bl b r
 | int i=>cases e;obtain ⟨t,q⟩:=r;exact .int i t q
 | str x=>cases e;obtain ⟨t,q⟩:=r;exact .str x t q
 | ty x=>cases e
 | tup q t=>
  cases e
  obtain ⟨c,g,p,_⟩:=I.tuple q
  exact .tup _ _ c r q t g p
 | rol q t=>
  cases e
  obtain ⟨c,g,p,_⟩:=I.list q.sq
  exact .lst _ _ c r q.sq t g p.isList
 | @loc a w=>
  simp only [cW] at e
  split at e
  ·rename_i o m
   cases e
   obtain ⟨n,j,l⟩:=R.lst a o m
   have q:SqL X.K H (π a) n:=.of j
   obtain ⟨c,g,p,_⟩:=I.list q
   exact .lst _ _ c r q l g p.isList
  ·cases e
theorem KdAt.isK {u:S4}{k:KdD}{n:Nat}(h:KdAt X π n H s u k):IsK s u (vV k):=by
 cases h with
 | non h=>subst h;exact .non
 | bl b h=>subst h;exact .bl b
 | int i t h=>subst h;exact .int i t
 | str x t h=>subst h;exact .str x t
 | tup p c a h q i r t=>
  subst h
  have:a.length=_:=r.length.symm.trans i.length
  show IsK s (.ref p) (.tup _)
  rw [<- this]
  exact .tup t
 | lst p c a h q i r t=>
  subst h
  have:a.length=_:=r.length.symm.trans i.length
  show IsK s (.ref p) (.lst _)
  rw [<- this]
  exact .lst t
noncomputable def fX (f:D->D->Option Bool)(xs ys:List D)(j:Nat):Bool:=match xs[j]?,ys[j]? with
 | some x,some y=>(f x y).getD false
 | _,_=>false
theorem vX {f:D->D->Option Bool}:∀ {xs ys:List D}{b:Bool},fW f xs ys=some b->b=((Ui (min xs.length ys.length)).all (fX f xs ys)&&xs.length == ys.length)/\∀ (j:Nat) x y,xs[j]? = some x->ys[j]? = some y->f x y=some (fX f xs ys j)
 | [],[],b,h=>by
  cases h
  exact ⟨rfl,fun j x y e=>by simp at e⟩
 | x::xs,[],b,h=>by
  cases h
  exact ⟨by simp,fun j x y _ e=>by simp at e⟩
 | [],y::ys,b,h=>by
  cases h
  exact ⟨by simp,fun j x y e=>by simp at e⟩
 | x::xs,y::ys,b,h=>by
  simp only [fW] at h
  obtain ⟨c,l,n⟩:=S0.mp h
  obtain ⟨d,o,p⟩:=S8.mp n
  obtain ⟨q,r⟩:=vX o
  have i:fX f (x::xs) (y::ys) 0=c:=by simp [fX,l]
  have m:∀ j,fX f (x::xs) (y::ys) (j+1)=fX f xs ys j:=fun j=>by simp [fX]
  refine ⟨?_,fun j u v a g=>?_⟩
  ·subst p
   rw [q]
   simp only [TF,Nat.add_min_add_right]
   rw [List.range_succ_eq_map,UE,List.all_map,i]
   have:(fX f (x::xs) (y::ys) ∘ Nat.succ)=fX f xs ys:=funext fun j=>m j
   rw [this]
   simp [Bool.and_assoc]
  ·cases j with
   | zero=>
    simp at a g
    subst a;subst g
    rw [i,l]
   | succ j=>
    rw [m j]
    exact r j u v (by simpa using a) (by simpa using g)
theorem BP {f:D->D->Option Bool}{k k':KdD}{b:Bool}(h:gR f k k'=some b):b=m3 (fX f (m4 k) (m4 k')) (vV k) (vV k'):=by
 cases k<;>cases k'<;>simp only [gR] at h<;>first
  | (have a:=TZ h;subst a;rfl)
  | (obtain ⟨c,_⟩:=vX h;rw [c];rfl)
theorem J2 (I:Inv X a3L σ H s)(R:Rp X.K π H μ):∀ (n:Nat){v:V}{u:S4}{x y:D}{b:Bool},RelV v u->IsD X.K π μ.length H v x->IsD X.K π μ.length H v y->cJ n μ x y=some b->b=true:=by
 intro n
 induction n with
 | zero=>intro v u x y b _ _ _ h;cases h
 | succ n ih=>
  intro v u x y b r hx hy h
  obtain ⟨k,T,h⟩:=S0.mp h
  obtain ⟨k',h2,h⟩:=S0.mp h
  have a1:=m5 I R hx r T
  have o:=m5 I R hy r h2
  have g:∀ {vs:List V}{xs ys:List D}{c:Bool},(∀ v∈vs,∃ u,RelV v u)->IsDs X.K π μ.length H vs xs->IsDs X.K π μ.length H vs ys->fW (cJ n μ) xs ys=some c->c=true:=by
   intro vs
   induction vs with
   | nil=>intro xs ys c _ Y m h;cases Y;cases m;cases h;rfl
   | cons w vs Z=>
    intro xs ys c hr Y m h
    cases Y with
    | cons p1 t1=>
     cases m with
     | cons L B=>
      simp only [fW] at h
      obtain ⟨c1,T,h3⟩:=S0.mp h
      obtain ⟨c2,h4,h5⟩:=S8.mp h3
      obtain ⟨Q,N⟩:=hr w (Tt ..)
      have a:=ih N p1 L T
      have l:=Z (fun v G=>hr v (Tw _ G)) t1 B h4
      subst a;subst l
      exact h5.symm
  cases a1 with
  | non a=>
   subst a
   cases o with
   | non _=>simp only [gR] at h;exact (TZ h).symm
   | bl _ e=>cases e
   | int _ _ e=>cases e
   | str _ _ e=>cases e
   | tup _ _ _ e=>cases e
   | lst _ _ _ e=>cases e
  | bl c a=>
   subst a
   cases o with
   | non e=>cases e
   | bl _ e=>cases e;simp only [gR,beq_self_eq_true] at h;exact (TZ h).symm
   | int _ _ e=>cases e
   | str _ _ e=>cases e
   | tup _ _ _ e=>cases e
   | lst _ _ _ e=>cases e
  | int c t a=>
   subst a
   cases o with
   | non e=>cases e
   | bl _ e=>cases e
   | int _ _ e=>cases e;simp only [gR,beq_self_eq_true] at h;exact (TZ h).symm
   | str _ _ e=>cases e
   | tup _ _ _ e=>cases e
   | lst _ _ _ e=>cases e
  | str c t a=>
   subst a
   cases o with
   | non e=>cases e
   | bl _ e=>cases e
   | int _ _ e=>cases e
   | str _ _ e=>cases e;simp only [gR,beq_self_eq_true] at h;exact (TZ h).symm
   | tup _ _ _ e=>cases e
   | lst _ _ _ e=>cases e
  | tup p vs K a q i O t=>
   have z:KdAt X π μ.length H s (.ref p) _:=a ▸ KdAt.tup p vs K a q i O t
   rw [a] at o
   cases o with
   | non e=>cases e
   | bl _ e=>cases e
   | int _ _ e=>cases e
   | str _ _ e=>cases e
   | tup L E d l M m A B=>
    cases l
    have:=I.tuple_inj q M
    subst this
    exact g (fun v G=>by
     obtain ⟨j,U,rfl⟩:=VG G
     obtain ⟨Q,_,N⟩:=O.get (S7 U)
     exact ⟨Q,N⟩) i m h
   | lst L E d l M m A B=>
    cases l
    exact absurd rfl (Vm B t)
  | lst p vs K a q i O t=>
   rw [a] at o
   cases o with
   | non e=>cases e
   | bl _ e=>cases e
   | int _ _ e=>cases e
   | str _ _ e=>cases e
   | tup L E d l M m A B=>
    cases l
    exact absurd rfl (Vm t B)
   | lst L E d l M m A B=>
    cases l
    have:=I.list_inj q M
    subst this
    exact g (fun v G=>by
     obtain ⟨j,U,rfl⟩:=VG G
     obtain ⟨Q,_,N⟩:=O.get (S7 U)
     exact ⟨Q,N⟩) i m h
theorem m7 (A:TR):A.in1.units=A.units+1:=rfl
theorem BQ (I:Inv X a3L σ H s){A:TR}{n:Nat}(ih:∀ {A:TR}{v v':V}{u u':S4}{x y:D}{b:Bool},A.units+n<Vg->RelV v u->RelV v' u'->IsD X.K π μ.length H v x->IsD X.K π μ.length H v' y->cJ n μ x y=some b->EqAt A s u u' b)
  (hu:A.units+(n+1)<Vg){u u':S4}{k k':KdD}{b:Bool}(a1:KdAt X π μ.length H s u k)(a2:KdAt X π μ.length H s u' k')(h:gR (cJ n μ) k k'=some b):rN A s u u' (fX (cJ n μ) (m4 k) (m4 k')):=by
 have G:∀ {vs Q:List V}{m its':List S4}{xs ys:List D}{c:Bool},Vals vs m->Vals Q its'->IsDs X.K π μ.length H vs xs->IsDs X.K π μ.length H Q ys->fW (cJ n μ) xs ys=some c->
   ∀ j (h1:j<m.length)(T:j<its'.length),EqAt A.in1 s m[j] its'[j] (fX (cJ n μ) xs ys j):=by
  intro vs Q m its' xs ys c r r' i i' e j h1 T
  have l1:=r.length
  have l2:=r'.length
  have l3:=i.length
  have l4:=i'.length
  have hx:xs[j]? = some (xs[j]'(by omega)):=S7 _
  have hy:ys[j]? = some (ys[j]'(by omega)):=S7 _
  obtain ⟨v,v1,v2⟩:=i.get hx
  obtain ⟨v',v1',v2'⟩:=i'.get hy
  obtain ⟨w,w1,w2⟩:=r.get v1
  obtain ⟨w',w1',w2'⟩:=r'.get v1'
  rw [S7 h1] at w1
  rw [S7 T] at w1'
  cases w1
  cases w1'
  exact ih (by rw [m7];omega) w2 w2' v2 v2' ((vX e).2 j _ _ hx hy)
 constructor
 ·intro l b' E z e1 e2 Z t2 j h1 T
  subst e1;subst e2
  cases a1 with
  | tup p vs m e q i r t=>
   cases e
   cases a2 with
   | tup p2 R B a q2 U Y O=>
    cases a
    have z1:E=m.toArray:=by
     obtain ⟨o,K,g2,n1,M⟩:=Z
     obtain ⟨o',d,L,N,g⟩:=t
     rw [K] at d;cases d
     rw [M] at g
     injection g
    have z2:z=B.toArray:=by
     obtain ⟨o,K,g2,n1,M⟩:=t2
     obtain ⟨o',d,L,N,g⟩:=O
     rw [K] at d;cases d
     rw [M] at g
     injection g
    subst z1;subst z2
    have:=G r Y i U h j (by simpa using h1) (by simpa using T)
    simpa [m4] using this
   | lst p2 R B a q2 U Y O=>
    cases a
    exact absurd rfl (Vm O t2)
   | non a=>cases a
   | bl _ a=>cases a
   | int _ _ a=>cases a
   | str _ _ a=>cases a
  | lst p vs m e q i r t=>
   cases e
   exact absurd rfl (Vm t Z)
  | non e=>cases e
  | bl _ e=>cases e
  | int _ _ e=>cases e
  | str _ _ e=>cases e
 ·intro l b' E z e1 e2 Z t2 j h1 T
  subst e1;subst e2
  cases a1 with
  | lst p vs m e q i r t=>
   cases e
   cases a2 with
   | lst p2 R B a q2 U Y O=>
    cases a
    have z1:E=m.toArray:=by
     obtain ⟨o,K,g2,n1,M⟩:=Z
     obtain ⟨o',d,L,N,g⟩:=t
     rw [K] at d;cases d
     rw [M] at g
     injection g
    have z2:z=B.toArray:=by
     obtain ⟨o,K,g2,n1,M⟩:=t2
     obtain ⟨o',d,L,N,g⟩:=O
     rw [K] at d;cases d
     rw [M] at g
     injection g
    subst z1;subst z2
    have:=G r Y i U h j (by simpa using h1) (by simpa using T)
    simpa [m4] using this
   | tup p2 R B a q2 U Y O=>
    cases a
    exact absurd rfl (Vm t2 O)
   | non a=>cases a
   | bl _ a=>cases a
   | int _ _ a=>cases a
   | str _ _ a=>cases a
  | tup p vs m e q i r t=>
   cases e
   exact absurd rfl (Vm Z t)
  | non e=>cases e
  | bl _ e=>cases e
  | int _ _ e=>cases e
  | str _ _ e=>cases e
theorem BR (I:Inv X a3L σ H s)(R:Rp X.K π H μ):∀ (n:Nat){A:TR}{v c:V}{u a:S4}{x y:D}{b:Bool},A.units+n<Vg->RelV v u->RelV c a->IsD X.K π μ.length H v x->IsD X.K π μ.length H c y->cJ n μ x y=some b->EqAt A s u a b:=by
 intro n
 induction n with
 | zero=>intro A v c u a x y b _ _ _ _ _ h;cases h
 | succ n K=>
  intro A v c u a x y b G r m i j h
  have q:=h
  obtain ⟨k,w,h⟩:=S0.mp h
  obtain ⟨M,B,h⟩:=S0.mp h
  have d:=m5 I R i r w
  have e:=m5 I R j m B
  by_cases g:u=a
  ·subst g
   have:v=c:=r.inj m
   subst this
   have:=J2 I R (n+1) r i j q
   subst this
   exact EqAt.same _
  ·have E:=BQ I K G d e h
   rw [BP h]
   exact J1 d.isK e.isK (by omega) E fun l L o p z=>g (by rw [o,p,z])
theorem BS (I:Inv X a3L σ H s)(R:Rp X.K π H μ)(n:Nat){A:TR}{v g:V}{u d:S4}{x y:D}{b:Bool}(l:A.units+n<Vg)(r:RelV v u)(p:RelV g d)(m:IsD X.K π μ.length H v x)(o:IsD X.K π μ.length H g y)(h:cJ n μ x y=some b) :
  RcAt A s u d b/\RcNeAt A s u d (!b):=by
 cases n with
 | zero=>cases h
 | succ n=>
  obtain ⟨k,i,h⟩:=S0.mp h
  obtain ⟨q,j,h⟩:=S0.mp h
  have a:=m5 I R m r i
  have c:=m5 I R o p j
  have e:=BQ I (A:=A) (BR I R n) l a c h
  rw [BP h]
  exact ⟨vU a.isK c.isK (by omega) e,J0 a.isK c.isK (by omega) e⟩
end
end L3
namespace L3
open PySem L2
open SeqAt (EqAt RcAt RcNeAt)
section
variable {K:S1}
noncomputable def jZ (g:Int->Int->Option Int):D->D->Hm->Option (D×Hm)
 | .int i,.int j,μ=>(g i j).map fun z=>(.int z,μ)
 | _,_,_=>none
theorem BU {g:Int->Int->Option Int}{x y d:D}{b a:Hm}(h:jZ g x y b=some (d,a)):∃ i j z,x=.int i/\y=.int j/\g i j=some z/\d=.int z/\a=b:=by
 unfold jZ at h
 split at h
 ·rename_i i j
  obtain ⟨z,c,e⟩:=S8.mp h
  cases e
  exact ⟨i,j,z,rfl,rfl,c,rfl,rfl⟩
 ·cases h
theorem vY {a:Int->Int->Prop}{g:Int->Int->Option Int}{g':Int->Int->Int}(e:∀ i j z,g i j=some z->a i j/\z=g' i j):cL K (jZ g) (rI a fun i j=>.int (g' i j)):=by
 intro o H r x y d n p q Q R l m h k
 obtain ⟨i,j,z,rfl,rfl,b,rfl,rfl⟩:=BU h
 cases l
 cases m
 obtain ⟨c,rfl⟩:=e i j z b
 exact ⟨i,j,rfl,rfl,c,k o _ H .refl R (.int _)⟩
theorem J3 {g':Int->Int->Int}:cL K (jZ fun i j=>some (g' i j)) (fH fun i j=>.int (g' i j)):=by
 intro h H n x y d g l m Q R c e b k
 obtain ⟨i,j,z,rfl,rfl,a,rfl,rfl⟩:=BU b
 cases c
 cases e
 cases a
 exact ⟨i,j,rfl,rfl,k h _ H .refl R (.int _)⟩
noncomputable def c7:=jZ fun i j=>some (i - j)
noncomputable def BV:=jZ fun i j=>if ((-(2 ^ 64)<i/\i<2 ^ 64)\/(-(2 ^ 64)<j/\j<2 ^ 64))\/(i.natAbs<2 ^ 4000/\j.natAbs<2 ^ 4000)\/Ua i+Ua j<=134217728 then some (i * j) else none
noncomputable def cF:D->D->Hm->Option (D×Hm)
 | x,y,μ=>BV x y μ
noncomputable def dP:=jZ fun i j=>if 0<j/\j<2 ^ 4000 then some (i / j) else none
noncomputable def bN:=jZ fun i j=>if 0<j then some (i % j) else none
noncomputable def CMulB (i j:Int):Prop:=CMul i j\/(i.natAbs<2 ^ 4000/\j.natAbs<2 ^ 4000)\/Ua i+Ua j<=134217728
noncomputable def BW (i j:Int):Prop:=0<j/\j<2 ^ 4000
theorem BX {i:Int}(h:i.natAbs<2 ^ 4000):Ua i<=4000:=by
 unfold Ua
 split
 ·exact Uv _
 ·rename_i b
  have a:i.natAbs≠0:=by
   intro z
   exact b (by simpa using z)
  have:=(a3l a).mpr h
  omega
theorem CMulB.ok {i j:Int}(h:CMulB i j):a1T i j:=by
 rcases h with h|⟨b,c⟩|h
 ·exact h.ok
 rotate_left
 ·have a:WN (Ua i+Ua j)=false:=by
   unfold WN
   rw [decide_eq_false]
   have:bitsLine=134217728:=by decide
   omega
  unfold a1T
  rw [a]
  simp
 ·have d:=BX b
  have e:=BX c
  have a:WN (Ua i+Ua j)=false:=by
   unfold WN
   rw [decide_eq_false]
   have:(8000:Int)<=bitsLine:=by decide
   omega
  unfold a1T
  rw [a]
  simp
section
variable {X:Cx}
theorem J4:OpR X (WT .Mult) (rI CMulB fun i j=>.int (i * j)):=uY fun _ _ _ _ _ _ _ hc q=>a3d q hc.ok
theorem J5:OpR X (WT .FloorDiv) (rI BW fun i j=>.int (i / j)):=uY fun i j _ _ _ _ _ hc q=>by
 have c:(0:Int)<j:=hc.1
 have d:j<2 ^ 4000:=hc.2
 have a:j.natAbs≠0:=by omega
 have b:j.natAbs<2 ^ 4000:=by
  have:((2 ^ 4000:Nat):Int)=2 ^ 4000:=by decide
  omega
 have e:=(a3l a).mpr b
 exact a3f (by omega) (by rw [Int.fdiv_eq_ediv_of_nonneg i (by omega)];exact q) (.inl (PyProof.noPylong_of_log2 (by omega)))
end
theorem vZ {c:Prop} [Decidable c] {a z:Int}(h:(if c then some a else none)=some z):c/\z=a:=by
 split at h
 ·cases h;exact ⟨by assumption,rfl⟩
 ·cases h
theorem J6:cL K c7 (fH fun i j=>.int (i - j)):=J3
theorem J7:cL K BV (rI CMulB fun i j=>.int (i * j)):=vY fun i j z h=>by
 have:=vZ h
 exact this
theorem J8:cL K cF (rI CMulB fun i j=>.int (i * j)):=J7
theorem J9:cL K dP (rI BW fun i j=>.int (i / j)):=vY fun i j z h=>by
 have:=vZ h
 exact this
theorem Ka:cL K bN (rI (fun _ j=>0<j) fun i j=>.int (i % j)):=vY fun _ _ _ h=>vZ h
noncomputable def v7:D->Option D
 | .int i=>some (.int (-i))
 | _=>none
noncomputable def cM:D->D->Hm->Option (D×Hm)
 | .int i,.int j,μ=>some (.int (i+j),μ)
 | .str x,.str y,μ=>if x.length+y.length<=Tj then some (.str (x++y),μ) else none
 | .loc a,.loc b,μ=>match μ[a]?,μ[b]? with
  | some (.lst xs),some (.lst ys)=>if xs.length+ys.length<=Tj then some (.loc μ.length,μ++[.lst (xs++ys)]) else none
  | _,_=>none
 | _,_,_=>none
noncomputable def v8 (K:S1):R2:=fun x y H Q=>fH (fun i j=>.int (i+j)) x y H Q\/(∃ i j,x=.str i/\y=.str j/\i.length+j.length<=Tj/\Q (.str (i++j)) H)\/Bp x y H Q
theorem Kb {X:Cx}:OpR X (WT .Add) (v8 X.K):=op_add.or (op_add_str.or IP)
noncomputable abbrev v9 (K:S1):R2:=v8 K
theorem Kc {X:Cx}:OpR X (WT .Add) (v9 X.K):=Kb
theorem wA {K:S1}{x y:V}{H:Hp}{Q:VK}(h:v8 K x y H Q):v9 K x y H Q:=h
theorem Kd:cL K cM (v9 K):=by
 intro o H E x y d z A B Q R c e a k
 unfold cM at a
 split at a
 ·cases a
  cases c
  cases e
  exact wA (.inl ⟨_,_,rfl,rfl,k o _ H .refl R (.int _)⟩)
 ·split at a
  ·rename_i b
   cases a
   cases c
   cases e
   exact wA (.inr (.inl ⟨_,_,rfl,rfl,b,k o _ H .refl R (.str _)⟩))
  ·cases a
 ·split at a
  ·rename_i m n u v
   split at a
   ·rename_i b
    cases a
    cases c
    cases e
    obtain ⟨j,g,h⟩:=R.lst _ m u
    obtain ⟨l,s,i⟩:=R.lst _ n v
    refine wA (.inr (.inr ⟨_,_,j,l,rfl,rfl,by first|exact g|exact .inl (.inl g),s,by rw [h.length,i.length];exact b,fun p w=>?_⟩))
    obtain ⟨r,R2,q⟩:=R.alloc (c:=.lst (m++n)) (o:=.lst (j++l)) w (h.append i)
    exact k _ _ _ r R2 gQ
   ·cases a
  ·cases a
 ·cases a
noncomputable def eY (p:Int->Int->Bool):D->D->Hm->Option (D×Hm)
 | .int i,.int j,μ=>some (.bl (p i j),μ)
 | _,_,_=>none
theorem fY {p:Int->Int->Bool}:cL K (eY p) (fH fun i j=>.bl (p i j)):=by
 intro g H m x y d e h l Q R b c a k
 unfold eY at a
 split at a
 ·cases a
  cases b
  cases c
  exact ⟨_,_,rfl,rfl,k g _ H .refl R (.bl _)⟩
 ·cases a
noncomputable def dQ:=eY fun i j=>decide (i<j)
noncomputable def m8:=eY fun i j=>decide (i<=j)
noncomputable def wB:=eY fun i j=>decide (j<i)
noncomputable def wC:=eY fun i j=>decide (j<=i)
noncomputable def wD (K:S1)(ne:Bool):R2:=fun x y H Q=>∃ π a c d b,Rp K π H a/\IsD K π a.length H x c/\IsD K π a.length H y d/\cJ 8 a c d=some b/\Q (.bl (if ne then !b else b)) H
theorem BY {X:Cx}(c:X.A.units+8<Vg):OpR X (UC .Eq) (wD X.K false):=by
 intro a s p H x y v u Q I i j h
 obtain ⟨o,n,l,m,b,R,d,g,e,q⟩:=h
 exact (BS I R 8 c i j d g e).1 _ _ _ _ ⟨.bl b,H,I,rfl,q⟩
theorem BZ {X:Cx}(c:X.A.units+8<Vg):OpR X (UC .NotEq) (wD X.K true):=by
 intro a s p H x y v u Q I i j h
 obtain ⟨o,n,l,m,b,R,d,g,e,q⟩:=h
 exact (BS I R 8 c i j d g e).2 _ _ _ _ ⟨.bl (!b),H,I,rfl,q⟩
noncomputable def a8 (ne:Bool):D->D->Hm->Option (D×Hm):=fun x y a=>(cJ 8 a x y).map fun b=>(.bl (if ne then !b else b),a)
theorem rO {ne:Bool}:cL K (a8 ne) (wD K ne):=by
 intro a H j x y d l m n Q R h i g k
 obtain ⟨b,c,e⟩:=S8.mp g
 cases e
 exact ⟨a,j,x,y,b,R,h,i,c,k a _ H .refl R (.bl _)⟩
noncomputable def wF:D->D->Hm->Option (D×Hm)
 | .str i,.str j,μ=>some (.bl (!(UK j i 0 j.length 1).isEmpty),μ)
 | _,_,_=>none
theorem B0:cL K wF (fun x y H Q=>∃ i j,x=.str i/\y=.str j/\Q (.bl (!(UK j i 0 j.length 1).isEmpty)) H):=by
 intro g H m x y d e h l Q R b c a k
 unfold wF at a
 split at a
 ·cases a
  cases b
  cases c
  exact ⟨_,_,rfl,rfl,k g _ H .refl R (.bl _)⟩
 ·cases a
end
section
variable {X:Cx}{a b c:Expr}{ma mb mc:ME}{pos:Vc}
theorem rP {k:Nat}{A:TR}(r:Room k A):A.units+8<Vg:=by have:=r.un;omega
theorem Ke (r:PE X a (tM X.K ma)):PE X (.UnaryOp .USub a pos) (tM X.K (fun ρ g=>(ma ρ g).bind fun p=>(v7 p.1).map fun d=>(d,p.2))):=cD (Hs Hv r) (by
 rintro A H Q ⟨w,ρ,g,d,u,R,E,e,k⟩
 obtain ⟨⟨x,v⟩,o,e⟩:=S0.mp e
 obtain ⟨y,j,q⟩:=S8.mp e
 cases q
 cases x with
 | int i=>
  cases j
  refine ⟨w,ρ,g,_,_,R,E,o,fun h z l n m s=>?_⟩
  cases s
  exact ⟨_,rfl,k h _ l n m (.int _)⟩
 | _=>cases j)
theorem Kf {x:Str}{n:String}(d:Gl X x)(e:X.mg x=none)(h:Va x=some (.type n))(g:x ≠ "__name__":=by decide) (hd:(x == ("__debug__":Str))=false:=by decide):PE X (.Name x pos) (tM X.K (mC (.ty n))):=
 mY (Gu (v:=.ty n) d e h rfl g hd) fun _ _ _=>.ty n
end
noncomputable def rQ (b:Hm):D->Option String
 | .non=>some "NoneType"
 | .bl _=>some "bool"
 | .int _=>some "int"
 | .str _=>some "str"
 | .tup _=>some "tuple"
 | .rol _=>some "list"
 | .loc a=>match b[a]? with
  | some (.lst _)=>some "list"
  | some (.dK _)=>some "dict"
  | some (.dT _)=>some "dict"
  | _=>none
 | .ty _=>none
noncomputable def rR (t c:String):Option Bool:=match c with
 | "int"=>some (t == "int" || t == "bool")
 | "bool"=>some (t == "bool")
 | "str"=>some (t == "str")
 | "list"=>some (t == "list")
 | "tuple"=>some (t == "tuple")
 | "dict"=>some (t == "dict")
 | _=>none
noncomputable def c8:MF:=fun ds a=>match ds with
 | [x,.ty c]=>(rQ a x).bind fun t=>(rR t c).map fun b=>(.bl b,a)
 | _=>none
theorem jF (K:S1){t c:String}{b:Bool}(d:t = "NoneType"\/t = "bool"\/t = "int"\/t = "str"\/t = "tuple"\/t = "list"\/t = "dict") (h:rR t c=some b):a1j K (.type t) (.type c)=some b:=by
 unfold rR at h
 split at h<;>first
  | cases h;done
  | (have a:=TZ h;subst a
     rcases d with rfl|rfl|rfl|rfl|rfl|rfl|rfl<;>first|rfl|decide +kernel|(unfold a1j;simp;rfl))
end L3
namespace L3
open PySem L2
noncomputable abbrev MG:=D->aH->Hm->Option aH
noncomputable def fJ (K:S1)(g:MG):TG:=fun v σ H Q=>∃ π ρ a d b,Rp K π H a/\En K π a.length H σ ρ/\IsD K π a.length H v d/\g d ρ a=some b/\∀ c,En K π a.length H c b->Q c H
noncomputable def cT (i:Nat):MG:=fun d ρ _=>some (ρ.set i (some d))
section
variable {X:Cx}{pos:Vc}
theorem B1 {i:Nat}{x:Str}(b:X.N.Nodup)(e:X.N[i]? = some x)(j:Loc X.env.scope x)(c:X.fn x=true\/X.env.scope.names.lookup x=some .local:=by first|exact .inl rfl|exact .inr rfl|assumption):PG X (.Name x pos) (fJ X.K (cT i)):=by
 intro a s m H v u Q I r h
 obtain ⟨o,p,n,d,l,R,E,hd,g,k⟩:=h
 cases g
 exact AF b e j c a s m H v u Q I r (k _ (E.set hd i))
noncomputable def Kg (K:S1)(c:TE):TI:=fun σ H R=>c σ H fun x b=>∃ a,x=.ref a/\(((∃ xs,SqL K b a xs)/\R (uU K a) b)\/((∃ xs,SqT K b a xs)/\R (uV K a) b))
theorem Kh {l tg:Expr}{r:TE}(u:PE X l r):PI X tg l (Kg X.K r):=by
 intro i s E H R I h
 refine aR (u i s E H _ I h) fun v c ⟨x,n,d,z,y⟩=>?_
 obtain ⟨a,e,q⟩:=y
 subst e
 cases z
 rcases q with ⟨⟨B,m⟩,q⟩|⟨⟨B,m⟩,q⟩
 ·obtain ⟨g,A,p,w⟩:=d.list m
  refine a2q p.isList ?_
  refine ⟨c.heap.objs.size,[c.heap.objs.size],_,_,n,rfl,d.kept (t':=c.toks) fun b o e=>S9 _ e,Hc a _,⟨_,Tz _ rfl,rfl,rfl⟩,fun b j=>?_,q⟩
  have e:b=c.heap.objs.size:=by simpa using j
  subst e
  exact d.fpOk (Th _) (d.hok.fresh (Th _))
 ·obtain ⟨g,A,p,w⟩:=d.tuple m
  refine a2a (show c.heap.IsTuple a g.toArray from p) ?_
  refine ⟨c.heap.objs.size,[c.heap.objs.size],_,_,n,rfl,d.kept (t':=c.toks) fun b o e=>S9 _ e,He a _,⟨_,Tz _ rfl,rfl,rfl⟩,fun b j=>?_,q⟩
  have e:b=c.heap.objs.size:=by simpa using j
  subst e
  exact d.fpOk (Th _) (d.hok.fresh (Th _))
end
structure Wk (K:S1)(J:It)(src:Hm->Nat->Option (Option D))(π:Nat->Addr)(n:Nat)(H:Hp):Prop where
 stop:∀ π' μ H' i,Ext π n H π' μ.length H'->Rp K π' H' μ->src μ i=some none->J.stop i H'
 go:∀ π' μ H' i d,Ext π n H π' μ.length H'->Rp K π' H' μ->src μ i=some (some d)->J.go i H'/\∀ x H2,J.yld i H' x H2->Ext π' μ.length H' π' μ.length H2/\Rp K π' H2 μ/\IsD K π' μ.length H2 x d
noncomputable def jG (x:D):Hm->Nat->Option (Option D):=fun a i=>(bP a x).map fun xs=>xs[i]?
theorem Ki {K:S1}{π:Nat->Addr}{B:Hm}{H:Hp}{v:V}{x:D}{xs:List D}(R:Rp K π H B)(h:IsD K π B.length H v x)(E:bP B x=some xs) :
  ∃ a,v=.ref a/\(((∃ b,SqL K H a b)/\Wk K (uU K a) (jG x) π B.length H)\/((∃ b,SqT K H a b)/\Wk K (uV K a) (jG x) π B.length H)):=by
 cases h with
 | @tup p b ds q t=>
  refine ⟨p,rfl,.inr ⟨⟨b,q⟩,⟨fun l j r i e m z=>?_,fun l j r i d e m z=>?_⟩⟩⟩
  ·simp only [jG,bP,Uj] at z
   have g:ds[i]? = none:=TZ z
   exact ⟨b,e.sqT q,by rw [t.length];exact Wz.mp g⟩
  ·simp only [jG,bP,Uj] at z
   have g:ds[i]? = some d:=TZ z
   obtain ⟨w,c,n⟩:=t.get g
   refine ⟨⟨b,w,e.sqT q,c⟩,fun y L ⟨s,u⟩=>?_⟩
   subst s
   have:=u b (e.sqT q)
   rw [c] at this
   cases this
   exact ⟨.refl,m,n.mono e⟩
 | @rol p b ds q t=>
  refine ⟨p,rfl,.inl ⟨⟨b,q.sq⟩,⟨fun l j r i e m z=>?_,fun l j r i d e m z=>?_⟩⟩⟩
  ·simp only [jG,bP,Uj] at z
   have g:ds[i]? = none:=TZ z
   exact ⟨b,(e.roL q).sq,by rw [t.length];exact Wz.mp g⟩
  ·simp only [jG,bP,Uj] at z
   have g:ds[i]? = some d:=TZ z
   obtain ⟨w,c,n⟩:=t.get g
   refine ⟨⟨b,w,(e.roL q).sq,c⟩,fun y L ⟨s,u⟩=>?_⟩
   subst s
   have:=u b (e.roL q).sq
   rw [c] at this
   cases this
   exact ⟨.refl,m,n.mono e⟩
 | @loc a N=>
  have hc:∃ b,H (π a)=some (.lst b):=by
   simp only [bP] at E
   split at E
   ·rename_i o A
    obtain ⟨b,c,_⟩:=R.lst a o A
    exact ⟨b,c⟩
   ·cases E
  obtain ⟨I,G⟩:=hc
  refine ⟨π a,rfl,.inl ⟨⟨I,.of G⟩,⟨fun l j r i e m z=>?_,fun l j r i d e m z=>?_⟩⟩⟩
  ·simp only [jG,bP] at z
   split at z
   ·rename_i o A
    obtain ⟨b,c,n⟩:=m.lst a o A
    rw [e.pi a N] at c
    have g:o[i]? = none:=TZ z
    exact ⟨b,.of c,by rw [n.length];exact Wz.mp g⟩
   ·cases z
  ·simp only [jG,bP] at z
   split at z
   ·rename_i o A
    obtain ⟨b,c,n⟩:=m.lst a o A
    rw [e.pi a N] at c
    have g:o[i]? = some d:=TZ z
    obtain ⟨w,M,O⟩:=n.get g
    refine ⟨⟨b,w,.of c,M⟩,fun y L ⟨s,u⟩=>?_⟩
    subst s
    have:=u b (.of c)
    rw [M] at this
    cases this
    exact ⟨.refl,m,O⟩
   ·cases z
 | _=>cases E
noncomputable def eA (a:Hm->Nat->Option (Option D))(g:MG)(b:MS):Nat->Nat->MS
 | 0,_,_,_=>none
 | n+1,i,ρ,μ=>(a μ i).bind fun o=>match o with
  | none=>some (.nx,ρ,μ)
  | some d=>(g d ρ μ).bind fun c=>(b c μ).bind fun p=>match p.1 with
   | .nx=>eA a g b n (i+1) p.2.1 p.2.2
   | .ct=>eA a g b n (i+1) p.2.1 p.2.2
   | .bk=>some (.nx,p.2.1,p.2.2)
   | .rt d=>some (.rt d,p.2.1,p.2.2)
theorem Kj {K:S1}{J:It}{B:Hm->Nat->Option (Option D)}{g:MG}{b:MS}{π:Nat->Addr}{Q:Nat}{O:Hp}(W:Wk K J B π Q O){E:Ends}{A:Fl}{p:aH}{j:Hm}(hE:lJ K E π Q O A p j)
  {G:Nat->Addr}{u:Hm}{H1:Hp}{T:aH}{σ1:St}{n:Nat}(e1:Ext π Q O G u.length H1)(R1:Rp K G H1 u)(E1:En K G u.length H1 σ1 T)(h:eA B g b n 0 T u=some (A,p,j)) :
  ∃ Wd:Nat->Nat->St->Hp->Prop,(∃ m,Wd 0 m σ1 H1)/\∀ i m X H,Wd i m X H->
   (J.stop i H/\E.nx X H)\/(J.go i H/\∃ N:St->Hp->Prop,(∀ w s,N w s->∃ m',m'<m/\Wd (i+1) m' w s)/\∀ x s,J.yld i H x s->fJ K g x X s fun σ2 H2=>cR K b { E with nx:=N,ct:=N,bk:=E.nx } σ2 H2):=by
 have lift:∀ {a:Nat->Addr}{n2:Nat}{H2:Hp}(e:Ext π Q O a n2 H2){A:Fl}{p:aH}{j:Hm},lJ K E π Q O A p j->lJ K E a n2 H2 A p j:=fun {a n2 H2} e {A p j} k=>by
  cases A with
  | nx=>exact fun v r H3 e3 R3 M=>k v r H3 (e.trans e3) R3 M
  | bk=>exact fun v r H3 e3 R3 M=>k v r H3 (e.trans e3) R3 M
  | ct=>exact fun v r H3 e3 R3 M=>k v r H3 (e.trans e3) R3 M
  | rt d=>exact KC.after k e
 refine ⟨fun i m X H=>∃ a l I,Ext π Q O a l.length H/\Rp K a H l/\En K a l.length H X I/\eA B g b m i I l=some (A,p,j),⟨n,G,u,T,e1,R1,E1,h⟩,?_⟩
 rintro i m X H ⟨a,l,I,z,R2,E2,h2⟩
 cases m with
 | zero=>cases h2
 | succ m=>
  obtain ⟨o,h3,h4⟩:=S0.mp h2
  cases o with
  | none=>
   cases h4
   exact .inl ⟨W.stop a _ H i z R2 h3,hE a X H z R2 E2⟩
  | some d=>
   obtain ⟨g1,g2⟩:=W.go a l H i d z R2 h3
   obtain ⟨ρ3,h5,h6⟩:=S0.mp h4
   obtain ⟨⟨f4,U,R⟩,h7,h8⟩:=S0.mp h6
   refine .inr ⟨g1,fun w s=>∃ c L q,Ext π Q O c q.length s/\Rp K c s q/\En K c q.length s w L/\eA B g b m (i+1) L q=some (A,p,j),
    fun w s ⟨c,L,q,a1,a2,a3,a4⟩=>⟨m,Yj _,c,q,L,a1,a2,a3,a4⟩,fun x s y=>?_⟩
   obtain ⟨ex,Rx,hx⟩:=g2 x s y
   have z:=z.trans ex
   refine ⟨a,I,l,d,ρ3,Rx,E2.mono ex,hx,h5,fun r M=>⟨a,ρ3,l,f4,U,R,Rx,M,h7,?_⟩⟩
   cases f4 with
   | nx=>exact fun c Y H5 e5 R5 Z=>⟨c,U,R,z.trans e5,R5,Z,h8⟩
   | ct=>exact fun c Y H5 e5 R5 Z=>⟨c,U,R,z.trans e5,R5,Z,h8⟩
   | bk=>
    cases h8
    exact fun c Y H5 e5 R5 Z=>hE c Y H5 (z.trans e5) R5 Z
   | rt d'=>
    cases h8
    exact KC.after hE z
section
variable {X:Cx}{pos:Vc}{tg iter:Expr}{body:List Stmt}{mi:ME}{g:MG}{mb:MS}
noncomputable def fK (lo:Int)(n:Nat):Hm->Nat->Option (Option D):=fun _ i=>some (if i<n then some (.int (lo+i)) else none)
theorem B2 {K:S1}{lo:Int}{k:Nat}{π:Nat->Addr}{n:Nat}{H:Hp}:Wk K (oX lo k) (fK lo k) π n H:=by
 refine ⟨fun b m c i e R z=>?_,fun b m c i d e R z=>?_⟩
 ·have a:=TZ z
  split at a
  ·cases a
  ·exact Xs.mp (by assumption)
 ·have a:=TZ z
  split at a
  ·cases a
   rename_i h
   exact ⟨h,fun x o ⟨j,l⟩=>by subst j;rw [l];exact ⟨.refl,R,.int _⟩⟩
  ·cases a
end
end L3
namespace L3
open PySem L2
noncomputable def m9 (y:Str):Str:="#"++y
noncomputable def bI (xs N:List Str):List Str:=N.map fun y=>if xs.contains y then m9 y else y
theorem lN (xs N:List Str):(bI xs N).length=N.length:=by unfold bI;simp
theorem Kk {xs N:List Str}{i:Nat}{y:Str}(h:(bI xs N)[i]? = some y):∃ a,N[i]? = some a/\((xs.contains a=true/\y=m9 a)\/(xs.contains a=false/\y=a)):=by
 unfold bI at h
 rw [TB] at h
 obtain ⟨a,c,b⟩:=S8.mp h
 refine ⟨a,c,?_⟩
 cases hc:xs.contains a with
 | true=>rw [hc] at b;exact .inl ⟨rfl,by simpa using b.symm⟩
 | false=>rw [hc] at b;exact .inr ⟨rfl,by simpa using b.symm⟩
noncomputable def cO (X:Cx)(scope:Wb)(a:List (Str×Addr))(C:Addr)(N:List Str)(s₀:S5)(H₀:Hp)(b:List Addr):Cx:=
 { X with N:=N,s₀:=s₀,H₀:=H₀,env:=Xn scope a C X.env,outer:=X.stack,stack:=X.stack,ex:=b,fn:=fun _=>false,pn:=[],xe:=fun _ _=>False }
theorem B3 {env:YY}:∀ (names:List (Str×V3))(x:Str),(names.map fun (n,k)=>if (k == VE&&env.scope.kind == .function&&env.kindOf n == some .cell) then (n,VX) else (n,k)).lookup x
  = (names.lookup x).map fun k=>if (k == VE&&env.scope.kind == .function&&env.kindOf x == some .cell) then VX else k
 | [],_=>rfl
 | (n,k)::r,x=>by
  have d:=B3 (env:=env) r x
  rw [Tr]
  by_cases c:x=n
  ·subst c
   have a:∀ (k':V3)(l:List (Str×V3)),YA x ((x,k')::l)=some k':=fun k' l=>by simp [Xi]
   rw [a]
   show YA x ((if (k == VE&&env.scope.kind == .function&&env.kindOf x == some .cell)=true then (x,VX) else (x,k))::_)=some (if (k == VE&&env.scope.kind == .function&&env.kindOf x == some .cell)=true then VX else k)
   split
   ·rw [a]
   ·rw [a]
  ·have b:(x == n)=false:=by simpa using c
   have a:∀ (k':V3)(l:List (Str×V3)),YA x ((n,k')::l)=YA x l:=fun k' l=>by simp only [Xi,b]
   rw [a]
   show YA x ((if (k == VE&&env.scope.kind == .function&&env.kindOf n == some .cell)=true then (n,VX) else (n,k))::_)=_
   split
   ·rw [a]
    exact d
   ·rw [a]
    exact d
structure CompOk (X:Cx)(scope:Wb)(cl:List (Str×Addr))(xs:List Str):Prop where
 clos:a2h scope X.env=pure cl
 nocell:∀ y∈scope.names,y.2≠.cell
 kind:scope.kind=.function
 names:∀ y∈scope.names,y.2=.local->scope.names.lookup y.1=some .local
 here:∀ x∈xs,scope.names.lookup x=some .local
 sub:∀ y c,cl.lookup y=some c->X.env.cells.lookup y=some c
 free:∀ y,scope.names.lookup y=some .free->(X.env.kindOf y=some .cell\/X.env.kindOf y=some .free)/\∃ c,cl.lookup y=some c
 own:∀ y,scope.names.lookup y=some .local->y∉bI xs X.N
 hidn:∀ y∈X.N,xs.contains y=true->scope.names.lookup (m9 y)=none
section
variable {X:Cx}{scope:Wb}{cl:List (Str×Addr)}{xs:List Str}
theorem CompOk.kindOf (O:CompOk X scope cl xs)(C:Addr)(y:Str):(Xn scope cl C X.env).kindOf y=(scope.names.lookup y).map fun k=>if (k == VE&&X.env.scope.kind == .function&&X.env.kindOf y == some .cell) then VX else k:=
 B3 scope.names y
theorem CompOk.outer (O:CompOk X scope cl xs){C:Addr}{y:Str}(h:(Xn scope cl C X.env).kindOf y=some .cell\/(Xn scope cl C X.env).kindOf y=some .free):scope.names.lookup y=some .free:=by
 rw [O.kindOf] at h
 cases q:scope.names.lookup y with
 | none=>rw [q] at h;rcases h with h|h<;>cases h
 | some k=>
  rw [q] at h
  cases k with
  | free=>rfl
  | cell=>exact absurd rfl (O.nocell _ (UL q))
  | «local»=>rcases h with h|h<;>simp at h
  | globalExplicit=>rcases h with h|h<;>simp at h
  | globalImplicit=>rcases h with h|h<;>simp at h
theorem CompOk.inv {a3L:List (Addr×VC)}{σ:St}{H:Hp}{s:S5}{Z:List Addr}{d:UA}{tk:Nat}(O:CompOk X scope cl xs)(I:Inv X a3L σ H s)(B:∀ b∈Z,gJ X a3L H b)(hob:∀ b∈Z,∃ o,s.heap.get? b=some o){m:Str->Option S4}
  (hns:d.Ns s.heap.objs.size m)(N:∀ b o,s.heap.get? b=some o->d.get? b=some o) :
  Inv (cO X scope cl s.heap.objs.size (bI xs X.N++xs) s H Z) [] (σ++Vv xs.length none) H { s with heap:=d,toks:=tk }:=by
 refine ⟨⟨I.ok.mod,O.kind,I.ok.glob,I.ok.blt,Th _,fun y z c h1 A=>?_,fun y hy=>?_,(fun y c h=>by cases h),I.ok.hd,I.ok.frames,.inl rfl,fun b G=>?_,fun b o e=>I.bs b o e,T8 I.ok.bsz I.sz,fun b o e G=>?_,fun b G hb2=>?_,I.stack,I.stkFree⟩,
  rfl,I.bare,Un.kept N,⟨m,hns,fun i y v h1 A w=>?_⟩,fun y c h=>?_,I.hok.fresh (Th _),fun y c h=>I.freeC y c (O.sub y c h),fun p hp=>absurd (show p∈([]:List (Addr×VC)) from hp) (by simp),I.hok.kept N,?_⟩
 ·exact I.ok.inj y z c (O.sub y c h1) (O.sub z c A)
 ·exact (O.free y (O.outer hy)).2
 ·obtain ⟨f0,T,U,x,Y,f5⟩:=B b G
  obtain ⟨o,M⟩:=hob b G
  exact ⟨TJ (Tp M),fun y c h=>Y y c (O.sub y c h)⟩
 ·obtain ⟨f0,T,U,x,Y,f5⟩:=B b G
  rcases x with x|x
  ·exact I.ok.noex b o e x
  ·exact absurd (T1 (Tp (I.ok.bs b o e).1) x) (Vn _)
 ·obtain ⟨f0,T,U,x,Y,f5⟩:=B b G
  rcases T5.mp (I.stkSub b hb2) with z|z
  ·exact T z
  ·exact U z
 ·have L:i<σ.length:=by
   by_cases L:i<σ.length
   ·exact L
   ·rw [Tx (Xs.mp L),V4] at A
    split at A<;>cases A
  rw [Tq L] at A
  have K:(bI xs X.N)[i]? = some y:=by
   have n:(bI xs X.N++xs)[i]? = some y:=h1
   rw [Tq (by rw [lN,<- I.len];exact L)] at n
   exact n
  have j:scope.names.lookup y≠some .local:=fun z=>O.own y z (Ts K)
  have E:=O.kindOf s.heap.objs.size y
  have h1':X.N[i]? = some y:=by
   obtain ⟨y0,q1,R⟩:=Kk K
   rcases R with ⟨R,q3⟩|⟨R,q3⟩
   ·exfalso
    have hz:=O.hidn y0 (Ts q1) R
    rw [<- q3] at hz
    rw [hz] at E
    have a:(Xn scope cl s.heap.objs.size X.env).kindOf y=some .local\/(Xn scope cl s.heap.objs.size X.env).kindOf y=some .cell\/(Xn scope cl s.heap.objs.size X.env).kindOf y=some .free:=w
    rw [E] at a
    rcases a with a|a|a<;>cases a
   ·rw [q3];exact q1
  have a:(Xn scope cl s.heap.objs.size X.env).kindOf y=some .cell\/(Xn scope cl s.heap.objs.size X.env).kindOf y=some .free:=by
   rcases w with w|w|w
   ·exfalso
    have a:(Xn scope cl s.heap.objs.size X.env).kindOf y=some .local:=w
    rw [E] at a
    cases q:scope.names.lookup y with
    | none=>rw [q] at a;cases a
    | some k=>
     rw [q] at a
     cases k with
     | «local»=>exact j q
     | cell=>simp at a
     | free=>
      simp only [Uj] at a
      split at a<;>cases a
     | globalExplicit=>simp at a
     | globalImplicit=>simp at a
   ·exact .inl w
   ·exact .inr w
  obtain ⟨g,c,hc⟩:=O.free y (O.outer a)
  obtain ⟨m0,hn0,hl0⟩:=I.loc
  obtain ⟨u,r,l⟩:=hl0 i y v h1' A (by rcases g with g|g;exact .inr (.inl g);exact .inr (.inr g))
  refine ⟨u,r,.inr ⟨a,c,hc,?_⟩⟩
  rcases l with ⟨Q,_⟩|⟨_,c',e',z⟩
  ·exfalso
   rcases g with g|g
   ·rw [g] at Q;cases Q
   ·rw [g] at Q;cases Q
  ·rw [O.sub y c hc] at e'
   cases e'
   obtain ⟨o,M,hd⟩:=z
   exact ⟨o,N c o M,hd⟩
 ·obtain ⟨v,q⟩:=I.cell y c (O.sub y c h)
  exact ⟨v,by obtain ⟨o,M,hd⟩:=q;exact ⟨o,N c o M,hd⟩⟩
 ·show (σ++Vv xs.length none).length=(bI xs X.N++xs).length
  rw [Td,Td,I.len,VU,lN]
theorem CompOk.back {a3L T:List (Addr×VC)}{σ K:St}{H i:Hp}{s j:S5}{l:List Addr}{h':UA}{N:List Str}(I:Inv X a3L σ H s)(y:∀ b∈l,gJ X a3L H b)
  (J:Inv (cO X scope cl s.heap.objs.size N s H l) T K i j)(x:∀ b o,b≠s.heap.objs.size->j.heap.get? b=some o->h'.get? b=some o):Inv X a3L σ i { j with heap:=h' }:=by
 have u:Un (fS X.stack) l H i s.heap h':=by
  have h:Un (fS X.stack) l H i s.heap j.heap:=J.base
  have ne:∀ b o,s.heap.get? b=some o->b≠s.heap.objs.size:=fun b o e=>TJ (Tp e)
  refine ⟨fun b o e n m p=>x b o (ne b o e) (h.keep b o e n m p),fun b o e n m p=>?_,h.free,fun b o e p=>?_,h.tups,h.frzs,h.tbls⟩
  ·obtain ⟨U,q⟩:=h.slot b o e n m p
   exact ⟨U,x b _ (ne b o e) q⟩
  ·obtain ⟨R,q⟩:=h.there b o e p
   exact ⟨R,x b _ (ne b o e) q⟩
 have a:i s.heap.objs.size=none:=J.free
 have A:HOk X.prog X.w i h':=fun b v e=>by
  refine (J.hok b v e).stay (fun c w hc q=>x c w ?_ q) (fun _ q=>q) fun _ _ q=>q
  rcases hc with z|z
  ·rw [z]
   intro G
   rw [G,a] at e
   cases e
  ·intro G
   rw [G,a] at z
   cases z
 have B:j.os=s.os:=J.os
 obtain ⟨hh,g,d,t,E⟩:=j
 obtain rfl:E=s.os:=B
 have r:=Inv.call (X:=X) (a3L:=a3L) (σ:=σ) (H:=H) (s:=s) (h':=h') (g':=g) (d':=d) (t':=t) (ch:=l) I u A J.bare fun b m=>let ⟨Y,L,Z,M,O,Q⟩:=y b m;⟨M,L,O,Q⟩
 exact r
end
theorem Kl {prog:TC}{w:T7}{A:TR}{R:a1i->S5->Prop}{s:S5}{elt a iter:Expr}{ifs:List Expr}{scope:Wb}{pos:Vc}{E q:S4}{env:YY}(I:Nat->S5->Prop)
  (turn:∀ n s,I n s->TH (TK prog w) A (Yo E) (fun r d=>match r with
   | none=>R (.ok .next) d
   | some v=>TH (TK prog w) A (YI a E v) (fun _ e=>TH (TK prog w) A (Zf a env v) (fun _ l=>
     TH (TK prog w) A (forIn ifs true fun c r=>if r=true then do let ok <- a1c c env (eval c env);pure (Wx ok) else pure (Wx r)) (fun ok g=>
      if ok=true then TH (TK prog w) A (eval elt env) (fun x o=>
       TH (TK prog w) A (call (.builtin "list.append") [q,x]) (fun _ p=>∃ m,m<n/\I m p) (fun _ _=>False) o) (fun _ _=>False) g
      else ∃ m,m<n/\I m g) (fun _ _=>False) l) (fun _ _=>False) e) (fun _ _=>False) d) (fun _ _=>False) s)
  (n:Nat)(h:I n s) :
  Yl (TK prog w) A (.compLoop (.ListComp elt [⟨a,iter,ifs,0⟩] scope pos) 0 E q env) R s:=by
 refine codeAny_loop rfl I (fun n s G=>?_) n h
 show TH _ A ((compTurn (.ListComp elt [⟨a,iter,ifs,0⟩] scope pos) 0 E q env).onRaise (fun x=>do noteFrame x env;theTreesLotGoes x)) _ _ s
 refine wpAny_noted ?_
 rw [compTurn_list]
 refine S3 (a0A (S3 (Uq (turn n s G) (fun r d i=>?_) fun _ _ b=>b.elim)))
 cases r with
 | none=>exact Tg i
 | some v=>
  refine S3 (Uq i (fun _ e u=>?_) fun _ _ b=>b.elim)
  refine S3 (Uq u (fun _ l y=>S3 (Uq y (fun ok g j=>?_) fun _ _ b=>b.elim)) fun _ _ b=>b.elim)
  cases ok with
  | false=>exact Tg ⟨rfl,j⟩
  | true=>
   exact S3 (S3 (Uq j (fun x o z=>S3 (Uq z (fun _ p B=>Tg (Tg ⟨rfl,B⟩)) fun _ _ b=>b.elim)) fun _ _ b=>b.elim))
noncomputable def nA (b:Hm)(a:Nat)(y:D):Option Hm:=match b[a]? with
 | some (.lst xs)=>if xs.length<Tj then some (b.set a (.lst (xs++[y]))) else none
 | _=>none
noncomputable abbrev BD:=D->Hm->Option aH
noncomputable def pI:BD:=fun d _=>some [some d]
noncomputable def B4 (k:Nat):BD:=fun d a=>(bP a d).bind fun xs=>if xs.length=k then some (xs.map some) else none
noncomputable def fZ (a:Hm->Nat->Option (Option D))(g:BD)(c:MT)(e:ME)(ρ:aH)(b:Nat):Nat->Nat->Hm->Option Hm
 | 0,_,_=>none
 | n+1,i,μ=>(a μ i).bind fun o=>match o with
  | none=>some μ
  | some d=>(g d μ).bind fun x=>(c (ρ++x) μ).bind fun p=>match p.1 with
   | true=>(e (ρ++x) p.2).bind fun q=>(nA q.2 b q.1).bind fun h=>fZ a g c e ρ b n (i+1) h
   | false=>fZ a g c e ρ b n (i+1) p.2
noncomputable def eZ:MT:=fun _ a=>some (true,a)
noncomputable def nB (X:Cx)(ifs:List Expr)(m:MT):Prop:=
 ∀ (a3L:List (Addr×VC))(s:S5)(σ:St)(H:Hp)(Q:Bool->Hp->Prop),Inv X a3L σ H s->cP X.K m σ H Q->
  TH (TK X.prog X.w) X.A (forIn ifs true fun c r=>if r=true then do let ok <- a1c c X.env (eval c X.env);pure (Wx ok) else pure (Wx r)) (TP X a3L σ Q) X.xe s
theorem Km {X:Cx}:nB X [] eZ:=by
 intro a s j H Q I h
 obtain ⟨e,i,g,b,d,R,E,c,k⟩:=h
 cases c
 exact wpAny_tests_nil ⟨H,I,k e H .refl R⟩
theorem Kn {X:Cx}{c:Expr}{m:MT}(h:PT X c (cP X.K m)):nB X [c] m:=fun a3L s σ H Q I q=>wpAny_tests_one (h a3L s σ H Q I q)
end L3
namespace L3
open PySem L2
section
variable {prog:TC}{w:T7}{A:TR}{E:S4->S5->Prop}{s:S5}
theorem B5 {e t:Addr}{items:Array S4}(h:t≠e):∀ (n i:Nat)(s:S5)(Q:List S4->S5->Prop),s.heap.IsListIter e t i->s.heap.IsList t items->i+n<=items.size->
  (∀ l,l.IsListIter e t (i+n)->W2 e s.heap l->Q ((items.toList.drop i).take n) { s with heap:=l })->TH (TK prog w) A (draw (.ref e) n) Q E s
 | 0,i,s,Q,hit,_,_,hQ=>by
  show TH _ _ (pure []) Q E s
  exact Tg (by simpa using hQ s.heap hit (ZX ..))
 | n+1,i,s,Q,hit,ht,hle,hQ=>by
  have g:i<items.size:=by omega
  show TH _ _ (Yo (.ref e) >>= _) Q E s
  refine S3 (a0Y hit ht (x:=items[i]) (by simp [g]) fun m b a=>?_)
  refine S3 (UB (B5 h n (i+1) _ _ b (ht.extBut a.extBut h) (by omega) fun j c d=>Tg ?_))
  have hd:items.toList.drop i=items[i]::items.toList.drop (i+1):=by simp [U7,g]
  have:=hQ j (by rw [show i+(n+1)=i+1+n by omega];exact c) (a.trans d)
  rw [hd,YJ] at this
  exact this
theorem Ko {t:Addr}{items:Array S4}{Q:List S4->S5->Prop}(r:A.handled=none)(j:s.heap.IsList t items)
  (q:∀ n,Zj s.heap.objs.size s.heap n->Q items.toList { s with heap:=n }):TH (TK prog w) A (unpackItems (.ref t) items.size none) Q E s:=by
 have i:t≠s.heap.objs.size:=by obtain ⟨o,u,_⟩:=j;exact TJ (Tp u)
 unfold unpackItems
 refine S3 ?_
 ·unfold notIterableAtAll
  refine S3 (a2S j.typeIs slot_list_iter.lookup ?_)
  refine Tg ?_
  simp only [Te,if_false]
  refine S3 (UB (a2q j ?_))
  refine S3 (UB (B5 i items.size 0 _ _ ⟨_,Tz _ rfl,rfl,rfl⟩ (j.push _) (by omega) fun l c a=>?_))
  have h:List.take items.size (List.drop 0 items.toList)=items.toList:=by
   rw [VQ];exact Vo (by simp)
  rw [h]
  rw [if_neg (by simp)]
  have g:l.IsList t items:=(j.push _).extBut a.extBut i
  refine S3 (UB (a1w r c g (by simp) fun m d=>?_))
  simp only [a0y,Te,if_false]
  refine Tg (q m fun b o p e=>d b o p (a.extBut b o p (S9 _ e)))
theorem Kp {env:YY}{a:List Expr} {x1} {pos:Vc}{t:Addr}{items:Array S4}{Q:Unit->S5->Prop}(d:A.handled=none)(g:s.heap.IsList t items)
  (e:(VL a env).length=items.size)(b:(VL a env).findIdx? (·.1)=none)
  (h:∀ c,Zj s.heap.objs.size s.heap c->TH (TK prog w) A (assignInOrder ((VL a env).map (·.2)) items.toList) Q E { s with heap:=c }) :
  TH (TK prog w) A (Zf (.Tuple a x1 pos) env (.ref t)) Q E s:=by
 rw [a3k]
 refine S3 (a0A ?_)
 unfold unpack
 rw [e,b]
 exact S3 (UB (Ko d g h))
end
noncomputable def lO:aH->List Nat->List D->aH
 | ρ,i::is,x::xs=>lO (ρ.set i (some x)) is xs
 | ρ,_,_=>ρ
noncomputable def fL (is:List Nat):MG:=fun d ρ a=>(bP a d).bind fun xs=>if xs.length=is.length then some (lO ρ is xs) else none
noncomputable def rS:List Nat->mU
 | []=>AG
 | i::r=>AH (uS i) (rS r)
theorem wG {K:S1}{π:Nat->Addr}{n:Nat}{H:Hp}:∀ (is:List Nat){vs:List V}{xs:List D}{σ:St}{ρ:aH}{Q:St->Hp->Prop},IsDs K π n H vs xs->En K π n H σ ρ->xs.length=is.length->(∀ a,En K π n H a (lO ρ is xs)->Q a H)->rS is vs σ H Q
 | [],vs,xs,σ,ρ,Q,h,E,hl,k=>by
  cases h with
  | nil=>exact ⟨rfl,k σ E⟩
  | cons h t=>cases hl
 | i::is,vs,xs,σ,ρ,Q,h,E,hl,k=>by
  cases h with
  | nil=>cases hl
  | cons h t=>exact ⟨_,_,rfl,wG is t (E.set h i) (by simpa using hl) k⟩
section
variable {X:Cx}{pos:Vc}
theorem Kq {es:List Expr}{k:Nat}{is:List Nat}(hc:X.calm=true)(h:oW X es (rS is))(K:(VL es X.env).length=is.length:=by rfl)(m:(VL es X.env).findIdx? (·.1)=none:=by rfl) :
  PG X (.Tuple es k pos) (fJ X.K (fL is)):=by
 intro i s w H v u Q I r hw
 obtain ⟨N,ρ,M,d,ρ',R,E,hd,U,L⟩:=hw
 obtain ⟨G,j,z⟩:=S0.mp U
 split at z
 ·rename_i p
  cases z
  have both:(∃ a g,v=.ref a/\SqT X.K H a g/\IsDs X.K N M.length H g G)\/(∃ a g,v=.ref a/\SqL X.K H a g/\IsDs X.K N M.length H g G):=by
   cases hd with
   | tup q t=>cases j;exact .inl ⟨_,_,rfl,q,t⟩
   | rol q t=>cases j;exact .inr ⟨_,_,rfl,q.sq,t⟩
   | @loc a ha=>
    simp only [bP] at j
    split at j
    ·rename_i ys Y
     cases j
     obtain ⟨g,O,T⟩:=R.lst a G Y
     exact .inr ⟨_,g,rfl,.of O,T⟩
    ·cases j
   | _=>cases j
  rcases both with ⟨a,g,rfl,q,t⟩|⟨a,g,rfl,q,t⟩
  ·cases r
   obtain ⟨l,n,A,Z⟩:=I.tuple q
   have c:l.length=is.length:=by rw [<- n.length,t.length];exact p
   refine a3j (I.ok.hd hc) A (by simp [K,c]) m fun y B=>?_
   have x:Inv X i w H { s with heap:=y }:=I.kept (t':=s.toks) fun b o e=>B b o (TJ (Tp e)) e
   exact h i _ w H g _ Q x (by simpa using n) (wG is t E p L)
  ·cases r
   obtain ⟨l,n,A,Z⟩:=I.list q
   have c:l.length=is.length:=by rw [<- n.length,t.length];exact p
   refine Kp (I.ok.hd hc) A.isList (by simp [K,c]) m fun y B=>?_
   have x:Inv X i w H { s with heap:=y }:=I.kept (t':=s.toks) fun b o e=>B b o (TJ (Tp e)) e
   exact h i _ w H g _ Q x (by simpa using n) (wG is t E p L)
 ·cases z
noncomputable def lP (m:ME)(g:MG):MS:=fun ρ b=>(m ρ b).bind fun p=>(g p.1 ρ p.2).map fun a=>(.nx,a,p.2)
theorem Kr {tg e:Expr}{m:ME}{g:MG}(q:PE X e (tM X.K m))(r:PG X tg (fJ X.K g))(s:swapsWithSole [tg] e pos.line X.env=pure false:=by rfl)(hw:a0C [tg] e X.env=pure none:=by rfl)
  (h1:(VL [tg] X.env).map (·.2)=[Zf tg X.env]:=by rfl):PS X (.Assign [tg] e pos) (cR X.K (lP m g)):=iI (G8 q r s hw h1) (by
 rintro E I H ⟨y,l,v,B,z,w,R,h,a,k⟩
 obtain ⟨⟨x,c⟩,h1,a⟩:=S0.mp a
 obtain ⟨A,p,a⟩:=S8.mp a
 cases a
 exact ⟨y,l,v,x,c,R,h,h1,fun b G o j i u=>⟨b,l,_,x,_,i,h.mono j,u,p,fun d n=>k b d o j i n⟩⟩)
end
section
variable {X:Cx}{K:S1}
noncomputable def pJ:MF:=fun ds a=>match ds with
 | [.str z]=>if z.length<=Tj then some (.int z.length,a) else none
 | [x]=>(bP a x).map fun b=>(.int b.length,a)
 | _=>none
noncomputable def wH (K:S1):List V->Hp->VK->Prop:=fun xs H Q=>(∃ p ys,xs=[.ref p]/\(SqL K H p ys\/SqT K H p ys)/\Q (.int ys.length) H)\/(∃ z,xs=[.str z]/\z.length<=Tj/\Q (.int z.length) H)
theorem call_lenM:CallR X (.builtin "len") (wH X.K):=call_len_seq.or IG
theorem pK {π:Nat->Addr}{b:Hm}{H:Hp}{v:V}{x:D}{xs:List D}(R:Rp K π H b)(h:IsD K π b.length H v x)(e:bP b x=some xs):∃ p vs,v=.ref p/\(SqL K H p vs\/SqT K H p vs)/\IsDs K π b.length H vs xs:=by
 cases h with
 | tup q t=>cases e;exact ⟨_,_,rfl,.inr q,t⟩
 | rol q t=>cases e;exact ⟨_,_,rfl,.inl q.sq,t⟩
 | @loc a i=>
  simp only [bP] at e
  split at e
  ·rename_i j g
   cases e
   obtain ⟨vs,c,d⟩:=R.lst a xs g
   exact ⟨_,vs,rfl,.inl (.of c),d⟩
  ·cases e
 | _=>cases e
theorem B6:d8 K pJ (wH K):=by
 intro b H o m d j l Q R i a k
 unfold pJ at a
 split at a
 ·split at a
  ·rename_i g
   cases a
   cases i with
   | cons i t=>cases i;cases t;exact .inr ⟨_,rfl,g,k b _ H .refl R (.int _)⟩
  ·cases a
 ·obtain ⟨n,c,e⟩:=S8.mp a
  cases e
  cases i with
  | cons i t=>
   cases t
   obtain ⟨p,h,rfl,q,hd⟩:=pK R i c
   refine .inl ⟨p,h,rfl,q,?_⟩
   rw [hd.length]
   exact k b _ H .refl R (.int _)
 ·cases a
noncomputable def pL:MF:=fun ds a=>match ds with
 | [x]=>(bP a x).map fun b=>(.loc a.length,a++[.lst b])
 | _=>none
theorem B7:d8 K pL (fun xs H Q=>∃ p ys,xs=[.ref p]/\(SqL K H p ys\/SqT K H p ys)/\∀ l,H l=none->Q (.ref l) (aN H l (.lst ys))):=by
 intro o H n xs d j m Q R i a k
 unfold pL at a
 split at a
 ·obtain ⟨ys,e,g⟩:=S8.mp a
  cases g
  cases i with
  | cons i t=>
   cases t
   obtain ⟨p,b,rfl,q,hd⟩:=pK R i e
   refine ⟨p,b,rfl,q,fun l h=>?_⟩
   obtain ⟨c,R2,_⟩:=R.alloc (c:=.lst ys) (o:=.lst b) h hd
   exact k _ _ _ c R2 gQ
 ·cases a
noncomputable def B8 (K:S1):List V->Hp->VK->Prop:=fun vs H Q=>∃ π a x v t c b,vs=[v,.ty c]/\Rp K π H a/\IsD K π a.length H v x/\rQ a x=some t/\rR t c=some b/\Q (.bl b) H
theorem Ks:d8 K c8 (B8 K):=by
 intro c H p o d m n Q R i a k
 unfold c8 at a
 split at a
 ·obtain ⟨t,e,a⟩:=S0.mp a
  obtain ⟨b,g,a⟩:=S8.mp a
  cases a
  cases i with
  | cons i j=>
   cases j with
   | cons h l=>
    cases l
    cases h
    exact ⟨c,_,_,_,t,_,b,rfl,R,i,e,g,k c _ H .refl R (.bl _)⟩
 ·cases a
theorem Kt:CallR X (.builtin "isinstance") (B8 X.K):=by
 intro L s σ H T us Q I r h
 obtain ⟨N,μ,x,v,t,c,b,rfl,R,i,d,l,q⟩:=h
 obtain ⟨u,u2,rfl,w,Z⟩:=HD r
 cases Z
 have fin:∀ M,EP X L σ Q (.bool b) { s with toks:=M }:=fun M=>⟨.bl b,H,I.tok M,rfl,q⟩
 cases i with
 | non=>cases d;cases w;exact Vz PySem.W.kitx_none I.kIn V8 (jF X.K (by simp) l) (fun z=>nomatch z) fin
 | bl y=>cases d;cases w;exact Vz PySem.W.kitx_bool I.kIn V8 (jF X.K (by simp) l) (fun z=>nomatch z) fin
 | int y=>cases d;obtain ⟨t,rfl⟩:=w;exact Vz PySem.W.kitx_int I.kIn V8 (jF X.K (by simp) l) (fun z=>nomatch z) fin
 | str y=>cases d;obtain ⟨t,rfl⟩:=w;exact Vz PySem.W.kitx_str I.kIn V8 (jF X.K (by simp) l) (fun z=>nomatch z) fin
 | tup g t=>
  cases d
  cases w
  obtain ⟨E,O,p,_⟩:=I.tuple g
  obtain ⟨o,e,j,_⟩:=p
  exact Vz PySem.W.kitx_tuple I.kIn ⟨o,e,j⟩ (jF X.K (by simp) l) (fun z=>nomatch z) fin
 | rol g t=>
  cases d
  cases w
  obtain ⟨E,O,p,_⟩:=I.list g.sq
  obtain ⟨o,e,j,_⟩:=p.isList
  exact Vz a0t I.kIn ⟨o,e,j⟩ (jF X.K (by simp) l) (fun z=>nomatch z) fin
 | @loc a ha=>
  cases w
  simp only [rQ] at d
  split at d
  ·rename_i T B
   cases d
   obtain ⟨G,A,h4⟩:=R.lst a T B
   obtain ⟨E,O,p,_⟩:=I.list (SqL.of (K:=X.K) A)
   obtain ⟨o,e,j,_⟩:=p.isList
   exact Vz a0t I.kIn ⟨o,e,j⟩ (jF X.K (by simp) l) (fun z=>nomatch z) fin
  ·rename_i m B
   cases d
   obtain ⟨G,A,_⟩:=R.dK a m B
   obtain ⟨_,_,ws,_,p⟩:=(show ObjOk X.prog X.w H s.heap (N a) (.dK G) from I.hok _ _ A)
   obtain ⟨o,Y,U,e,j,_⟩:=p
   exact Vz a0u I.kIn ⟨o,e,j.1⟩ (jF X.K (by simp) l) (fun z=>nomatch z) fin
  ·rename_i m B
   cases d
   obtain ⟨G,A,_⟩:=R.dT a m B
   obtain ⟨⟨ws,_,_,_,o,Y,U,e,j,_⟩,_⟩:=(show ObjOk X.prog X.w H s.heap (N a) (bE (N a) G) from I.hok _ _ A)
   exact Vz a0u I.kIn ⟨o,e,j.1⟩ (jF X.K (by simp) l) (fun z=>nomatch z) fin
  ·cases d
 | ty n=>cases d
end
noncomputable def j6:D->Option aG
 | .int i=>some (.inl i)
 | .str x=>some (.inr x)
 | _=>none
noncomputable def wI (kvs:List (aG×D))(k:aG)(d:D):List (aG×D):=
 if (kvs.any fun a=>decide (a.1=k))=true then kvs.map (fun a=>if a.1=k then (a.1,d) else a) else kvs++[(k,d)]
noncomputable def pM (kvs more:List (aG×D)):List (aG×D):=more.foldl (fun a b=>wI a b.1 b.2) kvs
noncomputable def fM (kvs:List (aG×D))(k:aG):Option D:=(kvs.find? fun a=>decide (a.1=k)).map (·.2)
inductive IsKs (K:S1)(π:Nat->Addr)(n:Nat)(H:Hp):List (aG×V)->List (aG×D)->Prop where
 | nil:IsKs K π n H [] []
 | cons {k:aG}{v:V}{d:D}{vs:List (aG×V)}{ds:List (aG×D)}(h:IsD K π n H v d)(t:IsKs K π n H vs ds):IsKs K π n H ((k,v)::vs) ((k,d)::ds)
section
variable {K:S1}{π π':Nat->Addr}{n n':Nat}{H H':Hp}
theorem IsKs.mono {vs:List (aG×V)}{ds:List (aG×D)}(e:Ext π n H π' n' H')(h:IsKs K π n H vs ds):IsKs K π' n' H' vs ds:=by
 induction h with
 | nil=>exact .nil
 | cons h t a=>exact .cons (h.mono e) a
theorem IsKs.maps {vs:List (aG×V)}{ds:List (aG×D)}(h:IsKs K π n H vs ds):vs.map (·.1)=ds.map (·.1)/\IsDs K π n H (vs.map (·.2)) (ds.map (·.2)):=by
 induction h with
 | nil=>exact ⟨rfl,.nil⟩
 | cons h t a=>exact ⟨by rw [Tr,Tr,a.1],.cons h a.2⟩
theorem IsKs.of:∀ {vs:List (aG×V)}{ds:List (aG×D)},vs.map (·.1)=ds.map (·.1)->IsDs K π n H (vs.map (·.2)) (ds.map (·.2))->IsKs K π n H vs ds
 | [],[],_,_=>.nil
 | [],_::_,h,_=>by cases h
 | _::_,[],h,_=>by cases h
 | (k,v)::vs,(k',d)::ds,h,t=>by
  rw [Tr,Tr] at h t
  injection h with h1 h2
  dsimp only at h1
  subst h1
  cases t with
  | cons a b=>exact .cons a (IsKs.of h2 b)
theorem IsKs.append {vs ws:List (aG×V)}{ds es:List (aG×D)}(h:IsKs K π n H vs ds)(a:IsKs K π n H ws es):IsKs K π n H (vs++ws) (ds++es):=by
 induction h with
 | nil=>exact a
 | cons h t b=>exact .cons h b
theorem IsKs.any {vs:List (aG×V)}{ds:List (aG×D)}(h:IsKs K π n H vs ds)(k:aG):(vs.any fun a=>decide (a.1=k))=ds.any fun a=>decide (a.1=k):=by
 induction h with
 | nil=>rfl
 | cons h t b=>rw [Xu,Xu,b]
theorem IsKs.repl {vs:List (aG×V)}{ds:List (aG×D)}(h:IsKs K π n H vs ds){v:V}{d:D}(c:IsD K π n H v d)(k:aG):IsKs K π n H (vs.map fun a=>if a.1=k then (a.1,v) else a) (ds.map fun a=>if a.1=k then (a.1,d) else a):=by
 induction h with
 | nil=>exact .nil
 | @cons g j i vs ds h t b=>
  rw [Tr,Tr]
  by_cases e:g=k
  ·simp only [e,if_true]
   exact .cons c b
  ·simp only [e,if_false]
   exact .cons h b
theorem IsKs.put {vs:List (aG×V)}{ds:List (aG×D)}(h:IsKs K π n H vs ds){v:V}{d:D}(a:IsD K π n H v d)(k:aG):IsKs K π n H (d4 vs k v) (wI ds k d):=by
 unfold d4 wI
 rw [h.any k]
 split
 ·exact h.repl a k
 ·exact h.append (.cons a .nil)
theorem IsKs.merge {ws:List (aG×V)}{es:List (aG×D)}(a:IsKs K π n H ws es):∀ {vs:List (aG×V)}{ds:List (aG×D)},IsKs K π n H vs ds->IsKs K π n H (lF vs ws) (pM ds es):=by
 induction a with
 | nil=>exact fun h=>h
 | cons h t c=>exact fun b=>c (b.put h _)
theorem IsKs.val {vs:List (aG×V)}{ds:List (aG×D)}(h:IsKs K π n H vs ds)(k:aG):(fM ds k=none/\dN vs k=none)\/∃ v d,fM ds k=some d/\dN vs k=some v/\IsD K π n H v d:=by
 induction h with
 | nil=>exact .inl ⟨rfl,rfl⟩
 | @cons a c b vs ds h t j=>
  by_cases e:a=k
  ·exact .inr ⟨c,b,by simp [fM,UG,e],by simp [dN,UG,e],h⟩
  ·have g:fM ((a,b)::ds) k=fM ds k:=by simp [fM,UG,e]
   have i:dN ((a,c)::vs) k=dN vs k:=by simp [dN,UG,e]
   rw [g,i]
   exact j
theorem IsKs.length {vs:List (aG×V)}{ds:List (aG×D)}(h:IsKs K π n H vs ds):vs.length=ds.length:=by
 induction h with
 | nil=>rfl
 | cons h t a=>rw [TF,TF,a]
theorem B9 {y:V}{d:D}{k:aG}(h:IsD K π n H y d)(e:j6 d=some k):y=kV k:=by
 cases h<;>first|cases e;done|(cases e;rfl)
end
noncomputable def lQ:List (ME×ME)->aH->Hm->Option (List (aG×D)×Hm)
 | [],_,μ=>some ([],μ)
 | (k,v)::r,ρ,μ=>(k ρ μ).bind fun p=>(v ρ p.2).bind fun q=>(j6 p.1).bind fun a=>(lQ r ρ q.2).map fun t=>((a,q.1)::t.1,t.2)
noncomputable def lR (b:List (ME×ME)):ME:=fun ρ a=>(lQ b ρ (a++[.dK []])).bind fun p=>match p.2[a.length]? with
 | some (.dK [])=>if p.1.length<=15 then some (.loc a.length,p.2.set a.length (.dK (pM [] p.1))) else none
 | _=>none
noncomputable def nC (K:S1)(a:List (ME×ME)):List (TE×TE):=a.map fun p=>(tM K p.1,tM K p.2)
theorem Ca {K:S1}:∀ (e:List (ME×ME)){π:Nat->Addr}{ρ:aH}{c a:Hm}{H:Hp}{σ:St}{kvs:List (aG×D)}{Q:List (V×V)->Hp->Prop},Rp K π H c->En K π c.length H σ ρ->lQ e ρ c=some (kvs,a)->
  (∀ d h i,Ext π c.length H d a.length h->Rp K d h a->IsKs K d a.length h i kvs->Q (i.map fun q=>(kV q.1,q.2)) h)->rH (nC K e) σ H Q
 | [],π,ρ,c,a,H,σ,kvs,Q,R,E,b,k=>by
  cases b
  exact k π H [] .refl R .nil
 | (mk,mv)::r,π,ρ,c,a,H,σ,kvs,Q,R,E,b,k=>by
  obtain ⟨⟨x,g⟩,w,b⟩:=S0.mp b
  obtain ⟨⟨y,l⟩,z,b⟩:=S0.mp b
  obtain ⟨M,A,b⟩:=S0.mp b
  obtain ⟨⟨Y,O⟩,B,b⟩:=S8.mp b
  cases b
  refine ⟨π,ρ,c,x,g,R,E,w,fun m Z U j u G=>⟨m,ρ,g,y,l,u,E.mono j,z,fun T N X o R2 I=>?_⟩⟩
  refine Ca r R2 ((E.mono j).mono o) B fun n s i p v L=>?_
  have:=B9 G A
  subst this
  exact k n s ((M,N)::i) ((j.trans o).trans p) v (.cons (I.mono p) L)
section
variable {X:Cx}{a b c:Expr}{ma mb mc:ME}{pos:Vc}
theorem Ku:jC X pos [] [] (nC X.K []):=Ic
theorem Kv {k v:Expr}{mk e:ME}{ks:List (Option Expr)}{vs:List Expr}{d:List (ME×ME)}(g:PE X k (tM X.K mk))(i:PE X v (tM X.K e))(h:jC X pos ks vs (nC X.K d)):jC X pos (some k::ks) (v::vs) (nC X.K ((mk,e)::d)):=Ie g i h
theorem Kw {keys:List (Option Expr)}{e:List Expr}{i:List (ME×ME)}(h:jC X pos keys e (nC X.K i))(j:keys.all (·.isSome)=true)(O:keys.length=e.length)(L:keys≠[])
  (r:keys.length<=15):PE X (.Dict keys e pos) (tM X.K (lR i)):=cD (Ih h j O L r) (by
 rintro σ H Q ⟨π,ρ,o,d,Y,R,E,g,k⟩ p T
 obtain ⟨⟨u,v⟩,M,g⟩:=S0.mp g
 split at g
 ·rename_i hc
  split at g
  ·rename_i l
   cases g
   obtain ⟨x,K,U⟩:=R.alloc (c:=.dK []) (o:=.dK []) T ⟨rfl,.nil⟩
   refine Ca i K (E.mono x) M fun q Z G y R2 B=>?_
   have m:o.length<v.length:=(S2.mp hc).1
   have n:q o.length=p:=by rw [y.pi o.length (by simp),U]
   obtain ⟨I,s,N,h5⟩:=R2.dK o.length [] hc
   have hw:I=[]:=by
    cases I with
    | nil=>rfl
    | cons z zs=>cases N
   subst hw
   obtain ⟨A,w⟩:=R2.put (a:=o.length) (c:=.dK (pM [] u)) (o:=.dK (lF [] G)) m s (.inr (.inl ⟨_,rfl⟩)) (IsKs.maps (B.merge .nil))
   rw [n] at s A w
   refine ⟨s,G,rfl,by rw [B.length];exact l,k q _ _ ((x.trans y).trans A) w ?_⟩
   rw [<- n]
   exact .loc (by rw [Wc];exact m)
  ·cases g
 ·cases g)
noncomputable def pN:D->D->Hm->Option (D×Hm)
 | .loc a,y,μ=>match μ[a]? with
  | some (.dK kvs)=>(j6 y).bind fun k=>(fM kvs k).map fun d=>(d,μ)
  | _=>none
 | _,_,_=>none
theorem Ky {K:S1}{π:Nat->Addr}{i:Hm}{H:Hp}{a:Nat}{kvs:List (aG×D)}(R:Rp K π H i)(h:i[a]? = some (.dK kvs)){y:V}{m:D}{k:aG}(r:IsD K π i.length H y m)(q:j6 m=some k) :
  (fM kvs k=none/\DGet H (π a) y none)\/∃ v d,fM kvs k=some d/\DGet H (π a) y (some v)/\IsD K π i.length H v d:=by
 obtain ⟨u,n,o,p⟩:=R.dK a kvs h
 have e:=B9 r q
 subst e
 have g:=DGet.k (k:=k) n
 rcases (IsKs.of o p).val k with ⟨j,l⟩|⟨v,d,j,l,s⟩
 ·exact .inl ⟨j,by rw [<- l];exact g⟩
 ·exact .inr ⟨v,d,j,by rw [<- l];exact g,s⟩
theorem Kz (o:X.A.units+1<Vg)(l:PE X a (tM X.K ma))(m:PE X b (tM X.K mb))(n:rG b):PE X (.Subscript a b pos) (tM X.K (aB pN ma mb)):=cD (Ia o l m n) (by
 intro A H Q h
 refine mZ (r:=fun x y H Q=>∃ a v,x=.ref a/\DGet H a y (some v)/\Q v H) ?_ A H Q h
 intro z H L x y d w I K Q R p q e k
 unfold pN at e
 split at e
 ·split at e
  ·rename_i r hc
   obtain ⟨G,j,e⟩:=S0.mp e
   obtain ⟨B,g,e⟩:=S8.mp e
   cases e
   cases p
   rcases Ky R hc q j with ⟨i,_⟩|⟨v,E,i,s,u⟩
   ·rw [i] at g;cases g
   ·rw [i] at g
    cases g
    exact ⟨_,v,rfl,s,k z _ H .refl R u⟩
  ·cases e
 ·cases e)
end
theorem e8 {k:Nat}{A:TR}(r:Room k A):A.units+1<Vg:=by have:=r.un;omega
noncomputable def pO (a:ME):ME:=fun ρ b=>(a ρ b).bind fun p=>(v7 p.1).map fun d=>(d,p.2)
end L3
namespace L3
open PySem L2
noncomputable def fA (a:List (Str×Addr)):List (Str×V3)->List (Str×Addr)->List (Str×Addr)
 | [],acc=>acc
 | (n,k)::r,acc=>if k=.free then (match a.lookup n with|some c=>fA a r ((n,c)::acc)|none=>fA a r acc) else fA a r acc
theorem Cb {env:YY}:∀ (names:List (Str×V3))(a:List (Str×Addr)),(∀ y∈names,y.2=.free->∃ c,env.cells.lookup y.1=some c)->
  (forIn names a fun (x:Str×V3)(d:List (Str×Addr))=>(do
   if x.2 == .free then (do let c <- cellOf env x.1;pure (Wx ((x.1,c)::d))) else pure (Wx d):a1h (ForInStep (List (Str×Addr)))))=pure (fA env.cells names a)
 | [],a,_=>rfl
 | (n,k)::r,a,h=>by
  have g:=fun a=>Cb r a fun y i=>h y (Tw _ i)
  rw [List.forIn_cons]
  by_cases b:k=.free
  ·subst b
   obtain ⟨c,hc⟩:=h (n,.free) (Tt ..) rfl
   dsimp only at hc
   have e:cellOf env n=pure c:=by unfold cellOf;rw [hc]
   simp only [fA,hc,e,beq_self_eq_true,if_true,pure_bind]
   exact g _
  ·have e:(k == VE)=false:=by simpa using b
   simp only [fA,e,b,if_false,Te,pure_bind]
   exact g _
theorem KA {scope:Wb}{env:YY}(h:∀ y∈scope.names,y.2=.free->∃ c,env.cells.lookup y.1=some c):a2h scope env=pure (fA env.cells scope.names []):=by
 have:=Cb (env:=env) scope.names [] h
 unfold a2h
 simp only [bind_pure] at *
 exact this
theorem rV {a:List (Str×Addr)}:∀ (names:List (Str×V3))(b:List (Str×Addr)),(∀ y c,b.lookup y=some c->a.lookup y=some c)->∀ y c,(fA a names b).lookup y=some c->a.lookup y=some c
 | [],b,h=>h
 | (n,k)::r,b,h=>by
  unfold fA
  split
  ·split
   ·rename_i g hc
    refine rV r _ fun y c e=>?_
    rw [Xi] at e
    by_cases d:y=n
    ·subst d
     simp only [beq_self_eq_true] at e
     cases e
     exact hc
    ·have:(y == n)=false:=by simpa using d
     rw [this] at e
     exact h y c e
   ·exact rV r b h
  ·exact rV r b h
theorem rW {b:List (Str×Addr)}:∀ (names:List (Str×V3))(a:List (Str×Addr))(y:Str),(∃ c,a.lookup y=some c)->∃ c,(fA b names a).lookup y=some c
 | [],a,y,h=>h
 | (n,k)::r,a,y,h=>by
  unfold fA
  split
  ·split
   ·refine rW r _ y ?_
    rw [Xi]
    by_cases d:(y == n)=true
    ·rw [d];exact ⟨_,rfl⟩
    ·have:(y == n)=false:=by simpa using d
     rw [this]
     exact h
   ·exact rW r a y h
  ·exact rW r a y h
theorem rX {a:List (Str×Addr)}:∀ (names:List (Str×V3))(b:List (Str×Addr))(y:Str),(y,VE)∈names->(∃ c,a.lookup y=some c)->∃ c,(fA a names b).lookup y=some c
 | [],b,y,h,_=>by cases h
 | (n,k)::r,b,y,h,hc=>by
  unfold fA
  rcases T5.mp h with h|h
  ·cases h
   obtain ⟨c,hc⟩:=hc
   rw [if_pos rfl,hc]
   exact rW r _ _ ⟨c,by simp [Xi]⟩
  ·split
   ·split
    ·exact rX r _ y h hc
    ·exact rX r _ y h hc
   ·exact rX r _ y h hc
structure CompSt (osc:Wb)(N:List Str)(scope:Wb)(xs:List Str):Prop where
 nocell:∀ y∈scope.names,y.2≠.cell
 kind:scope.kind=.function
 names:∀ y∈scope.names,y.2=.local->scope.names.lookup y.1=some .local
 here:∀ x∈xs,scope.names.lookup x=some .local
 free:∀ y∈scope.names,y.2=.free->osc.names.lookup y.1=some .cell\/osc.names.lookup y.1=some .free
 own:∀ y∈scope.names,y.2=.local->y.1∉bI xs N
 nd:N.Nodup
 hnd:(bI xs N).Nodup
 hidn:∀ y∈N,xs.contains y=true->scope.names.lookup (m9 y)=none
theorem CompSt.ok {X:Cx}{scope:Wb}{xs:List Str}(S:CompSt X.env.scope X.N scope xs)(ok:X.Ok):CompOk X scope (fA X.env.cells scope.names []) xs:=by
 have has:∀ y∈scope.names,y.2=.free->∃ c,X.env.cells.lookup y.1=some c:=fun y d b=>ok.has y.1 (S.free y d b)
 refine ⟨KA has,S.nocell,S.kind,S.names,S.here,rV scope.names [] (fun y c e=>by cases e),fun y e=>?_,fun y e=>?_,S.hidn⟩
 ·have a:=UL e
  exact ⟨S.free _ a rfl,rX scope.names [] y a (has _ a rfl)⟩
 ·exact S.own _ (UL e) rfl
end L3
namespace L3
open PySem L2
section
variable {X:Cx}{pos:Vc}
end
end L3
namespace L3
open PySem L2
noncomputable def c9 (e:Expr):Bool:=!(e.ctorIdx == 22)
theorem f6 {e:Expr}{es:List Expr}{env:YY}(h:c9 e=true):Uh (e::es) env=(false,eval e env)::Uh es env:=by
 cases e<;>first|rfl|cases h
theorem j7 {pos:Vc}{env:YY}:∀ {es:List Expr},es.all c9=true->(Wa pos (Uh es env)).any (·.1)=false
 | [],_=>rfl
 | e::es,h=>by
  rw [UE,Ti] at h
  rw [f6 h.1]
  have:=j7 (pos:=pos) (env:=env) h.2
  simpa [Wa] using this
theorem rY {e:Expr}{es:List Expr}{env:YY}(h:c9 e=true):VL (e::es) env=(false,Zf e env)::VL es env:=by
 cases e<;>first|rfl|cases h
theorem Cd {env:YY}:∀ {es:List Expr},es.all c9=true->(VL es env).length=es.length
 | [],_=>rfl
 | e::es,h=>by
  rw [UE,Ti] at h
  rw [rY h.1,TF,TF,Cd h.2]
theorem Ce {env:YY}:∀ {es:List Expr},es.all c9=true->(VL es env).findIdx? (·.1)=none
 | [],_=>rfl
 | e::es,h=>by
  rw [UE,Ti] at h
  rw [rY h.1,List.findIdx?_cons,Ce h.2]
  rfl
section
variable {X:Cx}{e a b c:Expr}{es:List Expr}{m:ME}{ms:MA}{pos:Vc}
end
end L3
namespace L3
open PySem L2
structure QE (X:Cx)(e:Expr)(m:ME):Prop where
 h:PE X e (tM X.K m)
structure QT (X:Cx)(e:Expr)(m:MT):Prop where
 h:PT X e (cP X.K m)
structure QW (X:Cx)(e:Expr)(m:MT):Prop where
 h:PW X e (cP X.K m)
structure QA (X:Cx)(es:List Expr)(m:MA)(n:Nat):Prop where
 h:PA X es (d5 X.K m)
 l:∀ ρ μ ds μ',m ρ μ=some (ds,μ')->ds.length=n
 s:es.all c9=true
structure QO (X:Cx)(e:Option Expr)(m:MO):Prop where
 h:PO X e (pH X.K m)
structure QS (X:Cx)(st:Stmt)(m:MS):Prop where
 h:PS X st (cR X.K m)
structure QB (X:Cx)(st:List Stmt)(m:MS):Prop where
 h:PSs X st (cR X.K m)
structure QG (X:Cx)(e:Expr)(g:MG):Prop where
 h:PG X e (fJ X.K g)
structure QGs (X:Cx)(es:List Expr)(is:List Nat):Prop where
 h:oW X es (rS is)
 n:es.length=is.length
 s:es.all c9=true
structure QI (X:Cx)(ifs:List Expr)(m:MT):Prop where
 h:nB X ifs m
structure QP (X:Cx)(pos:Vc)(keys:List (Option Expr))(values:List Expr)(prs:List (ME×ME)):Prop where
 h:jC X pos keys values (nC X.K prs)
 a:keys.all (·.isSome)=true
 l:keys.length=values.length
section
variable {X:Cx}{e a b c:Expr}{m ma mb mc:ME}{pos:Vc}{mt mu:MT}{rest es:List Expr}{ms:MA}{n:Nat}
theorem KG {x:Str}(i:Nat)(g:X.N[i]? = some x:=by rfl)(h:oV X.env.scope x:=by first|exact a1A rfl|exact a0w (a1A rfl)|exact a0w (a0w rfl))(hd:(x == ("__debug__":Str))=false:=by decide)
  (d:(x == ("__classdict__":Str))=false:=by decide):QE X (.Name x pos) (aA i):=⟨Jh i (Gm g h hd d)⟩
theorem KH {i:Int}{j:Nat}:QE X (.Constant (.int i) j pos) (mC (.int i)):=⟨Ji⟩
theorem KI {i:Bool}{j:Nat}:QE X (.Constant (.bool i) j pos) (mC (.bl i)):=⟨Jj⟩
theorem KJ {i:Str}{j:Nat}:QE X (.Constant (.str i) j pos) (mC (.str i)):=⟨Jk⟩
theorem KL {j:Nat}:QE X (.Constant .none j pos) (mC .non):=⟨Jl⟩
theorem pP {op:a0k}{r:R2}{f:D->D->Hm->Option (D×Hm)}(i:OpR X (WT op) r)(h:cL X.K f r)(d:QE X a ma)(g:QE X b mb):QE X (.BinOp a op b pos) (aB f ma mb):=⟨Jm i h d.h g.h⟩
theorem KN (d:QE X a ma)(g:QE X b mb):QE X (.BinOp a .Add b pos) (aB cM ma mb):=pP Kc Kd d g
theorem KO (d:QE X a ma)(g:QE X b mb):QE X (.BinOp a .Sub b pos) (aB c7 ma mb):=pP Ht J6 d g
theorem KP (d:QE X a ma)(g:QE X b mb):QE X (.BinOp a .Mult b pos) (aB cF ma mb):=pP J4 J8 d g
theorem KQ (d:QE X a ma)(g:QE X b mb):QE X (.BinOp a .FloorDiv b pos) (aB dP ma mb):=pP J5 J9 d g
theorem KR (d:QE X a ma)(g:QE X b mb):QE X (.BinOp a .Mod b pos) (aB bN ma mb):=pP Hu Ka d g
theorem KS (d:QE X a ma):QE X (.UnaryOp .USub a pos) (pO ma):=⟨Ke d.h⟩
theorem KU (d:QE X a ma):QE X (.UnaryOp .Not a pos) (lM ma):=⟨Jv d.h⟩
theorem KW {k:Nat}(h:Room k X.A)(d:QE X a ma)(g:QE X b mb):QE X (.Compare a [.Eq] [b] pos) (aB (a8 false) ma mb):=⟨d6 (BY (rP h)) rO d.h g.h (cZ _)⟩
theorem KY {k:Nat}(h:Room k X.A)(d:QE X a ma)(g:QE X b mb):QE X (.Compare a [.NotEq] [b] pos) (aB (a8 true) ma mb):=⟨d6 (BZ (rP h)) rO d.h g.h (cZ _)⟩
theorem KZ (d:QE X a ma)(g:QE X b mb):QE X (.Compare a [.Lt] [b] pos) (aB dQ ma mb):=⟨d6 uZ fY d.h g.h (cZ _)⟩
theorem K0 (d:QE X a ma)(g:QE X b mb):QE X (.Compare a [.LtE] [b] pos) (aB m8 ma mb):=⟨d6 u1 fY d.h g.h (cZ _)⟩
theorem K1 (d:QE X a ma)(g:QE X b mb):QE X (.Compare a [.Gt] [b] pos) (aB wB ma mb):=⟨d6 u3 fY d.h g.h (cZ _)⟩
theorem K2 (d:QE X a ma)(g:QE X b mb):QE X (.Compare a [.GtE] [b] pos) (aB wC ma mb):=⟨d6 u4 fY d.h g.h (cZ _)⟩
noncomputable def eF (e:Expr):Bool:=!(e.ctorIdx == 7)
theorem f7 {op:XF}{b:Expr}(h:eF b=true):Wq op b=false:=by
 cases b<;>first|rfl|cases h
theorem K3 {op:BoolOp}(h:QE X a m):QE X (.BoolOp op [a] pos) m:=⟨Js h.h⟩
theorem K4 (d:QE X a ma)(g:QE X (.BoolOp .And (b::rest) pos) mb):QE X (.BoolOp .And (a::b::rest) pos) (cS ma mb):=⟨Jt d.h g.h⟩
theorem K5 (d:QE X a ma)(g:QE X (.BoolOp .Or (b::rest) pos) mb):QE X (.BoolOp .Or (a::b::rest) pos) (vQ ma mb):=⟨Ju d.h g.h⟩
theorem K6 (hc:QT X c mt)(d:QE X a ma)(g:QE X b mb):QE X (.IfExp c a b pos) (iJ mt ma mb):=⟨Jw hc.h d.h g.h⟩
theorem K7:QA X [] aD 0:=⟨Jx,JC,rfl⟩
theorem K8 (g:QE X e m)(d:QA X es ms n)(h:c9 e=true:=by rfl):QA X (e::es) (aC m ms) (n+1):=⟨Jy g.h d.h (f6 h),JD d.l,by rw [UE,h,d.s];rfl⟩
theorem K9 {d:Nat}(h:QA X es ms n):QE X (.Tuple es d pos) (cC ms):=⟨Jz h.h⟩
theorem La (h:QA X es ms n):QE X (.List es pos) (c6 ms):=⟨JA h.h⟩
noncomputable def lS (e:Expr):Bool:=!(e.ctorIdx == 26)
theorem wJ {b:Expr}(h:lS b=true):vH b:=by
 intro o i
 cases b<;>first|rfl|cases h
theorem Lb (d:QE X a ma)(g:QE X b mb)(h:lS b=true:=by rfl):QE X (.Subscript a b pos) (aB fV ma mb):=⟨JJ d.h g.h (wJ h)⟩
theorem Lc {k:Nat}(i:Room k X.A)(d:QE X a ma)(g:QE X b mb)(h:lS b=true:=by rfl):QE X (.Subscript a b pos) (aB pN ma mb):=⟨Kz (e8 i) d.h g.h (wJ h)⟩
theorem Ld:QO X none pG:=⟨JK⟩
theorem Le (h:QE X e m):QO X (some e) (iL m):=⟨JL h.h⟩
theorem Lf {lo d:Option Expr}{h g:MO}{o:Vc}(i:QE X a ma)(j:QO X lo h)(l:QO X d g):QE X (.Subscript a (.Slice lo d none o) pos) (iM ma h g):=⟨JQ i.h j.h l.h⟩
theorem Lg {k:Nat}{f:Addr}{i:VO}{ps:List Str}{j:MF}{x:Str}{p:Vc}(F:FnOk X.prog X.w X.K X.mg X.base eX k f i ps (iH X.K n j))(s:Room k X.A)(r:X.mg x=some (.ref f))
  (q:Vl X.K (.ref f)=true)(l:Binds X.K i ps [])(d:QA X (e::es) ms n)(o:Gl X x:=by rfl)(g:(x == ("__debug__":Str))=false:=by decide):QE X (.Call (.Name x p) (e::es) [] pos) (aI j ms):=by
 have h:=d.s
 rw [UE,Ti] at h
 exact ⟨JE F s o r q l d.h d.l g (f6 h.1) (j7 h.2)⟩
theorem wK {f:MF}{r:List V->Hp->VK->Prop}{id:String}{x:Str}{p:Vc}(hc:CallR X (.builtin id) r)(i:d8 X.K f r)(l:X.mg x=none)(q:Va x=some (.builtin id))(h:QA X (e::es) ms n)
  (j:Gl X x:=by rfl)(o:x ≠ "__name__":=by decide) (d:(x == ("__debug__":Str))=false:=by decide):QE X (.Call (.Name x p) (e::es) [] pos) (aI f ms):=by
 have g:=h.s
 rw [UE,Ti] at g
 exact ⟨JF hc i j l q h.h o d (f6 g.1) (j7 g.2)⟩
theorem Lh {f:MF}{r:List V->Hp->VK->Prop}{T:String}{x:Str}{p:Vc}(hc:CallR X (.type T) r)(i:d8 X.K f r)(l:X.mg x=none)(q:Va x=some (.type T))(h:QA X (e::es) ms n)
  (j:Gl X x:=by rfl)(o:x ≠ "__name__":=by decide) (d:(x == ("__debug__":Str))=false:=by decide):QE X (.Call (.Name x p) (e::es) [] pos) (aI f ms):=by
 have g:=h.s
 rw [UE,Ti] at g
 exact ⟨JG hc i j l q h.h o d (f6 g.1) (j7 g.2)⟩
theorem Li {x:Str}{n:String}(g:X.mg x=none)(i:Va x=some (.type n))(d:Gl X x:=by rfl)(h:x ≠ "__name__":=by decide) (hd:(x == ("__debug__":Str))=false:=by decide):QE X (.Name x pos) (mC (.ty n)):=⟨Kf d g i h hd⟩
theorem Lj:QP X pos [] [] []:=⟨Ku,rfl,rfl⟩
theorem Ll {k v:Expr}{mk h:ME}{ks:List (Option Expr)}{vs:List Expr}{d:List (ME×ME)}(i:QE X k mk)(j:QE X v h)(g:QP X pos ks vs d):QP X pos (some k::ks) (v::vs) ((mk,h)::d):=
 ⟨Kv i.h j.h g.h,by rw [UE,g.a];rfl,by rw [TF,TF,g.l]⟩
theorem Lm {k:Option Expr}{keys:List (Option Expr)}{d:List Expr}{g:List (ME×ME)}(h:QP X pos (k::keys) d g)(i:(k::keys).length<=15:=by decide):QE X (.Dict (k::keys) d pos) (lR g):=⟨Kw h.h h.a h.l (by simp) i⟩
theorem Ln {k:Nat}(h:Room k X.A)(d:QE X a ma)(g:QE X b mb):QT X (.Compare a [.Eq] [b] pos) (aW (aB (a8 false) ma mb)):=⟨d7 (BY (rP h)) rO d.h g.h (cZ _)⟩
theorem Lo {k:Nat}(h:Room k X.A)(d:QE X a ma)(g:QE X b mb):QT X (.Compare a [.NotEq] [b] pos) (aW (aB (a8 true) ma mb)):=⟨d7 (BZ (rP h)) rO d.h g.h (cZ _)⟩
theorem Lp (d:QE X a ma)(g:QE X b mb):QT X (.Compare a [.Lt] [b] pos) (aW (aB dQ ma mb)):=⟨d7 uZ fY d.h g.h (cZ _)⟩
theorem Lq (d:QE X a ma)(g:QE X b mb):QT X (.Compare a [.LtE] [b] pos) (aW (aB m8 ma mb)):=⟨d7 u1 fY d.h g.h (cZ _)⟩
theorem Lr (d:QE X a ma)(g:QE X b mb):QT X (.Compare a [.Gt] [b] pos) (aW (aB wB ma mb)):=⟨d7 u3 fY d.h g.h (cZ _)⟩
theorem Lu (d:QE X a ma)(g:QE X b mb):QT X (.Compare a [.GtE] [b] pos) (aW (aB wC ma mb)):=⟨d7 u4 fY d.h g.h (cZ _)⟩
noncomputable def wL:Expr->Bool
 | .UnaryOp .Not ..=>false
 | .BoolOp ..=>false
 | .IfExp ..=>false
 | .Compare ..=>false
 | _=>true
theorem Lv {e:Expr}{env:YY}(h:wL e=true):∀ d,a1c e env d=(do let v <- d;standAt e.pos;holding [v] (truthy v)):=by
 intro d
 cases e<;>first|rfl|cases h|skip
 rename_i g x p
 cases g<;>first|rfl|cases h
theorem Lx (d:QT X a mt):QT X (.UnaryOp .Not a pos) (dO mt):=⟨Jr d.h⟩
theorem Ly (d:QT X a mt):QW X (.BoolOp .And [a] pos) mt:=⟨Jn d.h⟩
theorem Lz (d:QT X a mt):QW X (.BoolOp .Or [a] pos) mt:=⟨Jo d.h⟩
theorem LA (d:QT X a mt)(g:QW X (.BoolOp .And (b::rest) pos) mu):QW X (.BoolOp .And (a::b::rest) pos) (gO mt mu):=⟨Jp d.h g.h⟩
theorem LB (d:QT X a mt)(g:QW X (.BoolOp .Or (b::rest) pos) mu):QW X (.BoolOp .Or (a::b::rest) pos) (gP mt mu):=⟨Jq d.h g.h⟩
theorem LC (h:QW X e mt):QT X e mt:=⟨h.h.pt⟩
theorem LD:QI X [] eZ:=⟨Km⟩
theorem LF (h:QT X c mt):QI X [c] mt:=⟨Kn h.h⟩
end
section
variable {X:Cx}{e a b c:Expr}{m:ME}{pos:Vc}{mt:MT}{st:Stmt}{rest body orelse:List Stmt}{ms mr mu:MS}{n:Nat}{is:List Nat}{es:List Expr}{g:MG}
theorem LG:QB X [] bG:=⟨JR⟩
theorem LH (h1:QS X st ms)(d:QB X rest mr):QB X (st::rest) (aL ms mr):=⟨JS h1.h d.h⟩
theorem LI (h1:QS X st ms):QB X [st] ms:=⟨JT h1.h⟩
theorem LJ:QS X (.Pass pos) bG:=⟨JU⟩
theorem LK (d:QE X e m):QS X (.Return (some e) pos) (aS m):=⟨JV d.h⟩
noncomputable def jH (e:Expr):Bool:=!(e.ctorIdx == 8||e.ctorIdx == 9||e.ctorIdx == 10)
theorem wM {e:Expr}{t:Option Expr}{n:Nat}{env:YY}(h:jH e=true):Yb e t n env=pure false:=by
 cases e<;>first|rfl|cases h
theorem LL (d:QE X e m)(h:jH e=true:=by rfl):QS X (.Expr e pos) (d9 m):=⟨JW d.h (wM h)⟩
theorem LM (hc:QT X c mt)(d:QB X body ms)(h:QB X orelse mu):QS X (.If c body orelse pos) (bH mt ms mu):=⟨JX hc.h d.h h.h⟩
theorem LN (i:Nat){x:Str}{d:Vc}(j:X.N.Nodup)(l:QE X e m)(h:jH e=true:=by rfl)(p:X.N[i]? = some x:=by rfl)(q:Loc X.env.scope x:=by first|exact a1A rfl|exact a0w rfl)
  (o:X.fn x=true\/X.env.scope.names.lookup x=some .local:=by first|exact .inl rfl|exact .inr rfl):QS X (.Assign [.Name x d] e pos) (bC i m):=⟨BM j p q l.h (wM h) o⟩
theorem LO (i:Nat){x:Str}(d:X.N.Nodup)(j:X.N[i]? = some x:=by rfl)(l:Loc X.env.scope x:=by first|exact a1A rfl|exact a0w rfl)
  (h:X.fn x=true\/X.env.scope.names.lookup x=some .local:=by first|exact .inl rfl|exact .inr rfl):QG X (.Name x pos) (cT i):=⟨B1 d j l h⟩
theorem Cf:QGs X [] []:=⟨G6,rfl,rfl⟩
theorem Cg (i:Nat){x:Str}(h:X.N.Nodup)(d:QGs X es is)(l:X.N[i]? = some x:=by rfl)(o:Loc X.env.scope x:=by first|exact a1A rfl|exact a0w rfl)
  (j:X.fn x=true\/X.env.scope.names.lookup x=some .local:=by first|exact .inl rfl|exact .inr rfl):QGs X (.Name x pos::es) (i::is):=
 ⟨G7 (AF h l o j) d.h (by rw [rY (e:=.Name x pos) rfl];rfl),by rw [TF,TF,d.n],by rw [UE,d.s];rfl⟩
theorem wN {k:Nat}(h:QGs X es is)(hc:X.calm=true:=by rfl):QG X (.Tuple es k pos) (fL is):=⟨Kq hc h.h ((Cd h.s).trans h.n) (Ce h.s)⟩
noncomputable def wO (e:Expr):Bool:=!(e.ctorIdx == 25)
theorem LP {es:List Expr}{k:Nat}{pt:Vc}{e:Expr}{env:YY}(h:wO e=true):a0C [.Tuple es k pt] e env=pure none:=by
 cases e<;>first|rfl|cases h
theorem LQ {k:Nat}{pt:Vc}(d:QE X e m)(i:QG X (.Tuple es k pt) g)(h:wO e=true:=by rfl):QS X (.Assign [.Tuple es k pt] e pos) (lP m g):=
 ⟨Kr d.h i.h (by cases e<;>rfl) (LP h) (by rw [rY (e:=.Tuple es k pt) rfl];rfl)⟩
end
section
variable {P:TC}{w:T7}{K:S1}{mg:Str->Option S4}{base:UA}
theorem LR {x a:Str}{st:Stmt}{f:Addr}{g:VO}{N ps:List Str}{k:Nat}{body:List Stmt}{m:MS}(F:Fun K x a st f g)(S:FnScope N ps (cI st))(e:ps.length<=N.length)(d:fI st=body)
  (c:∀ (b:S4)(A:TR)(outer:List YY)(s:S5)(H:Hp)(E:XK),Room k (A.deeper (ZA a (cI st) s.heap.objs.size f b))->
   QB (jB eX P w K mg base N a (cI st) f b A outer s H E).nox body m):FnOk P w K mg base eX (k+1) f g ps (iH K ps.length (vT N.length m)):=
 JZ F S e fun b A outer s H E h=>by
  rw [d]
  exact (c b A outer s H E h).h
end
end L3
namespace L3
open PySem L2
noncomputable abbrev j8:=Hm->Nat->Option (Option D)
noncomputable abbrev MI:=aH->Hm->Option (j8×Nat×Hm)
noncomputable def jI (K:S1)(m:MI):TI:=fun σ H R=>∃ π ρ e c n a,Rp K π H e/\En K π e.length H σ ρ/\m ρ e=some (c,n,a) /\
 ∀ b d J,Ext π e.length H b a.length d->Rp K b d a->Wk K J c b a.length d->R J d
structure QJ (X:Cx)(e:Expr)(m:MI):Prop where
 h:∀ tg,PI X tg e (jI X.K m)
section
variable {X:Cx}{pos:Vc}{e:Expr}{m:ME}
noncomputable def wQ:MI:=fun _ _=>none
theorem j_bad:QJ X e wQ:=⟨fun tg a3L s σ H R I hw=>by
 obtain ⟨h,i,g,b,n,c,d,E,a,k⟩:=hw
 cases a⟩
noncomputable def j9 (a:Hm):D->Option (List D)
 | d=>bP a d
noncomputable def gT (x:D):j8:=fun a i=>(j9 a x).map fun xs=>xs[i]?
noncomputable def cG (m:ME):MI:=fun ρ a=>(m ρ a).bind fun p=>(j9 p.2 p.1).map fun xs=>(gT p.1,xs.length+1,p.2)
theorem LS (h:QE X e m):QJ X e (cG m):=⟨fun tg a3L s σ H R I hw=>by
 obtain ⟨M,N,K,B,n,L,u,E,b,k⟩:=hw
 obtain ⟨⟨x,j⟩,w,b⟩:=S0.mp b
 obtain ⟨G,y,b⟩:=S8.mp b
 cases b
 have g:∀ (p:bP j x=some G)(r:gT x=jG x),TH (TK X.prog X.w) X.A (eval e X.env) (fun v A=>TH (TK X.prog X.w) X.A (ZQ v) (rA X a3L σ tg R) X.xe A) X.xe s:=fun p r=>by
  refine Kh h.h a3L s σ H R I ⟨M,N,K,x,_,u,E,w,fun c O l o d z=>?_⟩
  obtain ⟨a,e,q⟩:=Ki d z p
  subst e
  refine ⟨a,rfl,?_⟩
  dsimp only at k
  rw [r] at k
  rcases q with ⟨i,W⟩|⟨i,W⟩
  ·exact .inl ⟨i,k c l _ o d W⟩
  ·exact .inr ⟨i,k c l _ o d W⟩
 cases x with
 | _=>exact g y rfl⟩
noncomputable def iN (a:MA):MI:=fun ρ b=>(a ρ b).bind fun p=>match p.1 with
 | [.int j]=>if -(2 ^ 62)<=j/\j<2 ^ 62 then some (fK 0 j.toNat,j.toNat+1,p.2) else none
 | _=>none
theorem LU {a:Expr}{r:MA}{n:Nat}{p:Vc}(c:Gl X "range") (d:X.mg "range" = none) (l:QA X [a] r n):QJ X (.Call (.Name "range" p) [a] [] pos) (iN r):=⟨fun tg a3L s σ H R I hw=>by
 have q:=l.s
 rw [UE,Ti] at q
 obtain ⟨L,M,G,A,N,K,w,E,b,k⟩:=hw
 obtain ⟨⟨x,h⟩,z,b⟩:=S0.mp b
 refine Hi c d l.h (f6 q.1) a3L s σ H R I ⟨L,M,G,x,h,w,E,z,fun i O u y v g=>?_⟩
 dsimp only at b
 split at b
 ·rename_i j
  split at b
  ·rename_i o
   cases b
   cases g with
   | cons g B=>
    cases g
    cases B
    exact ⟨j,rfl,o.1,o.2,k i u _ y v B2⟩
  ·cases b
 ·cases b⟩
noncomputable def kB (a:MA):MI:=fun ρ b=>(a ρ b).bind fun p=>match p.1 with
 | [.int i,.int j]=>if -(2 ^ 62)<=i/\i<2 ^ 62/\-(2 ^ 62)<=j/\j<2 ^ 62 then some (fK i (j - i).toNat,(j - i).toNat+1,p.2) else none
 | _=>none
theorem LV {a b:Expr}{u:MA}{n:Nat}{p:Vc}(g:Gl X "range") (h:X.mg "range" = none) (r:QA X [a,b] u n):QJ X (.Call (.Name "range" p) [a,b] [] pos) (kB u):=⟨fun tg a3L s σ H R I hw=>by
 have d:=r.s
 rw [UE,Ti,UE,Ti] at d
 obtain ⟨Q,T,N,K,U,O,y,E,c,k⟩:=hw
 obtain ⟨⟨x,o⟩,A,c⟩:=S0.mp c
 refine Hj g h r.h (by rw [f6 d.1,f6 d.2.1];rfl) (by rw [f6 d.2.1];rfl) a3L s σ H R I ⟨Q,T,N,x,o,y,E,A,fun q Y v z w l=>?_⟩
 dsimp only at c
 split at c
 ·rename_i i j
  split at c
  ·rename_i B
   cases c
   cases l with
   | cons l L=>
    cases l
    cases L with
    | cons G M=>
     cases G
     cases M
     exact ⟨i,j,rfl,B,k q v _ z w B2⟩
  ·cases c
 ·cases c⟩
noncomputable def dE (a:MI)(g:MG)(b:MS):MS:=fun ρ c=>(a ρ c).bind fun p=>eA p.1 g b p.2.1 0 ρ p.2.2
end
noncomputable def kC (b:BD)(d:MI)(c:MT)(e:ME):ME:=fun ρ g=>(d ρ g).bind fun p=>
 (fZ p.1 b c e ρ p.2.2.length p.2.1 0 (p.2.2++[.lst []])).map fun a=>(.loc p.2.2.length,a)
noncomputable abbrev cU (a:MI)(c:MT)(e:ME):ME:=kC pI a c e
noncomputable def gB (n:Nat)(a:BD):MG:=fun d ρ b=>(a d b).map fun x=>ρ.take n++x
theorem LW {X:Cx}{n:Nat}{x:Str}{i:Vc}(j:X.N.length=n+1)(h:PG X (.Name x i) (fJ X.K (cT n))):PG X (.Name x i) (fJ X.K (gB n pI)):=by
 intro b s w H v u Q I r hw
 obtain ⟨p,a,o,d,q,R,E,hd,l,k⟩:=hw
 cases l
 refine h b s w H v u Q I r ⟨p,a,o,d,_,R,E,hd,rfl,fun c g=>k c ?_⟩
 have m:a.length=n+1:=by rw [<- E.len,I.len,j]
 have e:a.set n (some d)=a.take n++[some d]:=by
  rw [List.set_eq_take_append_cons_drop,if_pos (by omega),UU (by omega)]
 rw [e] at g
 exact g
theorem Ci:∀ (xs:List D)(a b:aH),b.length=xs.length->lO (a++b) (X6 a.length xs.length) xs=a++xs.map some
 | [],a,[],_=>by simp [lO]
 | x::xs,a,y::b,h=>by
  have c:=Ci xs (a++[some x]) b (by simpa using h)
  rw [TF,Zc]
  show lO ((a++y::b).set a.length (some x)) (X6 (a.length+1) xs.length) xs=_
  rw [Xe _ _ (Th _),W6,Tc]
  rw [Td,VT] at c
  rw [Tu,List.singleton_append] at c
  rw [c]
  simp
theorem LX {X:Cx}{n k:Nat}{tg:Expr}(q:X.N.length=n+k)(h:PG X tg (fJ X.K (fL (X6 n k)))):PG X tg (fJ X.K (gB n (B4 k))):=by
 intro b s K H v u Q I r hw
 obtain ⟨B,a,A,d,G,R,E,hd,w,z⟩:=hw
 obtain ⟨y,m,o⟩:=S8.mp w
 obtain ⟨l,p,c⟩:=S0.mp m
 split at c
 ·rename_i j
  cases c
  subst o
  have x:a.length=n+k:=by rw [<- E.len,I.len,q]
  refine h b s K H v u Q I r ⟨B,a,A,d,lO a (X6 n k) l,R,E,hd,(by simp only [fL,p,T6,List.length_range',if_pos j]),fun g i=>z g ?_⟩
  have e:=Ci l (a.take n) (a.drop n) (by rw [Uk];omega)
  rw [Ue,TX,WL (by omega),j] at e
  rw [e] at i
  exact i
 ·cases c
section
variable {X:Cx}{scope:Wb}{cl:List (Str×Addr)}{xs:List Str}{tg elt iter:Expr}{ifs:List Expr}{pos ppos:Vc}{mi:MI}{me:ME}{mc:MT}{bd:BD}
theorem LY {K:S1}{π:Nat->Addr}{n:Nat}{H:Hp}{σ:St}{ρ o:aH}{k:Nat}(E:En K π n H σ (ρ++o))(b:o.length=k):En K π n H σ (ρ++Vv k none):=by
 refine ⟨by rw [E.len,Td,Td,VU,b],fun i d q=>?_⟩
 by_cases a:i<ρ.length
 ·rw [Tq a] at q
  exact E.get i d (by rw [Tq a];exact q)
 ·rw [Tx (Xs.mp a),V4] at q
  split at q<;>cases q
theorem Cj (O:CompOk X scope cl xs)(hcalm:X.calm=true)(hi:PI X tg iter (jI X.K mi))(hb':∀ d μ z,bd d μ=some z->z.length=xs.length)(hg:∀ C s₀ H₀ G,PG (cO X scope cl C (bI xs X.N++xs) s₀ H₀ G) tg (fJ X.K (gB X.N.length bd)))
  (hc:∀ C s₀ H₀ G,nB (cO X scope cl C (bI xs X.N++xs) s₀ H₀ G) ifs mc)(he:∀ C s₀ H₀ G,PE (cO X scope cl C (bI xs X.N++xs) s₀ H₀ G) elt (tM X.K me))
  (hs:∀ x,Xm iter X.env x=pure x){use:Option (S4->a1h Unit)}{QQ:S4->S5->Prop}{a3L:List (Addr×VC)}{s:S5}{σ:St}{H:Hp}{π:Nat->Addr}{ρ:aH}{μ Y:Hm}{d:D}
  (I:Inv X a3L σ H s)(R:Rp X.K π H μ)(E:En X.K π μ.length H σ ρ)(hm:kC bd mi mc me ρ μ=some (d,Y))
  (fin:∀ (p C:Addr)(l:Nat->Addr)(g:Hp)(s':S5),Ext π μ.length H l Y.length g->Rp X.K l g Y->IsD X.K l Y.length g (.ref p) d->(∃ m,s'.heap.Ns C m)->X.s₀.heap.objs.size<=C->C≠X.env.locals->g C=none->
   (∀ y c,X.env.cells.lookup y=some c->c≠C)->(∀ q∈X.pn++a3L,q.1≠C)->(∀ h',(∀ b o,b≠C->s'.heap.get? b=some o->h'.get? b=some o)->Inv X a3L σ g { s' with heap:=h' })->
   compPost (TK X.prog X.w) X.A X.xe use QQ (.ref p) C (.ok .next) s') :
  TH (TK X.prog X.w) X.A (comprehension (.ListComp elt [⟨tg,iter,ifs,0⟩] scope pos) scope X.env ppos (newList []) false (eval iter X.env) use) QQ X.xe s:=by
 obtain ⟨⟨src,nt,a⟩,h1,hm⟩:=S0.mp hm
 obtain ⟨μ2,h3,hm⟩:=S8.mp hm
 cases hm
 have hit:TH (TK X.prog X.w) X.A (eval iter X.env) (fun v s1=>TH (TK X.prog X.w) X.A (ZQ v) (rA X a3L σ tg fun J H1=>∃ Z,Ext π μ.length H Z a.length H1/\Rp X.K Z H1 a/\Wk X.K J src Z a.length H1) X.xe s1) X.xe s:=
  hi a3L s σ H _ I ⟨π,ρ,μ,src,nt,a,R,E,h1,fun Z H1 J e1 R1 W=>⟨Z,e1,R1,W⟩⟩
 refine wpAny_comprehension_free rfl hs O.clos O.kind O.names (Uq hit (fun v s1 hv=>Uq hv (fun itv B h4=>?_) fun _ _ z=>z) fun _ _ z=>z)
 obtain ⟨it,G,tn,J,H2,rfl,I2,T,st2,f2,Z,e1,R1,W⟩:=h4
 refine U1 (wpAny_newFunctionEnv O.nocell (by intro y hy;simp at hy) (fun h₁ L M=>?_) O.kind)
 dsimp only at L M ⊢
 have hfr:H2 B.heap.objs.size=none:=I2.hok.fresh (Th _)
 have I3:Inv X a3L σ (aN H2 B.heap.objs.size (.lst [])) { B with heap:=B.heap.push { cls:=.type "list",dict:=none,data:=.seq ([]:List S4).toArray } }:=
  I2.laid (t':=B.toks) (fun b u e=>S9 _ e) (Th _) ⟨Uv _,[],0,.nil,Tz _ rfl⟩
 obtain ⟨e2,R2,q2⟩:=R1.alloc (c:=.lst []) (o:=.lst []) hfr .nil
 generalize hs3:({ B with heap:=B.heap.push { cls:=.type "list",dict:=none,data:=.seq ([]:List S4).toArray } }:S5)=s3 at I3
 have K:B.heap.push { cls:=.type "list",dict:=none,data:=.seq ([]:List S4).toArray } = s3.heap:=by rw [<- hs3]
 have e12:=e1.trans e2
 generalize hH3:aN H2 B.heap.objs.size (.lst [])=H3 at I3 e2 R2 e12
 generalize hπ3:fU Z a.length B.heap.objs.size=π3 at e2 R2 q2 e12
 have hob:∀ b∈G,∃ o,s3.heap.get? b=some o:=fun b A=>by
  obtain ⟨o,ho,_⟩:=T.obj 0 _ st2 b A
  exact ⟨o,by rw [<- K];exact S9 _ ho⟩
 have f3:∀ b∈G,gJ X a3L H3 b:=fun b A=>by
  obtain ⟨o,ho,_⟩:=T.obj 0 _ st2 b A
  refine ⟨?_,(f2 b A).2⟩
  rw [<- hH3,bS (TJ (Tp ho))]
  exact (f2 b A).1
 have st3:tn 0 s3.heap:=T.keep 0 _ _ st2 fun b A o e=>by rw [<- K];exact S9 _ e
 have hC:(B.heap.push { cls:=.type "list",dict:=none,data:=.seq ([]:List S4).toArray }).objs.size=s3.heap.objs.size:=by rw [K]
 rw [K] at L M
 have hk1:∀ b o,s3.heap.get? b=some o->h₁.get? b=some o:=fun b o e=>M.extBut b o (TJ (Tp e)) (S9 _ e)
 have E3:En X.K π3 (a++[C.lst []]).length H3 (σ++Vv xs.length none) (ρ++Vv xs.length none):=by
  have E':=E.mono e12
  refine ⟨by rw [Td,Td,E'.len,VU,VU],fun i d' q=>?_⟩
  by_cases hi:i<ρ.length
  ·rw [Tq hi] at q
   obtain ⟨v,h5,h6⟩:=E'.get i d' q
   exact ⟨v,by rw [Tq (by rw [E'.len];exact hi)];exact h5,h6⟩
  ·rw [Tx (Xs.mp hi),V4] at q
   split at q<;>cases q
 have hlen:ρ.length=X.N.length:=by rw [<- E.len];exact I.len
 have stat:∀ {g:Hp}{pl:List (Addr×VC)},(∀ b∈G,g b=none)->pl=[]->∀ b∈G,gJ (cO X scope cl s3.heap.objs.size (bI xs X.N++xs) s3 H3 G) pl g b:=fun {g pl} hn hpl b A=>by
  obtain ⟨f0,f1,f2',f3',f4,f5⟩:=f3 b A
  obtain ⟨o,ho⟩:=hob b A
  refine ⟨hn b A,TJ (Tp ho),fun z=>?_,.inl A,fun y c h=>f4 y c (O.sub y c h),fun p hp=>?_⟩
  ·rcases T5.mp (I3.stkSub b z) with z|z
   ·exact f1 z
   ·exact f2' z
  ·subst hpl
   exact absurd (show p∈([]:List (Addr×VC)) from hp) (by simp)
 have loop:∀ s4:S5,(∃ tk,s4 = { s3 with heap:=h₁,toks:=tk })->
   Yl (TK X.prog X.w) X.A (.compLoop (.ListComp elt [⟨tg,iter,ifs,0⟩] scope pos) 0 (.ref it) (.ref B.heap.objs.size) (Xn scope cl s3.heap.objs.size X.env))
    (compPost (TK X.prog X.w) X.A X.xe use QQ (.ref B.heap.objs.size) s3.heap.objs.size) s4:=by
  rintro s4 ⟨tk,rfl⟩
  have I4:=O.inv (tk:=tk) I3 f3 hob L hk1
  refine Kl (fun n s'=>∃ i U g l N o,Inv (cO X scope cl s3.heap.objs.size (bI xs X.N++xs) s3 H3 G) [] U g s'/\tn i s'.heap/\(∀ b∈G,g b=none)/\Ext π3 (a++[C.lst []]).length H3 l N.length g/\Rp X.K l g N /\
   En X.K l N.length g U (ρ++o)/\o.length=xs.length/\fZ src bd mc me ρ a.length n i N=some Y) ?_ nt
   ⟨0,_,H3,π3,a++[C.lst []],Vv xs.length none,I4,T.keep 0 _ _ st3 fun b A o e=>hk1 b o e,fun b A=>(f3 b A).1,.refl,R2,E3,VU,h3⟩
  rintro n s5 ⟨i,σ5,H5,Q,μ5,o5,I5,st5,fr5,e5,R5,E5,l5,g5⟩
  cases n with
  | zero=>cases g5
  | succ n=>
   obtain ⟨o,h6,h7⟩:=S0.mp g5
   cases o with
   | none=>
    cases h7
    have stop:=W.stop Q _ H5 i (e2.trans e5) R5 h6
    refine Uq (T.done (cO X scope cl s3.heap.objs.size (bI xs X.N++xs) s3 H3 G) rfl rfl rfl hcalm i [] s5 σ5 H5 (fun _ _=>False) I5 (stat fr5 rfl) st5 stop) (fun r s6 ⟨hr,I6⟩=>?_) fun _ _ z=>z
    subst hr
    obtain ⟨m6,hn6,_⟩:=id I6.loc
    have hp:Q a.length=B.heap.objs.size:=by rw [e5.pi a.length (by simp),q2]
    refine fin B.heap.objs.size s3.heap.objs.size Q H5 s6 (e12.trans e5) R5 ?_ ⟨m6,hn6⟩ I3.sz (U6 (TJ I3.lt)) I6.free (fun y c hc z=>?_) (fun q hq z=>?_) fun h' hh=>CompOk.back I3 f3 I6 hh
    ·rw [<- hp]
     exact .loc (T1 (by simp) e5.le)
    ·obtain ⟨v,o,ho,_⟩:=I3.cell y c hc
     exact TJ (Tp ho) z
    ·exact TJ (Tp (I3.pin q hq).1) z
   | some d=>
    obtain ⟨z,hz,h7⟩:=S0.mp h7
    obtain ⟨⟨b,μ6⟩,h8,h9⟩:=S0.mp h7
    obtain ⟨g1,g2⟩:=W.go Q μ5 H5 i d (e2.trans e5) R5 h6
    refine Uq (T.item (cO X scope cl s3.heap.objs.size (bI xs X.N++xs) s3 H3 G) rfl rfl rfl hcalm i [] s5 σ5 H5 (fun _ _=>False) I5 (stat fr5 rfl) st5 g1) (fun r s6 ⟨u,hr,h10⟩=>?_) fun _ _ z=>z
    subst hr
    refine Uq h10 (fun _ s7 ⟨v,H7,I7,r7,y7,st7,fr7⟩=>?_) fun _ _ z=>z
    obtain ⟨e7,R7,hd⟩:=g2 v H7 y7
    have I7':=I7.pinned (stat fr7 rfl) (T.obj _ _ st7)
    have e5:=e5.trans e7
    refine Uq (hg _ _ _ _ _ s7 σ5 H7 v u (fun U g=>En X.K Q μ5.length H7 U (ρ++z)/\g=H7) I7' r7
     ⟨Q,ρ++Vv xs.length none,μ5,d,ρ++z,R7,LY (E5.mono e7) l5,hd,(by
      show (bd d μ5).map (fun x=>(ρ++Vv xs.length none).take X.N.length++x)=_
      rw [hz,<- hlen,ZJ]
      rfl),fun U E'=>⟨E',rfl⟩⟩) (fun _ s8 ⟨σ8,H8,I8,E8,z2⟩=>?_) fun _ _ z=>z
    subst z2
    have again:∀ {s9:S5}{H9:Hp}{j:Nat->Addr}{μ9:Hm},Inv (cO X scope cl s3.heap.objs.size (bI xs X.N++xs) s3 H3 G) ([]++oY G s7.heap) σ8 H9 s9->Ext π3 (a++[C.lst []]).length H3 j μ9.length H9->Rp X.K j H9 μ9->
      En X.K j μ9.length H9 σ8 (ρ++z)->fZ src bd mc me ρ a.length n (i+1) μ9=some Y->
      ∃ m,m<n+1/\∃ i U g l N o,Inv (cO X scope cl s3.heap.objs.size (bI xs X.N++xs) s3 H3 G) [] U g s9/\tn i s9.heap/\(∀ b∈G,g b=none)/\Ext π3 (a++[C.lst []]).length H3 l N.length g/\Rp X.K l g N /\
       En X.K l N.length g U (ρ++o)/\o.length=xs.length/\fZ src bd mc me ρ a.length m i N=some Y:=fun {s9 H9 j μ9} I9 e9 R9 E9 g9=>by
     refine ⟨n,Yj _,i+1,_,H9,j,μ9,z,I9.unpinned,T.keep _ _ _ st7 fun b A o e=>(I9.pin (b,o) (Uu _ (Uu _ (rB A e)))).1,fun b A=>?_,e9,R9,E9,hb' _ _ _ hz,g9⟩
     obtain ⟨o,e,_⟩:=T.obj _ _ st7 b A
     exact (I9.pin (b,o) (Uu _ (Uu _ (rB A e)))).2.1
    refine Uq (hc _ _ _ _ _ s8 _ H8 (fun b' g=>∃ j,b'=b/\Ext Q μ5.length H8 j μ6.length g/\Rp X.K j g μ6) I8 ⟨Q,_,μ5,b,μ6,R7,E8,h8,fun j H9 e9 R9=>⟨j,rfl,e9,R9⟩⟩) (fun ok s9 ⟨H9,I9,j,A,e9,R9⟩=>?_) fun _ _ z=>z
    subst A
    cases ok with
    | false=>
     rw [if_neg Uc]
     exact again I9 (e5.trans e9) R9 (E8.mono e9) h9
    | true=>
     rw [if_pos rfl]
     obtain ⟨⟨dy,μ7⟩,h11,h12⟩:=S0.mp h9
     obtain ⟨μ8,h13,h14⟩:=S0.mp h12
     refine Uq (he _ _ _ _ _ s9 _ H9 (fun y g=>∃ w,Ext j μ6.length H9 w μ7.length g/\Rp X.K w g μ7/\IsD X.K w μ7.length g y dy) I9 ⟨j,_,μ6,dy,μ7,R9,E8.mono e9,h11,fun w y H10 e10 R10 i10=>⟨w,e10,R10,i10⟩⟩)
      (fun u' s10 ⟨y,H10,I10,ry,w,e10,R10,i10⟩=>?_) fun _ _ z=>z
     unfold nA at h13
     split at h13
     ·rename_i zs hz
      split at h13
      ·rename_i hl
       cases h13
       obtain ⟨vs,h15,h16⟩:=R10.lst _ zs hz
       have eall:=(e5.trans e9).trans e10
       have hp:w a.length=B.heap.objs.size:=by rw [eall.pi a.length (by simp),q2]
       obtain ⟨e11,R11⟩:=R10.put (a:=a.length) (c:=.lst (zs++[dy])) (o:=.lst (vs++[y])) (S2.mp hz).1 h15 (.inl ⟨vs,rfl⟩) (h16.append (.cons i10 .nil))
       rw [hp] at h15 e11 R11
       refine Uq (Bl (X:=cO X scope cl s3.heap.objs.size (bI xs X.N++xs) s3 H3 G) _ s10 _ H10 (.ref B.heap.objs.size) [y] (.ref B.heap.objs.size) [u'] (fun _ g=>g=aN H10 B.heap.objs.size (.lst (vs++[y]))) I10 rfl (.cons ry .nil)
        ⟨B.heap.objs.size,vs,y,rfl,rfl,h15,by rw [h16.length];exact hl,rfl⟩) (fun _ s11 ⟨_,H11,I11,_,z⟩=>?_) fun _ _ z=>z
       subst z
       exact again I11 (eall.trans e11) R11 ((E8.mono (e9.trans e10)).mono e11) h14
      ·cases h13
     ·cases h13
 have l4:=loop { s3 with heap:=h₁,toks:=B.toks+([]:List (Str×S4)).length } ⟨_,rfl⟩
 have hst4:tn 0 h₁:=T.keep 0 _ _ st3 fun b A o e=>hk1 b o e
 subst hs3
 exact codeAny_compStart_list l4 (T.self _ 0 _ _ _ hst4 l4)
theorem LZ (O:CompOk X scope cl xs)(a:X.calm=true)(K:PI X tg iter (jI X.K mi))(g:∀ d r z,bd d r=some z->z.length=xs.length)(G:∀ C s₀ H₀ c,PG (cO X scope cl C (bI xs X.N++xs) s₀ H₀ c) tg (fJ X.K (gB X.N.length bd)))
  (hc:∀ C s₀ H₀ c,nB (cO X scope cl C (bI xs X.N++xs) s₀ H₀ c) ifs mc)(B:∀ C s₀ H₀ c,PE (cO X scope cl C (bI xs X.N++xs) s₀ H₀ c) elt (tM X.K me))
  (T:∀ x,Xm iter X.env x=pure x):PE X (.ListComp elt [⟨tg,iter,ifs,0⟩] scope pos) (tM X.K (kC bd mi mc me)):=by
 intro v s σ H Q I hw
 obtain ⟨π,ρ,r,d,μ',R,E,L,k⟩:=hw
 rw [eval_ListComp]
 refine Cj (use:=none) O a K g G hc B T I R E L fun p C j l s' w u Y i U N h n q back=>?_
 obtain ⟨m,M⟩:=i
 exact ⟨m,M,fun y Z=>⟨.ref p,l,back y (fun b o A e=>(Z.2 b A).trans e),rfl,k j _ l w u Y⟩⟩
theorem L0 {i:Nat}{y:Str}{py g:Vc}(O:CompOk X scope cl xs)(hN:X.N.Nodup)(h:X.calm=true)(hi:PI X tg iter (jI X.K mi))(B:∀ d Z z,bd d Z=some z->z.length=xs.length)(hg:∀ C s₀ H₀ n,PG (cO X scope cl C (bI xs X.N++xs) s₀ H₀ n) tg (fJ X.K (gB X.N.length bd)))
  (hc:∀ C s₀ H₀ n,nB (cO X scope cl C (bI xs X.N++xs) s₀ H₀ n) ifs mc)(he:∀ C s₀ H₀ n,PE (cO X scope cl C (bI xs X.N++xs) s₀ H₀ n) elt (tM X.K me))
  (hs:∀ x,Xm iter X.env x=pure x)(hy:X.N[i]? = some y)(Y:X.env.scope.names.lookup y=some .local)
  (L:Yb (.ListComp elt [⟨tg,iter,ifs,0⟩] scope pos) (some (.Name y py)) g.line X.env=pure true) :
  PS X (.Assign [.Name y py] (.ListComp elt [⟨tg,iter,ifs,0⟩] scope pos) g) (cR X.K (bC i (kC bd mi mc me))):=by
 intro l s σ H EN I hw
 obtain ⟨π,ρ,Z,fl,ρ',μ',R,E,G,k⟩:=hw
 obtain ⟨⟨d,μ1⟩,h1,G⟩:=S8.mp G
 cases G
 rw [exec_Assign_Name_used _ _ _ _ L]
 refine S3 (a0A ?_)
 refine S3 (S3 ?_)
 refine Cj (use:=some (Zf (.Name y py) X.env)) (QQ:=fun _ u=>TH (TK X.prog X.w) X.A (pure ()) (fun _ N=>TH (TK X.prog X.w) X.A (pure Flow.next) (SP X l EN) X.xe N) X.xe u) O h hi B hg hc he hs I R E h1 fun p C T v u U R1 i1 K M q j c r back=>?_
 obtain ⟨m,hn⟩:=K
 have I1:Inv X l σ v u:=back u.heap fun b o _ e=>e
 show TH (TK X.prog X.w) X.A (Zf (.Name y py) X.env (.ref p)) _ X.xe u
 refine a2r ?_
 refine Aw I1 hN hy (.inl Y) (show RelV (.ref p) (.ref p) from rfl) (fun s2 I2 ⟨a,sb,A⟩=>?_) (.inr Y)
 have w:C≠a:=by
  rcases A with rfl|A
  ·exact q
  ·exact U6 (c _ _ A)
 refine ⟨m,hn.sameBut sb w,fun h' Q=>Tg (Tg ?_)⟩
 refine ⟨σ.set i (some (.ref p)),v,I2.turned (t':=s2.toks) (fun b o hb e=>(Q.2 b hb).trans e) j q (.inr M) c r,?_⟩
 exact k T _ v U R1 ((E.mono U).set i1 i)
end
end L3
namespace L3
open PySem L2
noncomputable def bT:ME:=fun _ _=>none
noncomputable def lT:MT:=fun _ _=>none
noncomputable def c3:MS:=fun _ _=>none
section
variable {X:Cx}{e a b c o:Expr}{m m1 m2 ma mb mc:ME}{pos:Vc}{mt mu:MT}{rest es:List Expr}{ms:MA}{n:Nat}
theorem bX:QE X e bT:=⟨fun a3L s σ H Q I h=>by
 obtain ⟨l,p,j,d,i,R,E,g,k⟩:=h
 cases g⟩
theorem wR:QT X e lT:=⟨fun a3L s σ H Q I h=>by
 obtain ⟨l,p,j,d,i,R,E,g,k⟩:=h
 cases g⟩
theorem L1:QW X e lT:=⟨fun j a3L s σ H Q I h=>by
 obtain ⟨p,q,l,d,i,R,E,g,k⟩:=h
 cases g⟩
theorem eG {st:Stmt}:QS X st c3:=⟨fun a3L s σ H D I h=>by
 obtain ⟨p,q,l,j,i,g,R,E,d,k⟩:=h
 cases d⟩
theorem rZ {g:MG}(l:∀ d ρ j,g d ρ j=none):QG X e g:=⟨fun a3L s σ H v u Q I r h=>by
 obtain ⟨q,ρ,j,d,p,R,E,hd,i,k⟩:=h
 rw [l] at i
 cases i⟩
theorem kD (h1:QE X e m1)(l:QE X e m2)(h:∀ ρ g r,m ρ g=some r->m1 ρ g=some r\/m2 ρ g=some r):QE X e m:=⟨fun a3L s σ H Q I q=>by
 obtain ⟨j,ρ,g,d,i,R,E,p,k⟩:=q
 rcases h ρ g _ p with z|z
 ·exact h1.h a3L s σ H Q I ⟨j,ρ,g,d,i,R,E,z,k⟩
 ·exact l.h a3L s σ H Q I ⟨j,ρ,g,d,i,R,E,z,k⟩⟩
theorem nD {m m1 m2:MT}(h1:QT X e m1)(l:QT X e m2)(h:∀ ρ g r,m ρ g=some r->m1 ρ g=some r\/m2 ρ g=some r):QT X e m:=⟨fun a3L s σ H Q I q=>by
 obtain ⟨j,ρ,g,d,i,R,E,p,k⟩:=q
 rcases h ρ g _ p with z|z
 ·exact h1.h a3L s σ H Q I ⟨j,ρ,g,d,i,R,E,z,k⟩
 ·exact l.h a3L s σ H Q I ⟨j,ρ,g,d,i,R,E,z,k⟩⟩
theorem fB {f j l:D->D->Hm->Option (D×Hm)}(h:∀ x y d r,f x y d=some r->j x y d=some r\/l x y d=some r) :
  ∀ i d r,aB f ma mb i d=some r->aB j ma mb i d=some r\/aB l ma mb i d=some r:=by
 intro i d r g
 obtain ⟨p,s,g⟩:=S0.mp g
 obtain ⟨q,u,g⟩:=S0.mp g
 rcases h _ _ _ _ g with z|z
 ·exact .inl (S0.mpr ⟨p,s,S0.mpr ⟨q,u,z⟩⟩)
 ·exact .inr (S0.mpr ⟨p,s,S0.mpr ⟨q,u,z⟩⟩)
theorem nE (h:∀ ρ d r,m ρ d=some r->m1 ρ d=some r\/m2 ρ d=some r):∀ ρ d r,aW m ρ d=some r->aW m1 ρ d=some r\/aW m2 ρ d=some r:=by
 intro ρ d r g
 obtain ⟨p,i,g⟩:=S0.mp g
 rcases h _ _ _ i with z|z
 ·exact .inl (S0.mpr ⟨p,z,g⟩)
 ·exact .inr (S0.mpr ⟨p,z,g⟩)
noncomputable def wU:List D->Option (List Int)
 | []=>some []
 | .int i::r=>(wU r).map (i::·)
 | _=>none
noncomputable def dA:D->Option (List Int)
 | .tup ds=>wU ds
 | _=>none
noncomputable def cK (kvs:List (List Int×D))(k:List Int):Option D:=(kvs.find? fun p=>decide (p.1=k)).map (·.2)
noncomputable def eB (kvs:List (List Int×D))(k:List Int)(d:D):List (List Int×D):=if (cK kvs k).isSome then kvs.map (fun p=>if p.1=k then (p.1,d) else p) else kvs++[(k,d)]
noncomputable def aJ:D->D->Hm->Option (D×Hm):=fun x y g=>match x with
 | .loc a=>match g[a]? with
  | some (.dK kvs)=>(j6 y).bind fun k=>(fM kvs k).map fun d=>(d,g)
  | some (.dT kvs)=>(dA y).bind fun k=>(cK kvs k).map fun d=>(d,g)
  | _=>fV x y g
 | _=>fV x y g
structure TabOk (X:Cx)(x:Str)(kvs:List (aG×D)):Prop where
 ex:∃ (p:Addr)(vs:List (aG×V))(ws:List (aG×S4)),X.mg x=some (.ref p)/\(∀ h:UA,X.K.In h->h.DictOf (dD X.prog X.w) p ws)/\KV vs ws/\∀ π n H,IsKs X.K π n H vs kvs
theorem Ck {a3L:List (Addr×VC)}{σ:St}{H:Hp}{s:S5}(I:Inv X a3L σ H s){p:Addr}{d:VC}(h:X.K.lookup p=some d):H p=none:=(I.bs p d (I.mod.kin p d h)).2
theorem Cm {K:S1}{π:Nat->Addr}{H:Hp}{i:Hm}(R:Rp K π H i){d:Nat}(r:d<i.length):(∃ vs,H (π d)=some (.lst vs))\/(∃ vs,H (π d)=some (.dK vs))\/(∃ j,H (π d)=some (.ext j))\/∃ p j,H (π d)=some (.frz p (.ext j)):=by
 cases q:i[d]? with
 | none=>exact absurd (Wz.mp q) (by omega)
 | some l=>
  cases l with
  | lst g=>obtain ⟨vs,h,_⟩:=R.lst d g q;exact .inl ⟨vs,h⟩
  | dK g=>obtain ⟨vs,h,_⟩:=R.dK d g q;exact .inr (.inl ⟨vs,h⟩)
  | st g=>obtain ⟨vs,h,_⟩:=R.st d g q;exact .inr (.inr (.inl ⟨_,h⟩))
  | dT g=>obtain ⟨vs,h,_⟩:=R.dT d g q;exact .inr (.inr (.inl ⟨_,h⟩))
section
variable {a3L:List (Addr×VC)}{σ:St}{H:Hp}{s:S5}{π:Nat->Addr}{μ:Hm}
theorem Cn (I:Inv X a3L σ H s)(R:Rp X.K π H μ){g:Nat}(i:g<μ.length){vs:List V}(h:SqT X.K H (π g) vs):False:=by
 have hc:=Cm R i
 rcases h with h|h
 ·rcases h with h|⟨p,h⟩<;>rcases hc with ⟨d,z⟩|⟨d,z⟩|⟨d,z⟩|⟨_,d,z⟩<;>(rw [h] at z;cases z)
 ·obtain ⟨p,l,n,j,_⟩:=h
  have:=Ck I j
  rcases hc with ⟨d,z⟩|⟨d,z⟩|⟨d,z⟩|⟨_,d,z⟩<;>(rw [this] at z;cases z)
theorem Co (I:Inv X a3L σ H s)(R:Rp X.K π H μ){g:Nat}(i:g<μ.length){vs:List V}(h:RoL X.K H (π g) vs):False:=by
 have hc:=Cm R i
 rcases h with ⟨p,h⟩|h
 ·rcases hc with ⟨d,z⟩|⟨d,z⟩|⟨d,z⟩|⟨_,d,z⟩<;>(rw [h] at z;cases z)
 ·obtain ⟨p,l,n,j,_⟩:=h
  have:=Ck I j
  rcases hc with ⟨d,z⟩|⟨d,z⟩|⟨d,z⟩|⟨_,d,z⟩<;>(rw [this] at z;cases z)
theorem Cp (I:Inv X a3L σ H s){p:Addr}{vs ws:List V}(h:SqT X.K H p vs)(h':RoL X.K H p ws):False:=by
 obtain ⟨g,_,t,_⟩:=I.tuple h
 obtain ⟨d,_,l,_⟩:=I.list h'.sq
 exact absurd rfl (Vm l.isList t)
mutual
theorem Cq (I:Inv X a3L σ H s)(R:Rp X.K π H μ){v:V}{d d':D}:IsD X.K π μ.length H v d->IsD X.K π μ.length H v d'->d=d'
 | .non,h'=>by cases h';rfl
 | .bl _,h'=>by cases h';rfl
 | .int _,h'=>by cases h';rfl
 | .str _,h'=>by cases h';rfl
 | .ty _,h'=>by cases h';rfl
 | .tup h t,h'=>by
  cases h' with
  | tup g i=>
   have:=I.tuple_inj h g
   subst this
   rw [wV I R t i]
  | rol g i=>exact (Cp I h g).elim
  | loc g=>exact (Cn I R g h).elim
 | .rol h t,h'=>by
  cases h' with
  | tup g i=>exact (Cp I g h).elim
  | rol g i=>
   have:=I.list_inj h.sq g.sq
   subst this
   rw [wV I R t i]
  | loc g=>exact (Co I R g h).elim
 | .loc (a:=a1) ha,h'=>by
  generalize hz:V.ref (π a1)=z at h'
  cases h' with
  | tup g i=>cases hz;exact (Cn I R ha g).elim
  | rol g i=>cases hz;exact (Co I R ha g).elim
  | loc g=>
   have:=R.inj _ _ ha g (V.ref.inj hz)
   rw [this]
  | _=>cases hz
theorem wV (I:Inv X a3L σ H s)(R:Rp X.K π H μ){vs:List V}{ds d:List D}:IsDs X.K π μ.length H vs ds->IsDs X.K π μ.length H vs d->ds=d
 | .nil,h'=>by cases h';rfl
 | .cons h t,h'=>by
  cases h' with
  | cons g i=>rw [Cq I R h g,wV I R t i]
end
end
noncomputable def nG (a:Hm)(x:D):List D->Option Bool
 | []=>some false
 | y::r=>(cJ 8 a y x).bind fun b=>(nG a x r).map fun c=>b||c
noncomputable def nH (a:Bool):D->D->Hm->Option (D×Hm):=fun x y c=>(bP c y).bind fun ys=>(nG c x ys).map fun b=>(.bl (if a then !b else b),c)
noncomputable def wW (K:S1)(c:Bool):R2:=fun x y H Q=>∃ π a d e ys b,Rp K π H a/\IsD K π a.length H x d/\IsD K π a.length H y e/\bP a e=some ys/\nG a d ys=some b/\Q (.bl (if c then !b else b)) H
theorem r6 {K:S1}{c:Bool}:cL K (nH c) (wW K c):=by
 intro e H p x y d m n o Q R i j a k
 obtain ⟨l,g,a⟩:=S0.mp a
 obtain ⟨b,h,a⟩:=S8.mp a
 cases a
 exact ⟨e,_,x,y,l,b,R,i,j,g,h,k e _ H .refl R (.bl _)⟩
theorem r8 {a3L:List (Addr×VC)}{σ:St}{H:Hp}{s:S5}{π:Nat->Addr}{e:Hm}(I:Inv X a3L σ H s)(R:Rp X.K π H e){A:TR}(U:A.units+8<Vg){x:V}{v:S4}{m:D}(rx:RelV x v)(ix:IsD X.K π e.length H x m) :
  ∀ {ys:List D}{vs:List V}{us:List S4}{b:Bool},IsDs X.K π e.length H vs ys->Vals vs us->nG e m ys=some b->
   ∃ g:S4->Bool,(∀ u∈us,Zw A s u v (g u))/\us.any g=b:=by
 classical
 intro ys vs us b j l d
 have o:∀ {ys:List D}{vs:List V}{us:List S4}{b:Bool},IsDs X.K π e.length H vs ys->Vals vs us->nG e m ys=some b->(∀ u∈us,∃ c,Zw A s u v c/\∃ w n,RelV w u/\IsD X.K π e.length H w n/\cJ 8 e n m=some c):=by
  intro ys
  induction ys with
  | nil=>
   intro vs us b j l d u a
   cases j
   cases l
   cases a
  | cons y ys K=>
   intro vs us b j l d u a
   cases j with
   | cons h t=>
    cases l with
    | cons r rt=>
     obtain ⟨c,B,d⟩:=S0.mp d
     obtain ⟨O,E,d⟩:=S8.mp d
     rcases T5.mp a with rfl|a
     ·exact ⟨c,BR I R 8 U r rx h ix B,_,_,r,h,B⟩
     ·exact K t rt E u a
 have p:=o j l d
 refine ⟨fun u=>if h:u∈us then YO (p u h) else false,fun u a=>?_,?_⟩
 ·simp only [dif_pos a]
  exact (ZN (p u a)).1
 ·have L:∀ u (h:u∈us) w n c,RelV w u->IsD X.K π e.length H w n->cJ 8 e n m=some c->YO (p u h)=c:=by
   intro u h w n c M iw N
   obtain ⟨_,w2,Q,r2,Z,T⟩:=ZN (p u h)
   have:w2=w:=r2.inj M
   subst this
   have:=Cq I R Z iw
   subst this
   rw [T] at N
   exact TZ N
  have q:∀ {ys:List D}{vs:List V}{i:List S4}{b:Bool},(∀ u∈i,u∈us)->IsDs X.K π e.length H vs ys->Vals vs i->nG e m ys=some b->i.any (fun u=>if h:u∈us then YO (p u h) else false)=b:=by
   intro ys
   induction ys with
   | nil=>
    intro vs i b G j l d
    cases j
    cases l
    cases d
    rfl
   | cons y ys K=>
    intro vs i b G j l d
    cases j with
    | cons h t=>
     cases l with
     | @cons _ u _ us2 r rt=>
      obtain ⟨c,B,d⟩:=S0.mp d
      obtain ⟨O,E,d⟩:=S8.mp d
      have e8:u∈us:=G u (Tt ..)
      rw [Xu,K (fun z Y=>G z (Tw _ Y)) t rt E,dif_pos e8,L u e8 _ _ c r h B]
      exact d
  exact q (fun _ h=>h) j l d
theorem r9 {k:Nat}{A:TR}(r:Room k A):A.units+9<Vg:=by have:=r.un;omega
theorem Cr (K:X.A.units+9<Vg):OpR X (UC .In) (wW X.K false):=by
 intro n s T H x y v u Q I m B h
 obtain ⟨O,N,E,G,M,b,R,l,A,o,j,q⟩:=h
 obtain ⟨p,L,rfl,c,hd⟩:=pK R A o
 cases B
 rcases c with c|c
 ·obtain ⟨a,r,i,z⟩:=I.list c
  obtain ⟨g,d,e⟩:=r8 I R (A:=X.A.in1) (by rw [m7];omega) m l hd r j
  refine SeqAt.in_listAt g i.isList (fun w hw=>d w (by simpa using hw)) ⟨.bl _,H,I,rfl,?_⟩
  rw [show a.toArray.any g=a.any g by simp,e]
  exact q
 ·obtain ⟨a,r,i,z⟩:=I.tuple c
  obtain ⟨g,d,e⟩:=r8 I R (A:=X.A.in1) (by rw [m7];omega) m l hd r j
  refine SeqAt.in_tupleAt g i (fun w hw=>d w (by simpa using hw)) ⟨.bl _,H,I,rfl,?_⟩
  rw [show a.toArray.any g=a.any g by simp,e]
  exact q
theorem Ct (K:X.A.units+9<Vg):OpR X (UC .NotIn) (wW X.K true):=by
 intro n s T H x y v u Q I m B h
 obtain ⟨O,N,E,G,M,b,R,l,A,o,j,q⟩:=h
 obtain ⟨p,L,rfl,c,hd⟩:=pK R A o
 cases B
 rcases c with c|c
 ·obtain ⟨a,r,i,z⟩:=I.list c
  obtain ⟨g,d,e⟩:=r8 I R (A:=X.A.in1) (by rw [m7];omega) m l hd r j
  refine SeqAt.notIn_listAt g i.isList (fun w hw=>d w (by simpa using hw)) ⟨.bl _,H,I,rfl,?_⟩
  rw [show a.toArray.any g=a.any g by simp,e]
  exact q
 ·obtain ⟨a,r,i,z⟩:=I.tuple c
  obtain ⟨g,d,e⟩:=r8 I R (A:=X.A.in1) (by rw [m7];omega) m l hd r j
  refine SeqAt.notIn_tupleAt g i (fun w hw=>d w (by simpa using hw)) ⟨.bl _,H,I,rfl,?_⟩
  rw [show a.toArray.any g=a.any g by simp,e]
  exact q
noncomputable def b9 (b:Bool):D->D->Hm->Option (D×Hm)
 | .str i,.str j,μ=>some (.bl (if b then !(!(UK j i 0 j.length 1).isEmpty) else !(UK j i 0 j.length 1).isEmpty),μ)
 | x,.loc a,μ=>match μ[a]? with
  | some (.dT kvs)=>(dA x).map fun k=>(.bl (if b then !(cK kvs k).isSome else (cK kvs k).isSome),μ)
  | _=>nH b x (.loc a) μ
 | x,y,μ=>nH b x y μ
noncomputable def wX:D->D->Hm->Option (D×Hm)
 | .str i,.str j,μ=>some (.bl (!(!(UK j i 0 j.length 1).isEmpty)),μ)
 | _,_,_=>none
theorem Cu {K:S1}:cL K wX (fun x y H Q=>∃ i j,x=.str i/\y=.str j/\Q (.bl (!(!(UK j i 0 j.length 1).isEmpty))) H):=by
 intro g H m x y d e h l Q R b c a k
 unfold wX at a
 split at a
 ·cases a
  cases b
  cases c
  exact ⟨_,_,rfl,rfl,k g _ H .refl R (.bl _)⟩
 ·cases a
noncomputable def iO (a:Bool):D->D->Hm->Option (D×Hm)
 | x,.non,μ=>some (.bl (match x with|.non=>!a|_=>a),μ)
 | _,_,_=>none
theorem Cv {K:S1}:cL K (iO false) (fun x y H Q=>y=.non/\Q (.bl (decide (x=.non))) H):=by
 intro g H j x y d e h i Q R b c a k
 unfold iO at a
 split at a
 ·cases a
  cases c
  refine ⟨rfl,?_⟩
  cases b<;>exact k g _ H .refl R (.bl _)
 ·cases a
theorem Cw {K:S1}:cL K (iO true) (fun x y H Q=>y=.non/\Q (.bl (!decide (x=.non))) H):=by
 intro g H j x y d e h i Q R b c a k
 unfold iO at a
 split at a
 ·cases a
  cases c
  refine ⟨rfl,?_⟩
  cases b<;>exact k g _ H .refl R (.bl _)
 ·cases a
theorem L4 (c:QE X a ma)(d:QE X b mb):QE X (.Compare a [.Is] [b] pos) (aB (iO false) ma mb):=⟨d6 AM Cv c.h d.h (cZ _)⟩
theorem L5 (c:QE X a ma)(d:QE X b mb):QE X (.Compare a [.IsNot] [b] pos) (aB (iO true) ma mb):=⟨d6 AN Cw c.h d.h (cZ _)⟩
theorem L6 (c:QE X a ma)(d:QE X b mb):QT X (.Compare a [.Is] [b] pos) (aW (aB (iO false) ma mb)):=⟨d7 AM Cv c.h d.h (cZ _)⟩
theorem L7 (c:QE X a ma)(d:QE X b mb):QT X (.Compare a [.IsNot] [b] pos) (aW (aB (iO true) ma mb)):=⟨d7 AN Cw c.h d.h (cZ _)⟩
end
end L3
namespace L3
open PySem L2
section
variable {X:Cx}{e a b c o:Expr}{m m1 m2 ma mb mc mo:ME}{pos apos cpos:Vc}{mt mu:MT}{rest es:List Expr}{ms:MA}{n:Nat}
noncomputable def nI (d:Hm):D->Bool
 | .rol _=>true
 | .loc a=>match d[a]? with|some (.lst _)=>true|_=>false
 | _=>false
noncomputable def dF (f:D->List D->Hm->Option (D×Hm))(mo:ME)(ms:MA):ME:=fun ρ d=>(mo ρ d).bind fun p=>match nI p.2 p.1 with
 | true=>(ms ρ p.2).bind fun q=>f p.1 q.1 q.2
 | false=>none
noncomputable def eH (K:S1)(f:D->List D->Hm->Option (D×Hm))(r:V->List V->Hp->VK->Prop):Prop:=
 ∀ i H g x l d h v j Q,Rp K i H g->IsD K i g.length H v x->IsDs K i g.length H j l->f x l g=some (d,h)->KC K Q i g.length H d h->r v j H Q
theorem Cy {K:S1}{π:Nat->Addr}{H:Hp}{d:Hm}{v:V}{x:D}(R:Rp K π H d)(h:IsD K π d.length H v x)(e:nI d x=true):rJ K "list" v H:=by
 cases h with
 | rol h t=>exact .inl ⟨rfl,_,h.sq⟩
 | @loc a p=>
  simp only [nI] at e
  split at e
  ·rename_i l i
   obtain ⟨j,g,_⟩:=R.lst a l i
   exact .inl ⟨rfl,j,.of g⟩
  ·cases e
 | _=>cases e
theorem L8 {K:S1}{f:D->List D->Hm->Option (D×Hm)}{r:V->List V->Hp->VK->Prop}(G:eH K f r):∀ σ H Q,tM K (dF f mo ms) σ H Q->vK K "list" r (tM K mo) (d5 K ms) σ H Q:=by
 rintro σ H Q ⟨T,y,O,d,j,R,E,g,k⟩
 obtain ⟨⟨x,h⟩,A,g⟩:=S0.mp g
 dsimp only at g
 split at g
 ·rename_i I
  obtain ⟨⟨w,i⟩,B,g⟩:=S0.mp g
  refine ⟨T,y,O,x,h,R,E,A,fun l M U s q v=>⟨Cy q v I,l,y,h,w,i,q,E.mono s,B,fun p N z u R2 L=>?_⟩⟩
  exact G p z i x w d j M N Q R2 (v.mono u) L g (k.after (s.trans u))
 ·cases g
theorem L9 {K:S1}{f:D->List D->Hm->Option (D×Hm)}{r:V->List V->Hp->VK->Prop}(w:eH K f r):∀ σ H Q,tM K (dF f mo aD) σ H Q->Bi K "list" r (tM K mo) σ H Q:=by
 rintro σ H Q ⟨G,I,A,d,i,R,E,g,k⟩
 obtain ⟨⟨x,h⟩,u,g⟩:=S0.mp g
 dsimp only at g
 split at g
 ·rename_i y
  obtain ⟨⟨L,B⟩,v,g⟩:=S0.mp g
  cases v
  refine ⟨G,I,A,x,h,R,E,u,fun j z q s l p=>⟨Cy l p y,?_⟩⟩
  exact w j q h x [] d i z [] Q l p .nil g (k.after s)
 ·cases g
noncomputable def f9:Expr->Bool
 | .Call (.Name _ _) [] [] _=>false
 | _=>true
theorem iP {o:Expr}{i:Str}{env:YY}{d:a1h S4}(h:f9 o=true):V6 o i env d=d:=by
 cases o with
 | Call f g j p=>
  cases f with
  | Name id q=>
   cases g with
   | nil=>
    cases j with
    | nil=>cases h
    | cons _ _=>rfl
   | cons _ _=>rfl
  | _=>rfl
 | _=>rfl
theorem wY {e:Expr}{es:List Expr}{env:YY}{cpos:Vc}(h:(e::es).all c9=true)(i:(e::es).length<30) :
  ((Wa cpos (Uh (e::es) env)).all (fun x=>!x.1)&&(a0j cpos (YT [] env)).all (fun x=>x.1.isSome)
   && decide ((e::es).length+([]:List WE).length+(if ([]:List WE).isEmpty then 0 else 1)<30))=true:=by
 have d:(Wa cpos (Uh (e::es) env)).all (fun x=>!x.1)=true:=by
  have:=j7 (pos:=cpos) (env:=env) h
  rw [List.all_eq_not_any_not]
  simpa using this
 rw [d]
 have g:(e::es).length+([]:List WE).length+(if ([]:List WE).isEmpty then 0 else 1)<30:=by
  show (e::es).length+0+0<30
  omega
 rw [decide_eq_true g]
 rfl
theorem Cz {f:D->List D->Hm->Option (D×Hm)}{r:V->List V->Hp->VK->Prop}{name:Str}{id:String}(slot:a3G "list" name id) (h:a0h (.builtin id)=pure (.type "method_descriptor")) (p:fT X id r)(j:eH X.K f r)
  (s:QE X o mo)(i:QA X (e::es) ms n)(u:f9 o=true)(l:(apos.endLine == cpos.line)=true)(q:(e::es).length<30):QE X (.Call (.Attribute o name apos) (e::es) [] cpos) (dF f mo ms):=by
 have g:=i.s
 have d:=g
 rw [UE,Ti] at d
 exact ⟨cD (Bj ZI slot h p s.h i.h (iP u) (wY g q) l (f6 d.1) (j7 d.2)) (L8 j)⟩
theorem CA {f:D->List D->Hm->Option (D×Hm)}{r:V->List V->Hp->VK->Prop}{name:Str}{id:String}(slot:a3G "list" name id) (d:a0h (.builtin id)=pure (.type "method_descriptor")) (i:fT X id r)(g:eH X.K f r)
  (j:QE X o mo)(l:f9 o=true)(h:(apos.endLine == cpos.line)=true):QE X (.Call (.Attribute o name apos) [] [] cpos) (dF f mo aD):=
 ⟨cD (IH ZI slot d i j.h (iP l) h) (L9 g)⟩
noncomputable def fN:D->List D->Hm->Option (D×Hm)
 | .loc a,[y],μ=>(nA μ a y).map fun d=>(.non,d)
 | _,_,_=>none
noncomputable def nJ:D->List D->Hm->Option (D×Hm)
 | .loc a,[.loc b],μ=>match μ[a]?,μ[b]? with
  | some (.lst xs),some (.lst ys)=>if xs.length+ys.length<=Tj then some (.non,μ.set a (.lst (xs++ys))) else none
  | _,_=>none
 | _,_,_=>none
noncomputable def nM:D->List D->Hm->Option (D×Hm)
 | .loc a,[],μ=>match μ[a]? with
  | some (.lst _)=>some (.non,μ.set a (.lst []))
  | _=>none
 | _,_,_=>none
noncomputable def kH:D->List D->Hm->Option (D×Hm)
 | .loc a,[],μ=>match μ[a]? with
  | some (.lst xs)=>(xs[xs.length - 1]?).map fun y=>(y,μ.set a (.lst xs.dropLast))
  | _=>none
 | _,_,_=>none
theorem Ma {K:S1}{π:Nat->Addr}{n:Nat}{H:Hp}{vs:List V}{ds:List D}(h:IsDs K π n H vs ds):IsDs K π n H vs.dropLast ds.dropLast:=by
 rw [a0n,a0n,h.length]
 exact h.take _
theorem Mb {K:S1}:eH K fN Bk:=by
 intro I H N x M d E v L Q R A i h k
 unfold fN at h
 split at h
 ·rename_i a y
  obtain ⟨G,g,h⟩:=S8.mp h
  cases h
  unfold nA at g
  split at g
  ·rename_i r q
   split at g
   ·rename_i w
    cases g
    obtain ⟨j,l,p⟩:=R.lst a r q
    cases A
    cases i with
    | cons B z=>
     cases z
     obtain ⟨u,s⟩:=R.put (a:=a) (c:=.lst (r++[y])) (o:=.lst (j++[_])) (S2.mp q).1 l (.inl ⟨j,rfl⟩) (p.append (.cons B .nil))
     exact ⟨_,j,_,rfl,rfl,l,by rw [p.length];exact w,k I _ _ u s .non⟩
   ·cases g
  ·cases g
 ·cases h
theorem Mc {K:S1}:eH K nJ Bm:=by
 intro M H T x O d L v N Q R G h g k
 unfold nJ at g
 split at g
 ·rename_i a b
  split at g
  ·rename_i u s q B
   split at g
   ·rename_i A
    cases g
    obtain ⟨i,j,l⟩:=R.lst a u q
    obtain ⟨r,z,p⟩:=R.lst b s B
    cases G
    cases h with
    | cons I E=>
     cases E
     cases I
     obtain ⟨y,w⟩:=R.put (a:=a) (c:=.lst (u++s)) (o:=.lst (i++r)) (S2.mp q).1 j (.inl ⟨i,rfl⟩) (l.append p)
     exact ⟨_,_,i,r,rfl,rfl,j,z,by rw [l.length,p.length];exact A,k M _ _ y w .non⟩
   ·cases g
  ·cases g
 ·cases g
theorem Md {K:S1}:eH K nM Bo:=by
 intro w H B x A d u v z Q R r h g k
 unfold nM at g
 split at g
 ·rename_i a
  split at g
  ·rename_i s j
   cases g
   obtain ⟨l,i,y⟩:=R.lst a s j
   cases r
   cases h
   obtain ⟨q,p⟩:=R.put (a:=a) (c:=.lst []) (o:=.lst []) (S2.mp j).1 i (.inl ⟨l,rfl⟩) .nil
   exact ⟨_,l,rfl,rfl,i,k w _ _ q p .non⟩
  ·cases g
 ·cases g
theorem Me {K:S1}:eH K kH Bn:=by
 intro G H M x L d E v I Q R B i g k
 unfold kH at g
 split at g
 ·rename_i a
  split at g
  ·rename_i r q
   obtain ⟨y,u,g⟩:=S8.mp g
   cases g
   obtain ⟨j,p,h⟩:=R.lst a r q
   cases B
   cases i
   obtain ⟨w,z,A⟩:=h.get u
   obtain ⟨l,s⟩:=R.put (a:=a) (c:=.lst r.dropLast) (o:=.lst j.dropLast) (S2.mp q).1 p (.inl ⟨j,rfl⟩) (Ma h)
   refine ⟨_,j,w,rfl,rfl,p,by rw [h.length];exact z,k G w _ l s (A.mono l)⟩
  ·cases g
 ·cases g
noncomputable def kI (d:Hm):D->Option Bool
 | .non=>some false
 | .bl b=>some b
 | .int i=>some (i != 0)
 | .str z=>if z.length<=Tj then some ((z.length:Int) != 0) else none
 | .tup xs=>some (!xs.isEmpty)
 | .rol xs=>some (!xs.isEmpty)
 | .loc a=>match d[a]? with|some (.lst xs)=>some (!xs.isEmpty)|some (.dK kvs)=>some (!kvs.isEmpty)|_=>none
 | .ty _=>none
theorem sA {d g:Type}{xs:List d}{ys:List g}(h:xs.length=ys.length):xs.isEmpty=ys.isEmpty:=by
 cases xs<;>cases ys<;>first|rfl|cases h
theorem Mf {K:S1}{π:Nat->Addr}{H:Hp}{q:Hm}{v:V}{x:D}{b:Bool}(R:Rp K π H q)(h:IsD K π q.length H v x)(e:kI q x=some b):u7 K v H b:=by
 cases h with
 | non=>cases e;rfl
 | bl c=>cases e;rfl
 | int i=>cases e;rfl
 | str z=>
  simp only [kI] at e
  split at e
  ·rename_i r;cases e;exact ⟨r,rfl⟩
  ·cases e
 | tup h t=>cases e;exact .inr (.inl ⟨_,h,by rw [sA t.length]⟩)
 | rol h t=>cases e;exact .inl ⟨_,h.sq,by rw [sA t.length]⟩
 | @loc a u=>
  simp only [kI] at e
  split at e
  ·rename_i s j
   cases e
   obtain ⟨p,d,g⟩:=R.lst a s j
   exact .inl ⟨p,.of d,by rw [sA g.length]⟩
  ·rename_i l j
   cases e
   obtain ⟨p,d,g,_⟩:=R.dK a l j
   refine .inr (.inr ⟨p,d,?_⟩)
   have:=congrArg US g
   rw [S6,S6] at this
   rw [sA this]
  ·cases e
 | ty n=>cases e
noncomputable def cH (m:ME):MT:=fun ρ d=>(m ρ d).bind fun p=>(kI p.2 p.1).map fun b=>(b,p.2)
theorem Mg (h:QE X e m)(r:wL e=true):QT X e (cH m):=⟨rL (HC h.h (Lv r)) (by
 rintro G H Q ⟨y,z,u,b,v,R,E,d,k⟩
 obtain ⟨⟨x,w⟩,p,d⟩:=S0.mp d
 obtain ⟨A,q,d⟩:=S8.mp d
 cases d
 exact ⟨y,z,u,x,_,R,E,p,fun g B j l i s=>⟨_,Mf i s q,k g j l i⟩⟩)⟩
theorem Mh {k:Nat}{f:Addr}{j:VO}{ps:List Str}{l:MF}{x:Str}{p:Vc}(F:FnOk X.prog X.w X.K X.mg X.base eX k f j ps (iH X.K 0 l))(v:Room k X.A)(g:X.mg x=some (.ref f))
  (u:Vl X.K (.ref f)=true)(r:Binds X.K j ps [])(s:Gl X x)(h:(x == ("__debug__":Str))=false):QE X (.Call (.Name x p) [] [] pos) (aI l aD):=
 ⟨cD (HM F v s g u r .nil (E:=E0) Bs h) (by
  rintro G H Q ⟨z,B,w,d,i,R,E,g,k⟩
  obtain ⟨⟨A,y⟩,q,g⟩:=S0.mp g
  cases q
  exact ⟨rfl,z,[],w,d,i,R,.nil,g,k⟩)⟩
noncomputable def lU (c:MT)(b:MS):Nat->MS
 | 0,_,_=>none
 | n+1,ρ,μ=>(c ρ μ).bind fun p=>match p.1 with
  | false=>some (.nx,ρ,p.2)
  | true=>(b ρ p.2).bind fun q=>match q.1 with
   | .nx=>lU c b n q.2.1 q.2.2
   | .ct=>lU c b n q.2.1 q.2.2
   | .bk=>some (.nx,q.2.1,q.2.2)
   | .rt d=>some (.rt d,q.2.1,q.2.2)
noncomputable def nN (n:Nat)(c:MT)(b:MS):MS:=lU c b n
theorem Mi {body:List Stmt}{mb:MS}(n:Nat)(hc:QT X c mt)(hb:QB X body mb)(hp:ZV (TK X.prog X.w) X.A X.env X.xe):QS X (.While c body [] pos) (nN n mt mb):=⟨iI (Hb hp hc.h hb.h) (by
 rintro E σ H ⟨Z,ρ,Y,T,B,z,R,EN,hm,k⟩
 have q:∀ {h:Nat->Addr}{n2:Nat}{H2:Hp}(e:Ext Z Y.length H h n2 H2),lJ X.K E h n2 H2 T B z:=fun {h n2 H2} e=>by
  cases T with
  | nx=>exact fun i s y j x K=>k i s y (e.trans j) x K
  | bk=>exact fun i s y j x K=>k i s y (e.trans j) x K
  | ct=>exact fun i s y j x K=>k i s y (e.trans j) x K
  | rt d=>exact KC.after k e
 refine ⟨fun m v w=>∃ h l r,Ext Z Y.length H h l.length w/\Rp X.K h w l/\En X.K h l.length w v r/\lU mt mb m r l=some (T,B,z),⟨n,Z,Y,ρ,.refl,R,EN,hm⟩,?_⟩
 rintro m σ1 H1 ⟨h,l,r,N,R2,E2,h2⟩
 cases m with
 | zero=>cases h2
 | succ m=>
  obtain ⟨⟨b,Q⟩,h3,h4⟩:=S0.mp h2
  refine ⟨h,r,l,b,Q,R2,E2,h3,fun i y j x=>?_⟩
  cases b with
  | false=>
   refine jX ?_
   cases h4
   exact q N i σ1 y j x (E2.mono j)
  | true=>
   refine jY ?_
   obtain ⟨⟨f4,G,A⟩,h5,U⟩:=S0.mp h4
   refine ⟨fun v w=>∃ g u p,Ext Z Y.length H g p.length w/\Rp X.K g w p/\En X.K g p.length w v u/\lU mt mb m u p=some (T,B,z),
    fun v w ⟨g,u,p,a1,a2,a3,a4⟩=>⟨m,Yj _,g,p,u,a1,a2,a3,a4⟩,i,r,Q,f4,G,A,x,E2.mono j,h5,?_⟩
   cases f4 with
   | nx=>exact fun g I H5 O M L=>⟨g,G,A,(N.trans j).trans O,M,L,U⟩
   | ct=>exact fun g I H5 O M L=>⟨g,G,A,(N.trans j).trans O,M,L,U⟩
   | bk=>
    cases U
    exact fun g I H5 O M L=>q (N.trans j) g I H5 O M L
   | rt d'=>
    cases U
    exact q (N.trans j))⟩
theorem Mj:QS X (.Return none pos) (aS (mC .non)):=⟨iI G0 (by
 rintro E r H ⟨h,q,p,l,i,g,R,j,d,k⟩
 cases d
 exact k h .non H .refl R .non)⟩
end
end L3
namespace L3
open PySem L2
section
variable {X:Cx}
end
end L3
namespace L3
open PySem L2
open PyProof.Rows (IntsAre)
open PySem.W (KasT kas_asc kas_desc kas_tail3 kas_descPart kas_count kas_place kas_bin kas_sort kas_rev kas_ask)
noncomputable def bU (lt:Nat->Nat->Bool)(n:Nat):List Nat:=(Ui n).mergeSort fun i j=>!(lt j i)
theorem Ml (lt:Nat->Nat->Bool){n:Nat}(_:0<n):(bU lt n).Perm (Ui n):=List.mergeSort_perm _ _
section
variable {X:Cx}{a3L:List (Addr×VC)}{σ:St}{H:Hp}{s:S5}
end
theorem CB {prog:TC}{w:T7}{A:TR}{s:S5}{Q:Bool->S5->Prop}:∀ {us vs:List S4}{ns b:List Int}(i:Nat),Wl us ns->Wl vs b->Q (HT.lexLt ns b) s->
  PySem.W.KatLex prog w A true (decide (us.length<vs.length)) Q (us.zip vs) i s
 | _,_,_,_,i,.nil,.nil,h=>by exact h
 | _,_,_,_,i,.nil,.cons c u hv,h=>by
  show Q (decide (0<_+1)) s
  rw [decide_eq_true (Y5 _)]
  exact h
 | _,_,_,_,i,.cons a t hu,.nil,h=>by
  show Q (decide (_+1<0)) s
  rw [decide_eq_false (WK _)]
  exact h
 | _,_,_,_,i,.cons (vs:=us) (ns:=ns) a t hu,.cons (vs:=vs) (ns:=b) c u hv,h=>by
  rw [HT.lexLt_cons] at h
  refine PySem.W.kat_cons (Z2 a t c u prog w _ _ ?_)
  by_cases e:a=c
  ·subst e
   rw [if_pos rfl] at h
   rw [beq_self_eq_true]
   refine PySem.W.kat_yes ?_
   have:=CB (prog:=prog) (w:=w) (A:=A) (s:=s) (Q:=Q) (i+1) hu hv h
   have g:decide ((XO a t::us).length<(XO a u::vs).length)=decide (us.length<vs.length):=by simp
   rw [g]
   exact this
  ·rw [if_neg e] at h
   have d:(a == c)=false:=by simpa using e
   rw [d]
   refine PySem.W.kat_no ?_
   cases j:(true&&i == 0) with
   | true=>exact a3c h
   | false=>exact PySem.W.kat_one _ _ (Zz h)
noncomputable abbrev TupsV (K:S1)(H:Hp):List V->List (List Int)->Prop:=Vr fun v t=>∃ a,v=V.ref a/\SqT K H a (t.map V.int)
theorem TupsV.get {K:S1}{H:Hp}:∀ {vs:List V}{b:List (List Int)}{i:Nat},TupsV K H vs b->i<vs.length->∃ a,vs[i]? = some (V.ref a)/\SqT K H a ((b.getD i []).map V.int)
 | _,_,_,.nil,h=>by simp at h
 | _,_,0,.cons ⟨a,e,q⟩ _,_=>⟨a,by rw [e];rfl,q⟩
 | _,_,i+1,.cons _ t,h=>by
  obtain ⟨a,e,q⟩:=TupsV.get (i:=i) t (by simpa using h)
  exact ⟨a,by simpa using e,q⟩
section
open PyProof.Rows
variable {prog:TC}{w:T7}{A:TR}{E:S4->S5->Prop}{s:S5}
theorem wZ {c:Addr}{us:List S4}{z:Nat}{R:Fin->S5->Prop}(h:us.length<2)(g:s.heap.get? c=some (UR "list" us.toArray z)) (q:R (.done (.ret .none)) { s with heap:=YC s.heap c us us.toArray }) :
  TH (TK prog w) A (Builtin.«list.sort» ⟨[.ref c],[]⟩) R E s:=by
 rw [a2V]
 have lt:c<s.heap.objs.size:=Tp g
 refine S3 (listItems_at g rfl (S3 (Za g rfl ?_)))
 obtain ⟨y,d⟩:∃ y,(s.heap.update c (UQ fun _=>#[])).get? c=some (UR "list" #[] y):=⟨_,a2W g _⟩
 refine S3 (Z0 d rfl (S3 (a0f (S3 (Yn (UB ?_))))))
 have e:(((s.heap.update c (UQ fun _=>#[])).push (UR "tuple" us.toArray 0)).push (UR "list" #[] 0)).get? c=some (UR "list" #[] y):=
  S9 _ (S9 _ d)
 show TH (TK prog w) A _ R E ⟨((s.heap.update c (UQ fun _=>#[])).push (UR "tuple" us.toArray 0)).push (UR "list" #[] 0),s.gens,s.drawn,s.toks,s.os⟩
 dsimp only
 have a:us.toArray.size<2:=by simpa using h
 rw [if_pos a,if_pos a]
 refine S3 (Tg ?_)
 rw [StateT.run_pure]
 refine S3 (Tg ?_)
 dsimp only
 have b:a3t (fun x=>x.2) (a1N (TV general' (us.toArray.zip us.toArray) #[] 7 none))=us.toArray:=by
  show a3t (fun x=>x.2) (us.toArray.zip us.toArray)=us.toArray
  exact Array.ext (by simp) (fun i j l=>by simp)
 refine S3 (Z0 e rfl (S3 (Za e rfl ?_ (hsz2:=by rw [b,TY];omega))))
 rw [b]
 simp only [bne_self_eq_false,Te,if_false]
 exact Tg q
end
theorem w4 (lt:Nat->Nat->Bool):bU lt 1=[0]:=List.mergeSort_singleton ..
theorem sC (lt:Nat->Nat->Bool):bU lt 0=[]:=List.mergeSort_nil
theorem dW (lt:Nat->Nat->Bool)(n:Nat):(bU lt n).Perm (Ui n):=by
 cases n with
 | zero=>rw [sC];exact .nil
 | succ n=>exact Ml lt (Y5 n)
theorem Mm {ns:List Int}{us:List S4}(h:Vals (ns.map V.int) us):Wl us ns:=vF h
end L3
namespace L3
open PySem L2 PySem.W PyProof.Rows
noncomputable def sD:Bool->Keyed->Array Keyed->Nat->Nat->Nat->StateT Vt a1h (Option Nat):=sortPriv% PySem.Builtin.gallop
section
variable {M:a1Q}{A:TR}{E:S4->S5->Prop}{σ:Type}
theorem jJ {a:Type}{f:Nat->a->StateT σ a1h (ForInStep a)}{st:σ}{s:S5}{Q:a->σ->S5->Prop}(d:Nat->a->Prop)(j:a->Prop)(n:Nat)
  (step:∀ i x b,i<n->d i b->Xl M A E (f x b) (fun r g u=>g=st/\u=s/\match r with|.done c=>j c|.yield c=>d (i+1) c) st s)(fin:∀ b,d n b->j b)(k:∀ b,j b->Q b st s) :
  ∀ (l:List Nat)(i:Nat)(b:a),i+l.length=n->d i b->Xl M A E (forIn l b f) Q st s
 | [],i,b,h,hI=>kasC_nil (k b (fin b (by simp at h;subst h;exact hI)))
 | x::l,i,b,h,hI=>by
  rw [TF] at h
  refine kasC_cons (Uq (step i x b (by omega) hI) (fun r u q=>?_) fun _ _ e=>e)
  obtain ⟨r,g⟩:=r
  obtain ⟨m,o,p⟩:=q
  dsimp only at m o
  subst m o
  cases r with
  | done c=>exact k c p
  | yield c=>exact jJ d j n step fin k l (i+1) c (by omega) p
end
section
variable {prog:TC}{w:T7}{A:TR}{E:S4->S5->Prop}{κ:WU}{st:Vt}{s:S5}
noncomputable def fC (prog:TC)(w:T7)(A:TR)(κ:WU)(s:S5)(X:Keyed->Prop)(an:Keyed->Keyed->Bool):Prop:=
 ∀ (x y:Keyed)(C:Bool->S5->Prop),X x->X y->C (an x y) s->TH (TK prog w) A (a3C κ x.1 y.1) C (fun _ _=>False) s
theorem pQ {X:Keyed->Prop}{an:Keyed->Keyed->Bool}(c:fC prog w A κ s X an)(d:kindOf st=κ){x y:Keyed}(e:X x)(g:X y){Q:Option Bool->Vt->S5->Prop}(q:Q (some (an x y)) st s):Xl (TK prog w) A E (lt' x y) Q st s:=by
 rw [lt'_eq]
 refine Tn (Xk ?_)
 rw [d]
 exact Tn (Yw (a0B (Uq (c x y (fun b a=>b=an x y/\a=s) e g ⟨rfl,rfl⟩) (fun b a z=>by obtain ⟨rfl,rfl⟩:=z;exact Tv q) fun _ _ f=>f.elim)))
theorem Mn {x:Vt}{Q:PUnit->Vt->S5->Prop}(h:Q ⟨⟩ x s):Xl (TK prog w) A E (set x:StateT Vt a1h PUnit) Q st s:=by
 unfold Xl;rw [StateT.run_set];exact Tg h
theorem w5 {a:Array Keyed}{i:Nat}{x:Keyed}{Q:Keyed->Vt->S5->Prop}(h:a[i]? = some x)(q:Q x st s):Xl (TK prog w) A E (elem' a i) Q st s:=by
 rw [elem'_eq,h];exact Tv q
noncomputable def CC:Array Keyed->Array Keyed->StateT Vt a1h (Array Keyed):=sortPriv% PySem.Builtin.mergeLo
noncomputable def CD:Array Keyed->Array Keyed->StateT Vt a1h (Array Keyed):=sortPriv% PySem.Builtin.mergeHi
theorem CF:∀ (l:List Keyed)(b:Array Keyed)(o k:Nat),o+k+l.length<=b.size->((l.zipIdx k).foldl (fun (a:Array Keyed)(x:Keyed×Nat)=>a.setIfInBounds (o+x.2) x.1) b).toList=b.toList.take (o+k)++l++b.toList.drop (o+k+l.length)
 | [],b,o,k,h=>by simp
 | x::l,b,o,k,h=>by
  rw [List.zipIdx_cons,Zo,CF l _ o (k+1) (by rw [ZY];rw [TF] at h;omega)]
  rw [TF] at h
  have c:o+k<b.toList.length:=by simp;omega
  rw [ZG,TF]
  dsimp only
  rw [show o+(k+1)=o+k+1 by omega,a1r,Uw c,a0G (Th _),List.drop_set_of_lt (by omega)]
  simp [show o+k+1+l.length=o+k+(l.length+1) by omega]
theorem Mo {X:Keyed->Prop}{an:Keyed->Keyed->Bool}(a:fC prog w A κ s X an)(d:a3e st=κ){i j:Nat}{x y:Keyed}(b:(a1N st)[i]? = some x)(c:(a1N st)[j]? = some y)(e:X x)(g:X y){Q:Option Bool->Vt->S5->Prop}(q:Q (some (an x y)) st s):Xl (TK prog w) A E (ltAt' i j) Q st s:=by
 rw [ltAt'_eq]
 refine Tn (Xk ?_)
 refine Tn (w5 b (Tn (w5 c (pQ a d e g q))))
end
section
variable {prog:TC}{w:T7}{A:TR}{E:S4->S5->Prop}{s:S5}
theorem Mp (us:List S4):(us.toArray.zip us.toArray).toList=us.map fun u=>(u,u):=by
 simp only [Array.toList_zip]
 induction us with
 | nil=>rfl
 | cons u us a=>simpa using a
structure Near (us:List S4)(n K:Nat)(an:S4->S4->Bool):Prop where
 len:us.length=n+1
 le:K<=n
 asc:∀ (i:Nat)(x z:S4),i+1<n->us[i+1]? = some x->us[i]? = some z->an x z=false
 ris:∀ x z,us[0]? = some x->us[n - 1]? = some z->an x z=true
 at_:∀ (i:Nat)(x z:S4),i<n->us[i]? = some x->us[n]? = some z->an z x=decide (K<=i)
noncomputable def CG (prog:TC)(w:T7)(A:TR)(us:List S4)(an:S4->S4->Bool)(s:S5):Prop:=
 TH (TK prog w) A (keyKind' us.toArray) (fun b a=>a=s/\∀ (x y:S4)(C:Bool->S5->Prop),x∈us->y∈us->C (an x y) s->TH (TK prog w) A (a3C b x y) C (fun _ _=>False) s) (fun _ _=>False) s
end
section
variable {X:Cx}{a3L:List (Addr×VC)}{σ:L2.St}{H:Hp}{s:S5}
theorem CH (I:L2.Inv X a3L σ H s){a:Addr}{t t':List Int}(h:SqT X.K H a (t.map V.int))(h':SqT X.K H a (t'.map V.int)):t=t':=
 (YS fun x y h=>by cases h;rfl).mp (I.tuple_inj h h')
open Classical in
noncomputable def tv (K:S1)(H:Hp):S4->List Int
 | .ref a=>if h:∃ t:List Int,SqT K H a (t.map V.int) then h.choose else []
 | _=>[]
theorem Mq {ws:List V}{b:List S4}{e:List (List Int)}(d:Vals ws b)(m:TupsV X.K H ws e){i:Nat}{u:S4}(h:b[i]? = some u):∃ a,u=.ref a/\SqT X.K H a ((e.getD i []).map V.int):=by
 have l:i<ws.length:=by
  rw [d.length]
  exact (S2.mp h).1
 obtain ⟨a,g,n⟩:=m.get l
 obtain ⟨v,c,j⟩:=d.get g
 rw [h] at c
 cases c
 cases j
 exact ⟨a,rfl,n⟩
end
end L3
namespace L3
open PySem PySem.Spec
namespace Tb
section
variable {prog:TC}{w:T7}{A:TR}{E:S4->S5->Prop}{s:S5}
noncomputable abbrev IsT (prog:TC)(w:T7)(h:UA)(k:List Int)(b:Addr):Prop:=IsTupleKey (X4 prog w) h k b
end
section
variable {prog:TC}{w:T7}{A:TR}{R:a1i->S5->Prop}{I:Addr}{fp wr:List Addr}{G:Array a1U->Array a1U->Prop}{n:Nat}{P:Nat->S4->Prop}{St:Nat->S5->Prop}
end
section
variable {prog:TC}{w:T7}{A:TR}{E:S4->S5->Prop}{s:S5}
noncomputable abbrev eF (a:Bool):VC:={ cls:=.type "set",dict:=none,data:=.set #[] 0 (.fresh 0 0 a) }
end
end Tb
end L3
namespace L3
open PySem L2
open PyProof.Rows (IntsAre)
noncomputable def pR:List D->Option (List (List Int))
 | []=>some []
 | x::r=>(dA x).bind fun k=>(pR r).map (k::·)
theorem CI:∀ {ds:List D}{k:List Int},wU ds=some k->ds=k.map D.int
 | [],k,h=>by cases h;rfl
 | d::ds,k,h=>by
  cases d with
  | int i=>
   obtain ⟨c,a,b⟩:=S8.mp h
   subst b
   rw [CI a];rfl
  | _=>cases h
theorem w6 {x:D}{k:List Int}(h:dA x=some k):x=.tup (k.map D.int):=by
 cases x with
 | tup ds=>rw [CI h]
 | _=>cases h
theorem CJ:∀ {xs:List D}{ks:List (List Int)},pR xs=some ks->xs=ks.map fun k=>D.tup (k.map D.int)
 | [],ks,h=>by cases h;rfl
 | x::xs,ks,h=>by
  obtain ⟨k,a,h⟩:=S0.mp h
  obtain ⟨d,b,c⟩:=S8.mp h
  subst c
  rw [w6 a,CJ b];rfl
noncomputable def nO (b:Hm):D->Option (List D)
 | .rol xs=>some xs
 | .loc a=>match b[a]? with
  | some (.lst xs)=>some xs
  | _=>none
 | _=>none
section
variable {K:S1}{π:Nat->Addr}{n:Nat}{H:Hp}{μ:Hm}
theorem CK {v:V}{x:D}{xs:List D}(R:Rp K π H μ)(h:IsD K π μ.length H v x)(e:nO μ x=some xs):∃ p vs,v=.ref p/\SqL K H p vs/\IsDs K π μ.length H vs xs:=by
 cases h with
 | rol q t=>cases e;exact ⟨_,_,rfl,q.sq,t⟩
 | @loc a g=>
  simp only [nO] at e
  split at e
  ·rename_i i d
   cases e
   obtain ⟨vs,b,c⟩:=R.lst a xs d
   exact ⟨_,vs,rfl,.of b,c⟩
  ·cases e
 | _=>cases e
theorem ints_of':∀ {vs:List V}{k:List Int},IsDs K π n H vs (k.map D.int)->vs=k.map V.int
 | _,[],h=>by cases h;rfl
 | _,i::k,h=>by
  cases h with
  | cons h t=>cases h;rw [ints_of' t];rfl
theorem sE:∀ (k:List Int),IsDs K π n H (k.map V.int) (k.map D.int)
 | []=>.nil
 | i::k=>.cons (.int i) (sE k)
end
theorem CL {X:Cx}:∀ {k:List Int}{xs:List S4},Vals (k.map V.int) xs->ItemsAre (X4 X.prog X.w) k xs
 | [],_,h=>by cases h;exact .nil
 | i::k,_,h=>by
  cases h with
  | cons h t=>
   obtain ⟨a,rfl⟩:=h
   exact .cons (intKind_is _ _ _ _) (CL t)
section
variable {X:Cx}{a3L:List (Addr×VC)}{σ:St}{H:Hp}{s:S5}
theorem kJ (I:Inv X a3L σ H s){b:Addr}{k:List Int}(h:SqT X.K H b (k.map V.int)):Tb.IsT X.prog X.w s.heap k b:=by
 obtain ⟨i,g,⟨a,e,c,n,d⟩,_⟩:=I.tuple h
 exact ⟨a,i.toArray,n,e,c,d,by simpa using CL g⟩
theorem call_lenT:CallR X (.builtin "len") (fun xs H Q=>∃ a L,xs=[V.ref a]/\H a=some (rK a L)/\Q (.int L.length) H):=by
 intro a3L s σ H xs A Q I r h
 obtain ⟨a,L,rfl,e,q⟩:=h
 obtain ⟨u,rfl,y⟩:=gK r
 cases y
 obtain ⟨⟨o,p,x,d,z,t,R,c,hd,g,ok,v,n,l,i,w,j⟩,_,_⟩:=I.hok a _ e
 have b:d.size=L.length:=by
  have:=v.length_eq
  simpa using this
 have m:t.mask<=511:=by rcases l with h|h|h|h<;>omega
 refine call_len_set p c hd (Tb.fits_of ok g) (by rw [b];omega) ?_
 rw [b]
 exact ⟨.int L.length,H,I.tok _,⟨_,rfl⟩,q⟩
end
end L3
namespace L3
open PySem L2
noncomputable def kK (ks:List (List Int)):Nat->Nat->Bool:=fun i j=>HT.lexLt (ks.getD i []) (ks.getD j [])
theorem CM {K:S1}{π:Nat->Addr}{n:Nat}{H:Hp}:∀ {vs:List V}{ks:List (List Int)},IsDs K π n H vs (ks.map fun k=>D.tup (k.map D.int))->TupsV K H vs ks
 | _,[],h=>by cases h;exact .nil
 | _,k::ks,h=>by
  cases h with
  | cons h t=>
   cases h with
   | @tup p vs ds a hd=>
    have:=ints_of' hd
    subst this
    exact .cons ⟨p,rfl,a⟩ (CM t)
theorem CN {K:S1}{π:Nat->Addr}{n:Nat}{H:Hp}:∀ {vs:List V}{xs:List D}(i:Nat),IsDs K π n H vs xs->IsD K π n H (vs.getD i .non) (xs.getD i .non)
 | _,_,i,.nil=>by simp;exact .non
 | _,_,0,.cons h _=>h
 | _,_,i+1,.cons _ t=>by simpa using CN i t
theorem CO {K:S1}{π:Nat->Addr}{n:Nat}{H:Hp}{vs:List V}{xs:List D}(h:IsDs K π n H vs xs):∀ (l:List Nat),IsDs K π n H (l.map fun i=>vs.getD i .non) (l.map fun i=>xs.getD i .non)
 | []=>.nil
 | i::l=>.cons (CN i h) (CO h l)
end L3
namespace L3
open PySem L2 PySem.W PyProof.Rows
section
variable {prog:TC}{w:T7}{A:TR}{E:S4->S5->Prop}{κ:WU}{st:Vt}{s:S5}
theorem Mr {i j:Nat}{Q:Unit->Vt->S5->Prop}(q:Q () (setArr st (a3B (a1N st) i j ((j - i) / 2))) s):Xl (TK prog w) A E (reverseSlice' i j) Q st s:=by
 rw [reverseSlice'_eq];exact V2 q
end
theorem Ms:∀ {ss:List Str}{a:List S4},Vals (ss.map V.str) a->StrsAre a ss
 | [],_,h=>by cases h;exact .nil
 | x::ss,_,h=>by
  cases h with
  | cons h t=>
   obtain ⟨k,rfl⟩:=h
   exact .cons x k (Ms t)
end L3
namespace L3
open PySem L2 PySem.W PyProof.Rows
section
variable {M:a1Q}{A:TR}{E:S4->S5->Prop}{σ:Type}
theorem gU {g:Type}{f:Nat->g->StateT σ a1h (ForInStep g)}{s:S5}{Q:g->σ->S5->Prop}(j:Nat->g->σ->Prop)(l:g->σ->Prop)(a n:Nat)
  (step:∀ i b st,i<n->j i b st->Xl M A E (f (a+i) b) (fun r d p=>p=s/\match r with|.done c=>l c d|.yield c=>j (i+1) c d) st s)(fin:∀ b st,j n b st->l b st)(k:∀ b st,l b st->Q b st s) :
  ∀ (m i:Nat)(b:g)(st:σ),i+m=n->j i b st->Xl M A E (forIn (X6 (a+i) m) b f) Q st s
 | 0,i,b,st,h,hI=>kasC_nil (k b st (fin b st (by simp at h;subst h;exact hI)))
 | m+1,i,b,st,h,hI=>by
  rw [Zc]
  refine kasC_cons (Uq (step i b st (by omega) hI) (fun r p q=>?_) fun _ _ e=>e)
  obtain ⟨r,d⟩:=r
  obtain ⟨u,o⟩:=q
  subst u
  cases r with
  | done c=>exact k c _ o
  | yield c=>exact gU j l a n step fin k m (i+1) c d (by omega) o
end
section
variable {prog:TC}{w:T7}{A:TR}{E:S4->S5->Prop}{κ:WU}{st:Vt}{s:S5}
theorem CP {X:Keyed->Prop}{an:Keyed->Keyed->Bool}(Y:fC prog w A κ s X an)(hk:kindOf st=κ){N:Bool}{G:Keyed}{O:Array Keyed}{b n h:Nat}(hn:h<n)(y:Nat->Keyed)(ha:∀ i,i<n->O[b+i]? = some (y i))(Z:∀ i,i<n->X (y i))(hy:X G)(K:Nat)(hK:K<=n)
  (hB:∀ i,i<n->(if N then an (y i) G else !(an G (y i)))=decide (i<K)){Q:Option Nat->Vt->S5->Prop}(q:Q (some K) st s):Xl (TK prog w) A E (sD N G O b n h) Q st s:=by
 have I:∀ {i:Nat}{R:Option Bool->Vt->S5->Prop},i<n->R (some (decide (i<K))) st s->Xl (TK prog w) A E (do let x <- elem' O (b+i);if N then lt' x G else return (<- lt' G x).map (!·)) R st s:=by
  intro i R v r
  rw [elem'_eq,ha i v]
  refine Tn (Tv ?_)
  have:=hB i v
  cases N with
  | true=>
   simp only [if_true] at this ⊢
   exact pQ Y hk (Z i v) hy (by rw [this];exact r)
  | false=>
   simp only [Te,if_false] at this ⊢
   refine Tn (pQ Y hk hy (Z i v) (Tv ?_))
   show R (some (!(an G (y i)))) st s
   rw [this]
   exact r
 unfold sD
 refine Tn (I hn ?_)
 by_cases d:h<K
 ·simp only [d,decide_true,if_true]
  refine Tn (Ve (jJ (fun i c=>c.1=none/\h+c.2.1<K/\c.2.1<c.2.2/\i+1<=c.2.2) (fun c=>c.1=none/\h+c.2.1<K/\c.2.1<c.2.2/\K<=h+min c.2.2 (n - h)) n (fun i x c v a=>?_) (fun c a=>⟨a.1,a.2.1,a.2.2.1,by omega⟩) (fun c B=>?_) _ 0 _ (by simp) ⟨rfl,d,by decide,Th _⟩))
  ·obtain ⟨z,U,of⟩:=c
   obtain ⟨u,m,o,H⟩:=a
   dsimp only at u m o H ⊢
   by_cases j:of >= n - h
   ·rw [if_pos j]
    exact Tv ⟨rfl,rfl,rfl,m,o,by dsimp only;omega⟩
   ·rw [if_neg j]
    refine Tn (I (i:=h+of) (by omega) ?_)
    by_cases l:h+of<K
    ·simp only [l,decide_true,Ut,Te,if_false]
     exact Tv ⟨rfl,rfl,rfl,by dsimp only;omega,by dsimp only;omega,by dsimp only;omega⟩
    ·simp only [l,decide_false,V5,if_true]
     exact Tv ⟨rfl,rfl,rfl,m,o,by dsimp only;omega⟩
  ·obtain ⟨z,U,of⟩:=c
   obtain ⟨u,m,o,H⟩:=B
   dsimp only at u m o H ⊢
   subst u
   dsimp only
   refine Tn (Ve (jJ (fun i c=>c.1=none/\c.2.1<=K/\K<=c.2.2/\c.2.2<=n/\c.2.2 - c.2.1<=n - i) (fun c=>c.1=none/\c.2.2=K) n (fun i x c v a=>?_) (fun c a=>⟨a.1,by omega⟩) (fun c B=>?_) _ 0 _ (by simp) ⟨rfl,by dsimp only;omega,by dsimp only;omega,by dsimp only;omega,by dsimp only;omega⟩))
   ·obtain ⟨z,e,p⟩:=c
    obtain ⟨d,g,L,M,T⟩:=a
    dsimp only at d g L M T ⊢
    by_cases j:e >= p
    ·rw [if_pos j]
     exact Tv ⟨rfl,rfl,rfl,by dsimp only;omega⟩
    ·rw [if_neg j]
     refine Tn (I (i:=e+(p - e) / 2) (by omega) ?_)
     by_cases l:e+(p - e) / 2<K
     ·simp only [l,decide_true,if_true]
      exact Tv ⟨rfl,rfl,rfl,by dsimp only;omega,L,M,by dsimp only;omega⟩
     ·simp only [l,decide_false,Te,if_false]
      exact Tv ⟨rfl,rfl,rfl,g,by dsimp only;omega,by dsimp only;omega,by dsimp only;omega⟩
   ·obtain ⟨z,e,p⟩:=c
    obtain ⟨d,g⟩:=B
    dsimp only at d g ⊢
    subst d g
    exact Tv q
 ·simp only [d,decide_false,Te,if_false]
  refine Tn (Ve (jJ (fun i c=>c.1=none/\K+c.2.1<=h/\c.2.1<c.2.2/\i+1<=c.2.2) (fun c=>c.1=none/\K+c.2.1<=h/\c.2.1<c.2.2/\h+1<=K+min c.2.2 (h+1)) n (fun i x c v a=>?_) (fun c a=>⟨a.1,a.2.1,a.2.2.1,by omega⟩) (fun c B=>?_) _ 0 _ (by simp) ⟨rfl,by dsimp only;omega,by decide,Th _⟩))
  ·obtain ⟨z,U,of⟩:=c
   obtain ⟨u,m,o,H⟩:=a
   dsimp only at u m o H ⊢
   by_cases j:of >= h+1
   ·rw [if_pos j]
    exact Tv ⟨rfl,rfl,rfl,m,o,by dsimp only;omega⟩
   ·rw [if_neg j]
    refine Tn (I (i:=h - of) (by omega) ?_)
    by_cases l:h - of<K
    ·simp only [l,decide_true,if_true]
     exact Tv ⟨rfl,rfl,rfl,m,o,by dsimp only;omega⟩
    ·simp only [l,decide_false,Te,if_false]
     exact Tv ⟨rfl,rfl,rfl,by dsimp only;omega,by dsimp only;omega,by dsimp only;omega⟩
  ·obtain ⟨z,U,of⟩:=c
   obtain ⟨u,m,o,H⟩:=B
   dsimp only at u m o H ⊢
   subst u
   dsimp only
   refine Tn (Ve (jJ (fun i c=>c.1=none/\c.2.1<=K/\K<=c.2.2/\c.2.2<=n/\c.2.2 - c.2.1<=n - i) (fun c=>c.1=none/\c.2.2=K) n (fun i x c v a=>?_) (fun c a=>⟨a.1,by omega⟩) (fun c B=>?_) _ 0 _ (by simp) ⟨rfl,by dsimp only;omega,by dsimp only;omega,by dsimp only;omega,by dsimp only;omega⟩))
   ·obtain ⟨z,e,p⟩:=c
    obtain ⟨d,g,L,M,T⟩:=a
    dsimp only at d g L M T ⊢
    by_cases j:e >= p
    ·rw [if_pos j]
     exact Tv ⟨rfl,rfl,rfl,by dsimp only;omega⟩
    ·rw [if_neg j]
     refine Tn (I (i:=e+(p - e) / 2) (by omega) ?_)
     by_cases l:e+(p - e) / 2<K
     ·simp only [l,decide_true,if_true]
      exact Tv ⟨rfl,rfl,rfl,by dsimp only;omega,L,M,by dsimp only;omega⟩
     ·simp only [l,decide_false,Te,if_false]
      exact Tv ⟨rfl,rfl,rfl,g,by dsimp only;omega,by dsimp only;omega,by dsimp only;omega⟩
   ·obtain ⟨z,e,p⟩:=c
    obtain ⟨d,g⟩:=B
    dsimp only at d g ⊢
    subst d g
    exact Tv q
end
section
variable {α:Type}{r:α->Int}{A B O:List α}{ia ib:Nat}
noncomputable def Sr (r:α->Int)(l:List α):Prop:=l.Pairwise fun x y=>r x<=r y
structure J (r:α->Int)(A B O:List α)(ia ib:Nat):Prop where
 sa:Sr r (O++A.drop ia)
 sb:Sr r (O++B.drop ib)
 pm:O.Perm (A.take ia++B.take ib)
theorem J.swap (h:J r A B O ia ib):J r B A O ib ia:=⟨h.sb,h.sa,h.pm.trans VR⟩
theorem J.blockB (h:J r A B O ia ib){k:Nat}(i:∀ x∈(B.drop ib).take k,∀ y∈A.drop ia,r x<=r y):J r A B (O++(B.drop ib).take k) ia (ib+k):=by
 obtain ⟨a,b,g⟩:=h
 have e:O++(B.drop ib).take k++B.drop (ib+k)=O++B.drop ib:=by rw [Tu,<- ZM,Ue]
 refine ⟨?_,by rw [e];exact b,?_⟩
 ·unfold Sr at a b ⊢
  rw [Tu,U4]
  rw [U4] at a b
  refine ⟨a.1,?_,fun x d y c=>?_⟩
  ·rw [U4]
   exact ⟨b.2.1.sublist (Wh _ _),a.2.1,i⟩
  ·rcases TU.mp c with c|c
   ·exact b.2.2 x d y (Vx c)
   ·exact a.2.2 x d y c
 ·rw [List.take_add]
  exact ((g.append_right _).trans (by rw [Tu]))
theorem J.blockA (h:J r A B O ia ib){k:Nat}(a:∀ x∈(A.drop ia).take k,∀ y∈B.drop ib,r x<=r y):J r A B (O++(A.drop ia).take k) (ia+k) ib:=(h.swap.blockB a).swap
theorem pS {l:List α}{i:Nat}{x:α}(h:l[i]? = some x):l.drop i=x::l.drop (i+1):=by
 obtain ⟨a,rfl⟩:=S2.mp h
 exact U7 a
theorem Sr.head {l:List α}{x:α}(h:Sr r (x::l)):∀ y∈x::l,r x<=r y:=fun y a=>by
 rcases T5.mp a with rfl|a
 ·exact Zp _
 ·exact X3 h a
theorem J.lowA (h:J r A B O ia ib){x:α}(a:A[ia]? = some x):∀ y∈A.drop ia,r x<=r y:=by
 have:=(U4.mp h.sa).2.1
 rw [pS a] at this ⊢
 exact Sr.head this
theorem J.lowB (h:J r A B O ia ib){x:α}(a:B[ib]? = some x):∀ y∈B.drop ib,r x<=r y:=h.swap.lowA a
theorem J.pushB (h:J r A B O ia ib){x y:α}(d:A[ia]? = some x)(a:B[ib]? = some y)(e:r y<=r x):J r A B (O++[y]) ia (ib+1):=by
 have:=h.blockB (k:=1) (by
  rw [pS a]
  intro z b u c
  rw [YJ,Wr,TN] at b
  subst b
  have:=h.lowA d u c
  omega)
 rwa [pS a,YJ,Wr] at this
theorem J.pushA (h:J r A B O ia ib){x y:α}(b:A[ia]? = some x)(c:B[ib]? = some y)(a:r x<=r y):J r A B (O++[x]) (ia+1) ib:=(h.swap.pushB c b a).swap
theorem CQ {l:List α}{i k:Nat}{x:α}(h:x∈(l.drop i).take k):∃ j,j<k/\l[i+j]? = some x:=by
 obtain ⟨j,a,e⟩:=VG h
 rw [TX] at a
 refine ⟨j,by omega,?_⟩
 rw [<- e,YX,a1u,S7]
theorem J.gallA (h:J r A B O ia ib){k:Nat}{y:α}(d:B[ib]? = some y)(b:∀ j x,j<k->A[ia+j]? = some x->r x<=r y):J r A B (O++(A.drop ia).take k) (ia+k) ib:=h.blockA fun x c z hz=>by
 obtain ⟨j,a,e⟩:=CQ c
 have g:=b j x a e
 have i:=h.lowB d z hz
 omega
theorem J.gallB (h:J r A B O ia ib){k:Nat}{x:α}(b:A[ia]? = some x)(a:∀ j y,j<k->B[ib+j]? = some y->r y<=r x):J r A B (O++(B.drop ib).take k) ia (ib+k):=(h.swap.gallA b a).swap
noncomputable def Fi (r:α->Int)(A B R:List α):Prop:=R.Perm (A++B)/\Sr r R
theorem J.endB (h:J r A B O ia ib)(a:B.length<=ib):Fi r A B (O++A.drop ia++B.drop ib):=by
 rw [UU a,Uz]
 refine ⟨?_,h.sa⟩
 have:=h.pm.append_right (A.drop ia)
 refine this.trans ?_
 rw [Vo a]
 refine VR.trans ?_
 rw [<- Tu]
 refine (List.Perm.append_right B (VR)).trans ?_
 rw [Ue]
theorem J.endA (h:J r A B O ia ib)(a:A.length<=ia):Fi r A B (O++A.drop ia++B.drop ib):=by
 have:=h.swap.endB a
 rw [UU a,Uz] at this ⊢
 exact ⟨this.1.trans VR,this.2⟩
theorem J.last (h:J r A B O ia ib)(d:A.length=ia+1)(b:∀ x,A[ia]? = some x->∀ y∈B,r y<=r x):Fi r A B (O++B.drop ib++A.drop ia):=by
 have a:A[ia]? = some A[ia]:=S7 (by omega)
 have g:=h.gallB (k:=B.length - ib) a fun j y _ c=>b _ a y (Ts c)
 have e:(B.drop ib).take (B.length - ib)=B.drop ib:=Vo (by rw [Uk];exact Th _)
 rw [e] at g
 have:=g.endB (by omega)
 rwa [UU (l:=B) (i:=ib+(B.length - ib)) (by omega),Uz] at this
end
end L3
namespace L3
open PySem L2 PySem.W PyProof.Rows
section
variable {prog:TC}{w:T7}{A₀:TR}{E:S4->S5->Prop}{κ:WU}{st:Vt}{s:S5}{A B:List Keyed}
theorem CS (A:List Keyed)(i:Nat):(A.toArray.extract i A.toArray.size).toList=A.drop i:=by
 rw [a0r,ZW,UM,Ta,Vo (by rw [Uk];exact Th _)]
theorem pT (A:List Keyed)(i j:Nat):(A.toArray.extract i j).toList=(A.drop i).take (j - i):=by
 rw [a0r,ZW,UM]
theorem w8 (A:List Keyed)(i k:Nat):(A.toArray.extract i (i+k)).toList=(A.drop i).take k:=by
 rw [pT,VD]
theorem dB {i:Nat}{x:Keyed}{Q:Keyed->Vt->S5->Prop}(h:A[i]? = some x)(q:Q x st s):Xl (TK prog w) A₀ E (elem' A.toArray i) Q st s:=w5 (by rw [Uo];exact h) q
noncomputable def nP (p:Keyed->Bool)(l:List Keyed):Nat:=(l.takeWhile p).length
theorem CT (p:Keyed->Bool)(l:List Keyed):nP p l<=l.length:=a3m (List.takeWhile_sublist _)
theorem w9 {p:Keyed->Bool}:∀ {l:List Keyed},l.Pairwise (fun x y=>p y=true->p x=true)->∀ (i:Nat)(x:Keyed),l[i]? = some x->p x=decide (i<nP p l)
 | [],_,i,x,h=>by cases h
 | a::l,hp,i,x,h=>by
  unfold nP
  rw [VP] at hp
  cases b:p a with
  | true=>
   rw [a0H,b,if_pos rfl,TF]
   cases i with
   | zero=>cases h;rw [b];simp
   | succ i=>
    have:=w9 hp.2 i x h
    unfold nP at this
    rw [this]
    simp
  | false=>
   rw [a0H,b,if_neg Uc,Vh]
   cases i with
   | zero=>cases h;rw [b];simp
   | succ i=>
    cases c:p x with
    | false=>simp
    | true=>
     have:=hp.1 x (Ts h) c
     rw [b] at this
     cases this
variable {X:Keyed->Prop}{r:Keyed->Int}
noncomputable abbrev lr (r:Keyed->Int)(x y:Keyed):Bool:=decide (r x<r y)
theorem Sr.le {l:List Keyed}(h:Sr r l)(b:Int):l.Pairwise (fun x y=>decide (r y<=b)=true->decide (r x<=b)=true):=h.imp fun {x y} h1 a=>by
 rw [decide_eq_true_eq] at a ⊢;omega
theorem Sr.lt {l:List Keyed}(h:Sr r l)(b:Int):l.Pairwise (fun x y=>decide (r y<b)=true->decide (r x<b)=true):=h.imp fun {x y} h1 a=>by
 rw [decide_eq_true_eq] at a ⊢;omega
theorem Sr.part {l:List Keyed}(h:Sr r l)(i k:Nat):Sr r ((l.drop i).take k):=(U5 (Wh _ _) (U5 (X8 _ _) h))
theorem xA (m:fC prog w A₀ κ s X (lr r))(u:kindOf st=κ){a:Keyed}{b n h:Nat}(v:h<n)(z:b+n<=A.length)(p:∀ x∈A,X x)(y:X a)(o:Sr r ((A.drop b).take n))
  {Q:Option Nat->Vt->S5->Prop}(q:∀ K,K<=n->(∀ j x,j<n->A[b+j]? = some x->(r x<=r a↔j<K))->Q (some K) st s):Xl (TK prog w) A₀ E (sD false a A.toArray b n h) Q st s:=by
 have e:∀ i,i<n->A[b+i]? = some (A.getD (b+i) (.none,.none)):=fun i c=>by
  rw [TL,S7 (by omega)];rfl
 have hc:=w9 (o.le (r a))
 have l:=CT (fun x=>decide (r x<=r a)) ((A.drop b).take n)
 rw [TX,Uk] at l
 have d:∀ j x,j<n->A[b+j]? = some x->((A.drop b).take n)[j]? = some x:=fun j x g h=>by
  rw [UJ g,V9];exact h
 refine CP m u v (fun i=>A.getD (b+i) (.none,.none)) (fun i c=>by rw [Uo];exact e i c) (fun i c=>p _ (Ts (e i c))) y _ (by omega) (fun i c=>?_) (q (nP (fun x=>decide (r x<=r a)) ((A.drop b).take n)) (by omega) fun j x g h=>?_)
 ·have:=hc i _ (d i _ c (e i c))
  rw [if_neg Uc,<- this]
  unfold lr
  by_cases h:r a<r (A.getD (b+i) (.none,.none))
  ·rw [decide_eq_true h,decide_eq_false (by omega)];rfl
  ·rw [decide_eq_false h,decide_eq_true (by omega)];rfl
 ·have:=hc j x (d j x g h)
  rw [<- decide_eq_true_eq (p:=r x<=r a),this,decide_eq_true_eq]
theorem xB (m:fC prog w A₀ κ s X (lr r))(u:kindOf st=κ){c:Keyed}{b n h:Nat}(v:h<n)(z:b+n<=A.length)(p:∀ x∈A,X x)(y:X c)(o:Sr r ((A.drop b).take n))
  {Q:Option Nat->Vt->S5->Prop}(q:∀ K,K<=n->(∀ j x,j<n->A[b+j]? = some x->(r x<r c↔j<K))->Q (some K) st s):Xl (TK prog w) A₀ E (sD true c A.toArray b n h) Q st s:=by
 have e:∀ i,i<n->A[b+i]? = some (A.getD (b+i) (.none,.none)):=fun i a=>by
  rw [TL,S7 (by omega)];rfl
 have hc:=w9 (o.lt (r c))
 have l:=CT (fun x=>decide (r x<r c)) ((A.drop b).take n)
 rw [TX,Uk] at l
 have d:∀ j x,j<n->A[b+j]? = some x->((A.drop b).take n)[j]? = some x:=fun j x g h=>by
  rw [UJ g,V9];exact h
 refine CP m u v (fun i=>A.getD (b+i) (.none,.none)) (fun i a=>by rw [Uo];exact e i a) (fun i a=>p _ (Ts (e i a))) y _ (by omega) (fun i a=>?_) (q (nP (fun x=>decide (r x<r c)) ((A.drop b).take n)) (by omega) fun j x g h=>?_)
 ·have:=hc i _ (d i _ a (e i a))
  rw [if_pos rfl,<- this]
 ·have:=hc j x (d j x g h)
  rw [<- decide_eq_true_eq (p:=r x<r c),this,decide_eq_true_eq]
end
end L3
namespace L3
open PySem L2 PySem.W PyProof.Rows
section
variable {prog:TC}{w:T7}{A₀:TR}{E:S4->S5->Prop}{κ:WU}{s:S5}{A B:List Keyed}{X:Keyed->Prop}{r:Keyed->Int}
theorem bV {σ i:Type}{M:a1Q}{d:TR}{e:S4->S5->Prop}{g:S5}{Q:i->σ->S5->Prop}{st:σ}{c:Prop} [Decidable c] {a b:StateT σ a1h i}(j:¬ c->Xl M d e b Q st g)(h1:c->Xl M d e a Q st g):Xl M d e (if c then a else b) Q st g:=by
 by_cases h:c
 ·rw [if_pos h];exact h1 h
 ·rw [if_neg h];exact j h
theorem jK (out:Array Keyed)(i j:Nat):(out++A.toArray.extract i A.toArray.size++B.toArray.extract j B.toArray.size).toList=out.toList++A.drop i++B.drop j:=by
 rw [Vq,Vq,CS,CS]
noncomputable def Go (r:Keyed->Int)(A B:List Keyed)(n:Nat)(out:Array Keyed)(ia ib:Nat):Prop:=J r A B out.toList ia ib/\ia+1<A.length/\ib<B.length/\n<=ia+ib
theorem Mt (hC:fC prog w A₀ κ s X (lr r))(hXA:∀ x∈A,X x)(hXB:∀ x∈B,X x)(hA:Sr r A)(hB:Sr r B)(hA0:0<A.length)(hB0:0<B.length)(hf:∀ y,B[0]? = some y->∀ x∈A,r y<=r x)(hl:∀ x,A[A.length - 1]? = some x->∀ y∈B,r y<=r x)
  {T:Array Keyed}{pd:Array (Nat×Nat×Nat)}{mg:Nat}{Q:Array Keyed->Vt->S5->Prop}(q:∀ R l,Fi r A B R.toList->Q R (TV κ T pd l none) s) :
  Xl (TK prog w) A₀ E (CC A.toArray B.toArray) Q (TV κ T pd mg none) s:=by
 have Y:∀ i,i<A.length->∃ x,A[i]? = some x/\X x:=fun i hi=>⟨A[i],S7 hi,hXA _ (VN hi)⟩
 have p:∀ i,i<B.length->∃ x,B[i]? = some x/\X x:=fun i hi=>⟨B[i],S7 hi,hXB _ (VN hi)⟩
 have last:∀ {O:List Keyed}{ia ib:Nat},J r A B O ia ib->ia+1=A.length->Fi r A B (O++B.drop ib++A.drop ia):=fun {O ia ib} h e=>h.last e.symm fun x g=>hl x (by rw [show A.length - 1=ia by omega];exact g)
 unfold CC
 refine Tn (Yw (W3 ?_))
 obtain ⟨y0,H,_⟩:=p 0 hB0
 refine Tn (dB H ?_)
 have j0:J r A B [y0] 0 1:=by
  refine ⟨?_,?_,?_⟩
  ·show Sr r (y0::A.drop 0)
   unfold Sr
   rw [VQ,VP]
   exact ⟨fun x g=>hf y0 H x g,hA⟩
  ·show Sr r (y0::B.drop 1)
   rw [<- pS H,VQ]
   exact hB
  ·rw [Wr,T3]
   cases B with
   | nil=>cases H
   | cons b B=>cases H;exact XA _
 dsimp only
 by_cases h1:B.length=1
 ·rw [if_pos (by rw [Ta,h1];rfl)]
  refine Tv (q _ _ ?_)
  rw [jK]
  exact j0.endB (by omega)
 rw [if_neg (by rw [Ta,beq_iff_eq];omega)]
 by_cases h2:A.length=1
 ·rw [if_pos (by rw [Ta,h2];rfl)]
  refine Tv (q _ _ ?_)
  rw [jK]
  exact last j0 (by omega)
 rw [if_neg (by rw [Ta,beq_iff_eq];omega)]
 refine Tn (Xk ?_)
 have G:A.toArray.size+B.toArray.size=A.length+B.length:=by rw [Ta,Ta]
 refine Tn (Ve (gU (fun i c st=>(∃ l,st=TV κ T pd l none)/\∃ a ia ib m,c=(none,a,ia,ib,m)/\Go r A B (i+1) a ia ib) (fun c st=>(∃ l,st=TV κ T pd l none)/\∃ R:Array Keyed,c.1=some R/\Fi r A B R.toList) 0 (A.length+B.length) (fun i c st hi hI=>?_) (fun c st hI=>?_) (fun c st L=>?_) (A.toArray.size+B.toArray.size - 0) 0 _ _ (by rw [G];omega) ⟨⟨_,rfl⟩,_,_,_,_,rfl,j0,by omega,by omega,by omega⟩))
 ·obtain ⟨⟨mg1,rfl⟩,a,ia,ib,m,rfl,hG⟩:=hI
  dsimp only
    -- one by one
  refine Tn (Ve (gU (fun j c st=>st=TV κ T pd mg1 none/\∃ a ia ib u v,c=(none,a,ia,ib,u,v)/\Go r A B (i+1+j) a ia ib) (fun c st=>st=TV κ T pd mg1 none/\((∃ R:Array Keyed,c.1=some R/\Fi r A B R.toList)\/∃ a ia ib u v,c=(none,a,ia,ib,u,v)/\Go r A B (i+2) a ia ib)) 0 (A.length+B.length) (fun j c st hj hJ=>?_) (fun c st hJ=>?_) (fun c st L=>?_) (A.toArray.size+B.toArray.size - 0) 0 _ _ (by rw [G];omega) ⟨rfl,_,_,_,_,_,rfl,hG⟩))
  ·obtain ⟨rfl,a,ia,ib,u,v,rfl,K,Z,U,g4⟩:=hJ
   dsimp only
   obtain ⟨x,g,Xx⟩:=Y ia (by omega)
   obtain ⟨y,M,Xy⟩:=p ib U
   refine Tn (dB M (Tn (dB g (Tn (pQ hC rfl Xy Xx ?_)))))
   dsimp only
   by_cases hc:r y<r x
   ·rw [if_pos (by unfold lr;exact decide_eq_true hc)]
    refine Tn (dB M ?_)
    have o:=K.pushB g M (Yu hc)
    rw [<- U8] at o
    by_cases n:ib+1=B.length
    ·rw [if_pos (by rw [Ta,beq_iff_eq];exact n)]
     refine Tv ⟨rfl,rfl,.inl ⟨_,rfl,?_⟩⟩
     rw [jK]
     exact o.endB (by omega)
    ·rw [if_neg (by rw [Ta,beq_iff_eq];exact n)]
     split
     ·exact Tv ⟨rfl,rfl,.inr ⟨_,_,_,_,_,rfl,o,Z,by omega,by omega⟩⟩
     ·exact Tv ⟨rfl,rfl,_,_,_,_,_,rfl,o,Z,by omega,by omega⟩
   ·rw [if_neg (by unfold lr;rw [decide_eq_true_eq];exact hc)]
    refine Tn (dB g ?_)
    have o:=K.pushA g M (by omega)
    rw [<- U8] at o
    by_cases n:ia+1+1=A.length
    ·rw [if_pos (by rw [Ta,beq_iff_eq];exact n)]
     refine Tv ⟨rfl,rfl,.inl ⟨_,rfl,?_⟩⟩
     rw [jK]
     exact last o n
    ·rw [if_neg (by rw [Ta,beq_iff_eq];exact n)]
     split
     ·exact Tv ⟨rfl,rfl,.inr ⟨_,_,_,_,_,rfl,o,by omega,U,by omega⟩⟩
     ·exact Tv ⟨rfl,rfl,_,_,_,_,_,rfl,o,by omega,U,by omega⟩
  ·obtain ⟨rfl,a,ia,ib,u,v,rfl,K,Z,U,g4⟩:=hJ
   exact ⟨rfl,.inr ⟨_,_,_,_,_,rfl,K,Z,U,by omega⟩⟩
  ·obtain ⟨rfl,L⟩:=L
   obtain ⟨c0,a,ia,ib,u,v⟩:=c
   dsimp only
   rcases L with ⟨R,e,hR⟩|⟨d,N,ib',ac',bc',e,hG⟩
   ·dsimp only at e
    subst e
    exact Tv ⟨rfl,⟨_,rfl⟩,R,rfl,hR⟩
   cases e
   dsimp only
   refine Tn (Yw (W3 ?_))
      -- by leaps
   refine Tn (Ve (gU (fun j c st=>(∃ l,st=TV κ T pd l none)/\∃ a ia ib m u v,c=(none,a,ia,ib,m,u,v)/\Go r A B (i+2) a ia ib) (fun c st=>(∃ l,st=TV κ T pd l none)/\((∃ R:Array Keyed,c.1=some R/\Fi r A B R.toList)\/∃ a ia ib m u v,c=(none,a,ia,ib,m,u,v)/\Go r A B (i+2) a ia ib)) 0 (A.length+B.length) (fun j c st hj hJ=>?_) (fun c st hJ=>?_) (fun c st L=>?_) (A.toArray.size+B.toArray.size - 0) 0 _ _ (by rw [G];omega) ⟨⟨_,rfl⟩,_,_,_,_,_,_,rfl,hG⟩))
   ·obtain ⟨⟨mg2,rfl⟩,a,ia,ib,m,u,v,rfl,K,Z,U,g4⟩:=hJ
    dsimp only
    obtain ⟨y,M,Xy⟩:=p ib U
    refine bV (fun hm=>?_) fun hm=>?_
    all_goals
     refine Tn (V2 ?_)
     refine Tn (dB M ?_)
     refine Tn (xA hC rfl (b:=ia) (n:=A.toArray.size - ia) (h:=0) (by rw [Ta];omega) (by rw [Ta];omega) hXA Xy (hA.part _ _) fun k hk1 hk2=>?_)
     rw [Ta] at hk1
     dsimp only
     have o:=K.gallA (k:=k) M fun j x hj g=>(hk2 j x (by rw [Ta];omega) g).mpr hj
     have nx:∀ x,A[ia+k]? = some x->r y<r x:=fun x g=>by
      have h1:=(S2.mp g).1
      have:=hk2 k x (by rw [Ta];omega) g
      omega
     have g6:k=0->J r A B a.toList (ia+k) ib:=fun e=>by rw [e];exact K
     have e1:(a++A.toArray.extract ia (ia+k)).toList=a.toList++(A.drop ia).take k:=by rw [Vq,w8]
     rw [<- e1] at o
     refine bV (fun hk0=>?_) fun hk0=>bV (fun n=>bV (fun he2=>?_) fun he2=>?_) fun n=>?_
     rotate_left 2
     ·rw [Ta,beq_iff_eq] at he2
      refine Tv ⟨rfl,⟨_,rfl⟩,.inl ⟨_,rfl,?_⟩⟩
      rw [jK]
      exact o.endA (by omega)
     ·rw [Ta,beq_iff_eq] at n
      refine Tv ⟨rfl,⟨_,rfl⟩,.inl ⟨_,rfl,?_⟩⟩
      rw [jK]
      exact last o n
     have t0:ia<=ia:=Th _
     have t1:=K
     have t2:=Z
     have t3:∀ x,A[ia]? = some x->r y<r x:=by rw [show k=0 by omega] at nx;exact nx
     generalize hout:a=d at t1 ⊢
     generalize hia:(ia:Nat)=N at t0 t1 t2 t3 ⊢
     rw [<- hia] at t0
     rotate_left
     rw [Ta,beq_iff_eq] at n he2
     have t0:ia<=ia+k:=by omega
     have t1:=o
     have t2:ia+k+1<A.length:=by omega
     have t3:=nx
     generalize a++A.toArray.extract ia (ia+k)=d at t1 ⊢
     generalize ia+k=N at t0 t1 t2 t3 ⊢
     all_goals
      obtain ⟨x,g,Xx⟩:=Y N (by omega)
      have t5:=t1.pushB g M (Yu (t3 x g))
      rw [<- U8] at t5
      refine Tn (dB M ?_)
      refine bV (fun n=>?_) fun n=>?_
      rotate_left
      ·rw [Ta,beq_iff_eq] at n
       refine Tv ⟨rfl,⟨_,rfl⟩,.inl ⟨_,rfl,?_⟩⟩
       rw [jK]
       exact t5.endB (by omega)
      rw [Ta,beq_iff_eq] at n
      refine Tn (dB g ?_)
      refine Tn (xB hC rfl (b:=ib+1) (n:=B.toArray.size - (ib+1)) (h:=0) (by rw [Ta];omega) (by rw [Ta];omega) hXB Xx (hB.part _ _) fun I hm1 hm2=>?_)
      rw [Ta] at hm1
      dsimp only
      have u5:=t5.gallB (k:=I) g fun j z hj hz=>Yu ((hm2 j z (by rw [Ta];omega) hz).mpr hj)
      have nz:∀ z,B[ib+1+I]? = some z->r x<=r z:=fun z hz=>by
       have h1:=(S2.mp hz).1
       have:=hm2 I z (by rw [Ta];omega) hz
       omega
      have e2:(d.push y++B.toArray.extract (ib+1) (ib+1+I)).toList=(d.push y).toList++(B.drop (ib+1)).take I:=by rw [Vq,w8]
      rw [<- e2] at u5
      refine bV (fun hk1'=>?_) fun hk1'=>bV (fun hb=>?_) fun hb=>?_
      rotate_left 2
      ·rw [Ta,beq_iff_eq] at hb
       refine Tv ⟨rfl,⟨_,rfl⟩,.inl ⟨_,rfl,?_⟩⟩
       rw [jK]
       exact u5.endB (by omega)
      have v1:=t5
      have v2:ib+1<B.length:=by omega
      have v3:∀ z,B[ib+1]? = some z->r x<=r z:=by rw [show I=0 by omega] at nz;exact nz
      have v4:ib<ib+1:=by omega
      generalize d.push y=ou at v1 ⊢
      generalize ib+1=jb at v1 v2 v3 v4 ⊢
      rotate_left
      rw [Ta,beq_iff_eq] at hb
      have v1:=u5
      have v2:ib+1+I<B.length:=by omega
      have v3:=nz
      have v4:ib<ib+1+I:=by omega
      generalize d.push y++B.toArray.extract (ib+1) (ib+1+I)=ou at v1 ⊢
      generalize ib+1+I=jb at v1 v2 v3 v4 ⊢
      all_goals
       obtain ⟨z,hz,Xz⟩:=p jb v2
       have v5:=v1.pushA g hz (v3 z hz)
       rw [<- U8] at v5
       refine Tn (dB g ?_)
       refine bV (fun hf=>?_) fun hf=>?_
       ·rw [Ta,beq_iff_eq] at hf
        exact bV (fun _=>Tv ⟨rfl,⟨_,rfl⟩,_,_,_,_,_,_,rfl,v5,by omega,v2,by omega⟩) fun _=>Tv ⟨rfl,⟨_,rfl⟩,.inr ⟨_,_,_,_,_,_,rfl,v5,by omega,v2,by omega⟩⟩
       ·rw [Ta,beq_iff_eq] at hf
        refine Tv ⟨rfl,⟨_,rfl⟩,.inl ⟨_,rfl,?_⟩⟩
        rw [jK]
        exact last v5 hf
   ·obtain ⟨h1,h2⟩:=hJ
    exact ⟨h1,.inr h2⟩
   ·obtain ⟨⟨mg2,rfl⟩,L⟩:=L
    obtain ⟨c0,a,ia,ib,m,u,v⟩:=c
    dsimp only
    rcases L with ⟨R,e,hR⟩|⟨d,N,ib',m',ac',bc',e,hG⟩
    ·dsimp only at e
     subst e
     exact Tv ⟨rfl,⟨_,rfl⟩,R,rfl,hR⟩
    cases e
    dsimp only
    exact Tn (V2 (Tv ⟨rfl,⟨_,rfl⟩,_,_,_,_,rfl,hG⟩))
 ·obtain ⟨_,a,ia,ib,m,rfl,K,Z,U,g4⟩:=hI
  omega
 ·obtain ⟨⟨mg1,rfl⟩,R,e,hR⟩:=L
  obtain ⟨c0,c1⟩:=c
  dsimp only at e ⊢
  subst e
  exact Tv (q R _ hR)
end
end L3
namespace L3
open PySem L2 PySem.W PyProof.Rows
section
variable {r:Keyed->Int}{A B O:List Keyed}{na nb:Nat}
noncomputable def JH (r:Keyed->Int)(A B O:List Keyed)(na nb:Nat):Prop:=na<=A.length/\nb<=B.length/\J (fun x=>-r x) B.reverse A.reverse O (B.length - nb) (A.length - na)
theorem nQ {l:List Keyed}{n:Nat}{x:Keyed}(h:l[n - 1]? = some x)(h1:1<=n)(a:n<=l.length):l.reverse[l.length - n]? = some x:=by
 rw [UZ (by omega),<- h]
 congr 1
 omega
theorem JH.pushA (h:JH r A B O na nb){x y:Keyed}(e:A[na - 1]? = some x)(g:B[nb - 1]? = some y)(h1:1<=na)(d:1<=nb)(i:r y<=r x):JH r A B (O++[x]) (na - 1) nb:=by
 obtain ⟨b,a,c⟩:=h
 refine ⟨by omega,a,?_⟩
 have:=c.pushB (nQ g d a) (nQ e h1 b) (by omega)
 rw [show A.length - (na - 1)=A.length - na+1 by omega]
 exact this
theorem JH.pushB (h:JH r A B O na nb){x y:Keyed}(e:A[na - 1]? = some x)(g:B[nb - 1]? = some y)(h1:1<=na)(d:1<=nb)(i:r x<=r y):JH r A B (O++[y]) na (nb - 1):=by
 obtain ⟨a,b,c⟩:=h
 refine ⟨a,by omega,?_⟩
 have:=c.pushA (nQ g d b) (nQ e h1 a) (by omega)
 rw [show B.length - (nb - 1)=B.length - nb+1 by omega]
 exact this
theorem CU {l:List Keyed}{n t:Nat}(h1:t<=n)(b:n<=l.length):(l.reverse.drop (l.length - n)).take (n - t)=((l.drop t).take (n - t)).reverse:=by
 apply VA
 intro i
 have a:((l.drop t).take (n - t)).length=n - t:=by rw [TX,Uk];omega
 by_cases h:i<n - t
 ·rw [UJ h,V9,UZ (by omega),UZ (by omega),a,UJ (by omega),V9]
  congr 1
  omega
 ·rw [Up (by rw [TX,Uk,Vs];omega),Up (by rw [Vs,a];omega)]
theorem JH.gallA (h:JH r A B O na nb){t:Nat}{y:Keyed}(l:B[nb - 1]? = some y)(e:1<=nb)(i:t<=na)(g:∀ j x,t<=j->j<na->A[j]? = some x->r y<=r x):JH r A B (O++((A.drop t).take (na - t)).reverse) t nb:=by
 obtain ⟨c,b,d⟩:=h
 refine ⟨by omega,b,?_⟩
 have:=d.gallB (k:=na - t) (nQ l e b) fun j z n m=>by
  have a:A[A.length - 1 - (A.length - na+j)]? = some z:=by rw [<- m,UZ (by omega)]
  have:=g _ z (by omega) (by omega) a
  omega
 rw [CU i c] at this
 rw [show A.length - t=A.length - na+(na - t) by omega]
 exact this
theorem JH.gallB (h:JH r A B O na nb){t:Nat}{x:Keyed}(i:A[na - 1]? = some x)(h1:1<=na)(g:t<=nb)(e:∀ j y,t<=j->j<nb->B[j]? = some y->r x<=r y):JH r A B (O++((B.drop t).take (nb - t)).reverse) na t:=by
 obtain ⟨b,c,d⟩:=h
 refine ⟨b,by omega,?_⟩
 have:=d.gallA (k:=nb - t) (nQ i h1 b) fun j z m l=>by
  have a:B[B.length - 1 - (B.length - nb+j)]? = some z:=by rw [<- l,UZ (by omega)]
  have:=e _ z (by omega) (by omega) a
  omega
 rw [CU g c] at this
 rw [show B.length - t=B.length - nb+(nb - t) by omega]
 exact this
theorem nR {l:List Keyed}{n:Nat}:l.reverse.drop (l.length - n)=(l.take n).reverse:=by
 rw [List.reverse_take]
theorem Fi.rev {R:List Keyed}(h:Fi (fun x=>-r x) B.reverse A.reverse R):Fi r A B R.reverse:=by
 refine ⟨(X5 R).trans (h.1.trans ((List.Perm.append (X5 B) (X5 A)).trans VR)),?_⟩
 unfold Sr
 rw [Yv]
 exact h.2.imp fun {x y} h=>by dsimp only at h;omega
theorem JH.endA (h:JH r A B O na nb)(d:na=0):Fi r A B (A.take na++B.take nb++O.reverse):=by
 obtain ⟨b,c,a⟩:=h
 have:=(a.endB (by rw [Vs];omega)).rev
 rw [nR,nR] at this
 simpa using this
theorem JH.endB (h:JH r A B O na nb)(d:nb=0):Fi r A B (A.take na++B.take nb++O.reverse):=by
 obtain ⟨b,c,a⟩:=h
 have:=(a.endA (by rw [Vs];omega)).rev
 rw [nR,nR] at this
 simpa using this
theorem JH.last (h:JH r A B O na nb)(j:nb=1)(c:∀ y,B[0]? = some y->∀ x∈A,r y<=r x):Fi r A B (B.take nb++A.take na++O.reverse):=by
 obtain ⟨g,i,b⟩:=h
 have:=(b.last (by rw [Vs];omega) fun y e x d=>by
  have a:B[0]? = some y:=by rw [<- e,UZ (by omega)];congr 1;omega
  have:=c y a x (a1E.mp d)
  omega).rev
 rw [nR,nR] at this
 simpa using this
variable {prog:TC}{w:T7}{A₀:TR}{E:S4->S5->Prop}{κ:WU}{s:S5}{X:Keyed->Prop}
theorem jL (out:Array Keyed)(i j:Nat):(A.toArray.extract 0 i++B.toArray.extract 0 j++out.reverse).toList=A.take i++B.take j++out.toList.reverse:=by
 rw [Vq,Vq,pT,pT,a0q,VQ,VQ,a0l,a0l]
theorem CV (out:Array Keyed)(A:List Keyed)(t n:Nat):(out++(A.toArray.extract t n).reverse).toList=out.toList++((A.drop t).take (n - t)).reverse:=by
 rw [Vq,a0q,pT]
noncomputable def pU (r:Keyed->Int)(A B:List Keyed)(n:Nat)(out:Array Keyed)(na nb:Nat):Prop:=JH r A B out.toList na nb/\1<=na/\2<=nb/\n+na+nb<=A.length+B.length
theorem Mu (hC:fC prog w A₀ κ s X (lr r))(hXA:∀ x∈A,X x)(hXB:∀ x∈B,X x)(hA:Sr r A)(hB:Sr r B)(hA0:0<A.length)(hB0:0<B.length)(hf:∀ y,B[0]? = some y->∀ x∈A,r y<=r x)(hl:∀ x,A[A.length - 1]? = some x->∀ y∈B,r y<=r x)
  {U:Array Keyed}{pd:Array (Nat×Nat×Nat)}{mg:Nat}{Q:Array Keyed->Vt->S5->Prop}(q:∀ R d,Fi r A B R.toList->Q R (TV κ U pd d none) s) :
  Xl (TK prog w) A₀ E (CD A.toArray B.toArray) Q (TV κ U pd mg none) s:=by
 have v:∀ i,i<A.length->∃ x,A[i]? = some x/\X x:=fun i hi=>⟨A[i],S7 hi,hXA _ (VN hi)⟩
 have G:∀ i,i<B.length->∃ x,B[i]? = some x/\X x:=fun i hi=>⟨B[i],S7 hi,hXB _ (VN hi)⟩
 unfold CD
 refine Tn (Yw (W3 ?_))
 obtain ⟨x0,Z,_⟩:=v (A.length - 1) (by omega)
 refine Tn (dB (by rw [Ta];exact Z) ?_)
 have j0:JH r A B [x0] (A.length - 1) B.length:=by
  refine ⟨by omega,Th _,?_⟩
  have e:A.reverse=x0::A.reverse.drop 1:=by
   have:=pS (l:=A.reverse) (i:=0) (x:=x0) (by rw [UZ (by omega)];exact Z)
   rwa [VQ] at this
  rw [W6,show A.length - (A.length - 1)=1 by omega]
  refine ⟨?_,?_,?_⟩
  ·unfold Sr
   rw [VQ]
   show (x0::B.reverse).Pairwise _
   rw [VP]
   refine ⟨fun y H=>?_,?_⟩
   ·have:=hl x0 Z y (a1E.mp H)
    dsimp only
    omega
   ·rw [Yv]
    exact hB.imp fun {x y} h=>by dsimp only;omega
  ·show Sr _ (x0::A.reverse.drop 1)
   rw [<- e]
   unfold Sr
   rw [Yv]
   exact hA.imp fun {x y} h=>by dsimp only;omega
  ·rw [Wr,T3,e]
   exact XA _
 dsimp only
 rw [Ta,Ta]
 refine bV (fun I=>bV (fun K=>?_) fun K=>?_) fun I=>?_
 rotate_left
 ·rw [beq_iff_eq] at K
  refine Tv (q _ _ ?_)
  rw [jL]
  exact j0.last K hf
 ·rw [beq_iff_eq] at I
  refine Tv (q _ _ ?_)
  rw [jL]
  exact j0.endA I
 rw [beq_iff_eq] at I K
 refine Tn (Xk ?_)
 refine Tn (Ve (gU (fun i c st=>(∃ d,st=TV κ U pd d none)/\∃ na nb a m,c=(none,na,nb,a,m)/\pU r A B (i+1) a na nb) (fun c st=>(∃ d,st=TV κ U pd d none)/\∃ R:Array Keyed,c.1=some R/\Fi r A B R.toList) 0 (A.length+B.length) (fun i c st hi hI=>?_) (fun c st hI=>?_) (fun c st M=>?_) (A.length+B.length - 0) 0 _ _ (by omega) ⟨⟨_,rfl⟩,_,_,_,_,rfl,j0,by omega,by omega,by omega⟩))
 ·obtain ⟨⟨mg1,rfl⟩,na,nb,a,m,rfl,hG⟩:=hI
  dsimp only
  refine Tn (Ve (gU (fun j c st=>st=TV κ U pd mg1 none/\∃ na nb a n o,c=(none,na,nb,a,n,o)/\pU r A B (i+1+j) a na nb) (fun c st=>st=TV κ U pd mg1 none/\((∃ R:Array Keyed,c.1=some R/\Fi r A B R.toList)\/∃ na nb a n o,c=(none,na,nb,a,n,o)/\pU r A B (i+2) a na nb)) 0 (A.length+B.length) (fun j c st hj Y=>?_) (fun c st Y=>?_) (fun c st M=>?_) (A.length+B.length - 0) 0 _ _ (by omega) ⟨rfl,_,_,_,_,_,rfl,hG⟩))
  ·obtain ⟨rfl,na,nb,a,n,o,rfl,p,g2,g3,g4⟩:=Y
   dsimp only
   have l1:=p.1
   have l2:=p.2.1
   obtain ⟨x,b,Xx⟩:=v (na - 1) (by omega)
   obtain ⟨y,H,Xy⟩:=G (nb - 1) (by omega)
   refine Tn (dB H (Tn (dB b (Tn (pQ hC rfl Xy Xx ?_)))))
   dsimp only
   refine bV (fun hc=>?_) fun hc=>?_
   ·unfold lr at hc
    rw [decide_eq_true_eq] at hc
    have l:=p.pushB b H (by omega) (by omega) (by omega)
    rw [<- U8] at l
    refine Tn (dB H ?_)
    refine bV (fun g=>?_) fun g=>?_
    ·rw [beq_iff_eq] at g
     exact bV (fun _=>Tv ⟨rfl,rfl,_,_,_,_,_,rfl,l,by omega,by omega,by omega⟩) fun _=>Tv ⟨rfl,rfl,.inr ⟨_,_,_,_,_,rfl,l,by omega,by omega,by omega⟩⟩
    ·rw [beq_iff_eq] at g
     refine Tv ⟨rfl,rfl,.inl ⟨_,rfl,?_⟩⟩
     rw [jL]
     exact l.last g hf
   ·unfold lr at hc
    rw [decide_eq_true_eq] at hc
    have l:=p.pushA b H (by omega) (by omega) (by omega)
    rw [<- U8] at l
    refine Tn (dB b ?_)
    refine bV (fun g=>?_) fun g=>?_
    ·rw [beq_iff_eq] at g
     exact bV (fun _=>Tv ⟨rfl,rfl,_,_,_,_,_,rfl,l,by omega,by omega,by omega⟩) fun _=>Tv ⟨rfl,rfl,.inr ⟨_,_,_,_,_,rfl,l,by omega,by omega,by omega⟩⟩
    ·rw [beq_iff_eq] at g
     refine Tv ⟨rfl,rfl,.inl ⟨_,rfl,?_⟩⟩
     rw [jL]
     exact l.endA g
  ·obtain ⟨rfl,na,nb,a,n,o,rfl,p,g2,g3,g4⟩:=Y
   exact ⟨rfl,.inr ⟨_,_,_,_,_,rfl,p,g2,g3,by omega⟩⟩
  ·obtain ⟨rfl,M⟩:=M
   obtain ⟨c0,na,nb,a,n,o⟩:=c
   dsimp only
   rcases M with ⟨R,e,hR⟩|⟨na',nb',out',ac',bc',e,hG⟩
   ·dsimp only at e
    subst e
    exact Tv ⟨rfl,⟨_,rfl⟩,R,rfl,hR⟩
   cases e
   dsimp only
   refine Tn (Yw (W3 ?_))
   refine Tn (Ve (gU (fun j c st=>(∃ d,st=TV κ U pd d none)/\∃ na nb a m n o,c=(none,na,nb,a,m,n,o)/\pU r A B (i+2) a na nb) (fun c st=>(∃ d,st=TV κ U pd d none)/\((∃ R:Array Keyed,c.1=some R/\Fi r A B R.toList)\/∃ na nb a m n o,c=(none,na,nb,a,m,n,o)/\pU r A B (i+2) a na nb)) 0 (A.length+B.length) (fun j c st hj Y=>?_) (fun c st Y=>?_) (fun c st M=>?_) (A.length+B.length - 0) 0 _ _ (by omega) ⟨⟨_,rfl⟩,_,_,_,_,_,_,rfl,hG⟩))
   ·obtain ⟨⟨mg2,rfl⟩,na,nb,a,m,n,o,rfl,p,g2,g3,g4⟩:=Y
    dsimp only
    have l1:=p.1
    have l2:=p.2.1
    obtain ⟨y,H,Xy⟩:=G (nb - 1) (by omega)
    refine bV (fun hm=>?_) fun hm=>?_
    all_goals
     refine Tn (V2 ?_)
     refine Tn (dB H ?_)
     refine Tn (xA hC rfl (b:=0) (n:=na) (h:=na - 1) (by omega) (by omega) hXA Xy (hA.part _ _) fun t ht1 ht2=>?_)
     dsimp only
     have l:=p.gallA (t:=t) H (by omega) ht1 fun j x I K b=>by
      have:=ht2 j x K (by rw [VM];exact b)
      omega
     have nx:∀ x,1<=t->A[t - 1]? = some x->r x<=r y:=fun x I b=>(ht2 (t - 1) x (by omega) (by rw [VM];exact b)).mpr (by omega)
     rw [<- CV] at l
     refine bV (fun hk0=>?_) fun hk0=>bV (fun g=>?_) fun g=>?_
     rotate_left 2
     ·rw [beq_iff_eq] at g
      refine Tv ⟨rfl,⟨_,rfl⟩,.inl ⟨_,rfl,?_⟩⟩
      rw [jL]
      exact l.endA g
     have t0:na<=na:=Th _
     have t1:=p
     have t2:=g2
     have t3:∀ x,A[na - 1]? = some x->r x<=r y:=fun x b=>by
      have e:t=na:=by omega
      rw [e] at nx
      exact nx x g2 b
     generalize hout:a=ou at t1 ⊢
     generalize hna:(na:Nat)=n1 at t0 t1 t2 t3 ⊢
     rw [<- hna] at t0
     rotate_left
     rw [beq_iff_eq] at g
     have t0:t<=na:=ht1
     have t1:=l
     have t2:1<=t:=by omega
     have t3:∀ x,A[t - 1]? = some x->r x<=r y:=fun x b=>nx x t2 b
     generalize a++(A.toArray.extract t na).reverse=ou at t1 ⊢
     generalize ht':(t:Nat)=n1 at t0 t1 t2 t3 ⊢
     all_goals
      obtain ⟨x,b,Xx⟩:=v (n1 - 1) (by omega)
      have t5:=t1.pushB b H t2 (by omega) (t3 x b)
      rw [<- U8] at t5
      refine Tn (dB H ?_)
      refine bV (fun hq=>?_) fun hq=>?_
      rotate_left
      ·rw [beq_iff_eq] at hq
       refine Tv ⟨rfl,⟨_,rfl⟩,.inl ⟨_,rfl,?_⟩⟩
       rw [jL]
       exact t5.last hq hf
      rw [beq_iff_eq] at hq
      refine Tn (dB b ?_)
      refine Tn (xB hC rfl (b:=0) (n:=nb - 1) (h:=nb - 1 - 1) (by omega) (by omega) hXB Xx (hB.part _ _) fun u e8 hu2=>?_)
      dsimp only
      have u5:=t5.gallB (t:=u) b t2 e8 fun j z I K L=>by
       have:=hu2 j z K (by rw [VM];exact L)
       omega
      have nz:∀ z,1<=u->B[u - 1]? = some z->r z<=r x:=fun z I L=>Yu ((hu2 (u - 1) z (by omega) (by rw [VM];exact L)).mpr (by omega))
      rw [<- CV] at u5
      refine bV (fun hk1=>?_) fun hk1=>bV (fun N=>bV (fun T=>?_) fun T=>?_) fun N=>?_
      rotate_left 2
      ·rw [beq_iff_eq] at T
       refine Tv ⟨rfl,⟨_,rfl⟩,.inl ⟨_,rfl,?_⟩⟩
       rw [jL]
       exact u5.endB T
      ·rw [beq_iff_eq] at N
       refine Tv ⟨rfl,⟨_,rfl⟩,.inl ⟨_,rfl,?_⟩⟩
       rw [jL]
       exact u5.last N hf
      have v0:nb - 1<nb:=by omega
      have v1:=t5
      have v2:2<=nb - 1:=by omega
      have v3:∀ z,B[nb - 1 - 1]? = some z->r z<=r x:=fun z L=>by
       have e:u=nb - 1:=by omega
       rw [e] at nz
       exact nz z (by omega) L
      generalize ou.push y=oz at v1 ⊢
      generalize nb - 1=n2 at v0 v1 v2 v3 ⊢
      rotate_left
      rw [beq_iff_eq] at N T
      have v0:u<nb:=by omega
      have v1:=u5
      have v2:2<=u:=by omega
      have v3:∀ z,B[u - 1]? = some z->r z<=r x:=fun z L=>nz z (by omega) L
      generalize ou.push y++(B.toArray.extract u (nb - 1)).reverse=oz at v1 ⊢
      generalize hu':(u:Nat)=n2 at v0 v1 v2 v3 ⊢
      all_goals
       have l3:=v1.2.1
       obtain ⟨z,L,Xz⟩:=G (n2 - 1) (by omega)
       have v5:=v1.pushA b L t2 (by omega) (v3 z L)
       rw [<- U8] at v5
       refine Tn (dB b ?_)
       refine bV (fun hw=>?_) fun hw=>?_
       ·rw [beq_iff_eq] at hw
        exact bV (fun _=>Tv ⟨rfl,⟨_,rfl⟩,_,_,_,_,_,_,rfl,v5,by omega,v2,by omega⟩) fun _=>Tv ⟨rfl,⟨_,rfl⟩,.inr ⟨_,_,_,_,_,_,rfl,v5,by omega,v2,by omega⟩⟩
       ·rw [beq_iff_eq] at hw
        refine Tv ⟨rfl,⟨_,rfl⟩,.inl ⟨_,rfl,?_⟩⟩
        rw [jL]
        exact v5.endA hw
   ·obtain ⟨I,K⟩:=Y
    exact ⟨I,.inr K⟩
   ·obtain ⟨⟨mg2,rfl⟩,M⟩:=M
    obtain ⟨c0,na,nb,a,m,n,o⟩:=c
    dsimp only
    rcases M with ⟨R,e,hR⟩|⟨na',nb',out',m',ac',bc',e,hG⟩
    ·dsimp only at e
     subst e
     exact Tv ⟨rfl,⟨_,rfl⟩,R,rfl,hR⟩
    cases e
    dsimp only
    exact Tn (V2 (Tv ⟨rfl,⟨_,rfl⟩,_,_,_,_,rfl,hG⟩))
 ·obtain ⟨_,na,nb,a,m,rfl,p,g2,g3,g4⟩:=hI
  omega
 ·obtain ⟨⟨mg1,rfl⟩,R,e,hR⟩:=M
  obtain ⟨c0,c1⟩:=c
  dsimp only at e ⊢
  subst e
  exact Tv (q R _ hR)
end
end L3
namespace L3
open PySem L2 PySem.W PyProof.Rows
section
variable {prog:TC}{w:T7}{A₀:TR}{E:S4->S5->Prop}{κ:WU}{s:S5}{X:Keyed->Prop}{r:Keyed->Int}{P S c1 c2:List Keyed}
theorem CW {i:Nat}(h:i<c1.length):(P++c1++c2++S)[P.length+i]? = c1[i]?:=by
 rw [Tu,Tu,Tx (by omega),Tq (by omega)]
 congr 1;omega
theorem CY {i:Nat}(h:i<c2.length):(P++c1++c2++S)[P.length+c1.length+i]? = c2[i]?:=by
 rw [Tu,Tx (by rw [Td];omega),Tq (by rw [Td];omega)]
 congr 1;rw [Td];omega
theorem Mv:((P++c1++c2++S).drop P.length).take c1.length=c1:=by
 rw [Tu,Tu,ZL,ZJ]
theorem Mw:((P++c1++c2++S).drop (P.length+c1.length)).take c2.length=c2:=by
 rw [Tu,a1S (by rw [Td]),ZJ]
theorem Mx {k:Nat}(a:k<=c1.length):(P++c1++c2++S).toArray.extract (P.length+k) (P.length+c1.length)=(c1.drop k).toArray:=by
 apply Vj.mp
 rw [pT,<- ZM,Tu,Tu,ZL,Zi a,UM,List.take_left' (by rw [Uk];omega)]
theorem My {k:Nat}(a:k<=c2.length):(P++c1++c2++S).toArray.extract (P.length+c1.length) (P.length+c1.length+k)=(c2.take k).toArray:=by
 apply Vj.mp
 rw [w8,Tu,a1S (by rw [Td]),UM,Zh a]
theorem MB {k l:Nat}{R:List Keyed}(e:k<=c1.length)(g:l<=c2.length)(d:R.length=c1.length - k+l):(R.zipIdx.foldl (fun (a:Array Keyed)(x:Keyed×Nat)=>a.setIfInBounds (P.length+k+x.2) x.1) (P++c1++c2++S).toArray)=(P++(c1.take k++R++c2.drop l)++S).toArray:=by
 apply Vj.mp
 have:=CF R (P++c1++c2++S).toArray (P.length+k) 0 (by simp;omega)
 rw [this,UM,UM,Ys,d]
 have b:(P++c1++c2++S).take (P.length+k)=P++c1.take k:=by
  rw [Tu,Tu,List.take_append,Vo (by omega),VD,Zh e]
 have c:(P++c1++c2++S).drop (P.length+k+(c1.length - k+l))=c2.drop l++S:=by
  rw [show P.length+k+(c1.length - k+l)=(P++c1).length+l by rw [Td];omega,Tu,<- ZM,ZL,Zi g]
 rw [b,c]
 simp
theorem Sr.both {U R V:List Keyed}(e:Sr r R)(g:Sr r U)(h:Sr r V)(h1:∀ x∈U,∀ y∈R,r x<=r y)(c:∀ x∈R,∀ y∈V,r x<=r y)(d:∀ x∈U,∀ y∈V,r x<=r y):Sr r (U++R++V):=by
 unfold Sr at *
 rw [Tu,U4]
 refine ⟨g,?_,fun x b y a=>?_⟩
 ·rw [U4]
  exact ⟨e,h,c⟩
 ·rcases TU.mp a with a|a
  ·exact h1 x b y a
  ·exact d x b y a
theorem Sr.at {l:List Keyed}(h:Sr r l){i j:Nat}{x y:Keyed}(c:i<=j)(d:l[i]? = some x)(g:l[j]? = some y):r x<=r y:=by
 obtain ⟨a,rfl⟩:=S2.mp d
 obtain ⟨b,rfl⟩:=S2.mp g
 by_cases e:i=j
 ·subst e;exact Zp _
 ·exact Ub.mp h i j a b (by omega)
theorem nS {l:List Keyed}{k:Nat}{x:Keyed}(h:x∈l.take k):∃ j,j<k/\l[j]? = some x:=by
 have:=CQ (l:=l) (i:=0) (k:=k) (x:=x) (by rw [VQ];exact h)
 obtain ⟨j,b,a⟩:=this
 exact ⟨j,b,by rw [VM] at a;exact a⟩
theorem nT {l:List Keyed}{k:Nat}{x:Keyed}(h:x∈l.drop k):∃ j,k<=j/\l[j]? = some x:=by
 obtain ⟨j,a,e⟩:=VG h
 exact ⟨k+j,by omega,by rw [<- e,a1u,S7]⟩
theorem MC (hC:fC prog w A₀ κ s X (lr r))(hX:∀ x∈P++c1++c2++S,X x)(h1:Sr r c1)(v:Sr r c2)(l1:0<c1.length)(l2:0<c2.length){pd:Array (Nat×Nat×Nat)}{mg i w1 w2:Nat}(p1:pd[i]? = some (P.length,c1.length,w1))(p2:pd[i+1]? = some (P.length+c1.length,c2.length,w2))
  {Q:Bool->Vt->S5->Prop}(q:∀ c m,Sr r c->c.Perm (c1++c2)->Q true (TV κ (P++c++S).toArray ((pd.setIfInBounds i (P.length,c1.length+c2.length,w1)).eraseIdxIfInBounds (i+1)) m none) s) :
  Xl (TK prog w) A₀ E (a1L i) Q (TV κ (P++c1++c2++S).toArray pd mg none) s:=by
 unfold a1L
 refine Tn (Xk ?_)
 dsimp only
 simp only [p1,p2]
 refine Tn (Mn ?_)
 have gA:∀ j,j<c1.length->c1[j]? = some (c1.getD j (.none,.none)):=fun j d=>by
  rw [TL,S7 d];rfl
 have gB:∀ j,j<c2.length->c2[j]? = some (c2.getD j (.none,.none)):=fun j d=>by
  rw [TL,S7 d];rfl
 have B:∀ x∈c1,X x:=fun x b=>hX x (by simp [b])
 have G:∀ x∈c2,X x:=fun x b=>hX x (by simp [b])
 have hlen:(P++c1++c2++S).length=P.length+c1.length+c2.length+S.length:=by simp;omega
 have I:=gB 0 l2
 refine Tn (dB (x:=c2.getD 0 (.none,.none)) (by rw [<- I];exact CY l2) ?_)
 refine Tn (xA hC rfl (b:=P.length) (n:=c1.length) (h:=0) l1 (by omega) hX (G _ (Ts I)) (by rw [Mv];exact h1) fun k M hk2=>?_)
 have p:∀ j x,c1[j]? = some x->(r x<=r (c2.getD 0 (.none,.none))↔j<k):=fun j x b=>by
  have d:=(S2.mp b).1
  exact hk2 j x d (by rw [CW d];exact b)
 generalize c2.getD 0 (.none,.none)=y0 at *
 dsimp only
 have e0:(P++c1++c2++S)=P++(c1++c2)++S:=by simp
  -- all as it is
 have A:(∀ x∈c1,∀ y∈c2,r x<=r y)->Q true (TV κ (P++c1++c2++S).toArray ((pd.setIfInBounds i (P.length,c1.length+c2.length,w1)).eraseIdxIfInBounds (i+1)) mg none) s:=fun h=>by
  rw [e0]
  exact q _ _ (by unfold Sr at *;rw [U4];exact ⟨h1,v,h⟩) (XA _)
 refine bV (fun he=>?_) fun he=>?_
 rotate_left
 ·rw [beq_iff_eq] at he
  refine Tv (A fun x b y g=>?_)
  obtain ⟨j,d⟩:=Ws b
  obtain ⟨o,n⟩:=Ws g
  have Y:=(p j x d).mpr (by have:=(S2.mp d).1;omega)
  have Z:=v.at (Uv o) I n
  omega
 rw [beq_iff_eq] at he
 have U:=gA (c1.length - 1) (by omega)
 generalize c1.getD (c1.length - 1) (.none,.none)=x1 at *
 refine Tn (dB (x:=x1) (by rw [show P.length+k+(c1.length - k) - 1=P.length+(c1.length - 1) by omega,CW (by omega)];exact U) ?_)
 refine Tn (xB hC rfl (b:=P.length+c1.length) (n:=c2.length) (h:=c2.length - 1) (by omega) (by omega) hX (B _ (Ts U)) (by rw [Mw];exact v) fun l N hl2=>?_)
 have H:∀ j x,c2[j]? = some x->(r x<r x1↔j<l):=fun j x b=>by
  have d:=(S2.mp b).1
  exact hl2 j x d (by rw [CY d];exact b)
 dsimp only
 refine bV (fun hf=>?_) fun hf=>?_
 rotate_left
 ·rw [beq_iff_eq] at hf
  refine Tv (A fun x b y g=>?_)
  obtain ⟨j,d⟩:=Ws b
  obtain ⟨o,n⟩:=Ws g
  have Y:=h1.at (by have:=(S2.mp d).1;omega) d U
  have Z:=H o y n
  omega
 rw [beq_iff_eq] at hf
 rw [Mx M,My N]
 have hA:Sr r (c1.drop k):=U5 (X8 _ _) h1
 have hB:Sr r (c2.take l):=U5 (Wh _ _) v
 have L:∀ y,(c2.take l)[0]? = some y->∀ x∈c1.drop k,r y<=r x:=fun y g x b=>by
  rw [UJ (by omega),I] at g
  cases g
  obtain ⟨j,d,e⟩:=nT b
  have:=p j x e
  omega
 have O:∀ x,(c1.drop k)[(c1.drop k).length - 1]? = some x->∀ y∈c2.take l,r y<=r x:=fun x b y g=>by
  rw [Uk,V9,show k+(c1.length - k - 1)=c1.length - 1 by omega,U] at b
  cases b
  obtain ⟨j,d,e⟩:=nS g
  have:=H j y e
  omega
 have done:∀ (R:Array Keyed)(m:Nat),Fi r (c1.drop k) (c2.take l) R.toList->Q true (TV κ (R.toList.zipIdx.foldl (fun (a:Array Keyed)(x:Keyed×Nat)=>a.setIfInBounds (P.length+k+x.2) x.1) (P++c1++c2++S).toArray) ((pd.setIfInBounds i (P.length,c1.length+c2.length,w1)).eraseIdxIfInBounds (i+1)) m none) s:=fun R m K=>by
  obtain ⟨f1,f2⟩:=K
  have hRl:=f1.length_eq
  rw [Td,Uk,TX] at hRl
  rw [MB M N (by omega)]
  have T:∀ z∈R.toList,z∈c1.drop k\/z∈c2.take l:=fun z hz=>TU.mp (f1.mem_iff.mp hz)
  refine q _ _ (f2.both (U5 (Wh _ _) h1) (U5 (X8 _ _) v) (fun x b y g=>?_) (fun x b y g=>?_) fun x b y g=>?_) ?_
  ·obtain ⟨j,d,e⟩:=nS b
   rcases T y g with g|g
   ·obtain ⟨o,n,u⟩:=nT g
    exact h1.at (by omega) e u
   ·obtain ⟨o,n,u⟩:=nS g
    have Y:=(p j x e).mpr d
    have Z:=v.at (Uv o) I u
    omega
  ·obtain ⟨o,n,u⟩:=nT g
   rcases T x b with b|b
   ·obtain ⟨j,d,e⟩:=nT b
    have Y:=h1.at (by have:=(S2.mp e).1;omega) e U
    have Z:=H o y u
    omega
   ·obtain ⟨j,d,e⟩:=nS b
    exact v.at (by omega) e u
  ·obtain ⟨j,d,e⟩:=nS b
   obtain ⟨o,n,u⟩:=nT g
   have Y:=(p j x e).mpr d
   have Z:=v.at (Uv o) I u
   omega
  ·have e1:c1++c2=c1.take k++(c1.drop k++c2.take l)++c2.drop l:=by
    rw [<- Tu,Ue,Tu,Ue]
   rw [e1]
   exact ((f1.append_left _).append_right _)
 have d1:0<(c1.drop k).length:=by rw [Uk];omega
 have d2:0<(c2.take l).length:=by rw [TX];omega
 refine bV (fun _=>?_) fun _=>?_
 ·exact Tn (Mu hC (fun x b=>B x (a0z b)) (fun x b=>G x (Vx b)) hA hB d1 d2 L O fun R m K=>Tn (V2 (Tn (Xk (Tv (done R m K))))))
 ·exact Tn (Mt hC (fun x b=>B x (a0z b)) (fun x b=>G x (Vx b)) hA hB d1 d2 L O fun R m K=>Tn (V2 (Tn (Xk (Tv (done R m K))))))
end
end L3
namespace L3
open PySem L2 PySem.W PyProof.Rows
section
variable {prog:TC}{w:T7}{A₀:TR}{E:S4->S5->Prop}{κ:WU}{s:S5}{X:Keyed->Prop}{r:Keyed->Int}{P T S:List Keyed}{pd:Array (Nat×Nat×Nat)}{mg:Nat}
noncomputable def kr (r:Keyed->Int)(T:List Keyed)(i:Nat):Int:=r (T.getD i (.none,.none))
theorem jM {i:Nat}{x:Keyed}(h:T[i]? = some x):kr r T i=r x:=by
 unfold kr
 rw [TL,h]
 rfl
theorem xC {i:Nat}(h:i<T.length):T[i]? = some (T.getD i (.none,.none)):=by
 rw [TL,S7 h];rfl
theorem nU (d:fC prog w A₀ κ s X (lr r))(b:∀ x∈T,X x){i j:Nat}(a:i<T.length)(c:j<T.length){Q:Option Bool->Vt->S5->Prop}(q:Q (some (decide (kr r T i<kr r T j))) (TV κ (P++T).toArray pd mg none) s) :
  Xl (TK prog w) A₀ E (ltAt' (P.length+i) (P.length+j)) Q (TV κ (P++T).toArray pd mg none) s:=by
 have e:∀ i,i<T.length->(a1N (TV κ (P++T).toArray pd mg none))[P.length+i]? = some (T.getD i (.none,.none)):=fun i a=>by
  show (P++T).toArray[P.length+i]? = _
  rw [Uo,Tx (by omega),VD]
  exact xC a
 exact Mo d rfl (e i a) (e j c) (b _ (Ts (xC a))) (b _ (Ts (xC c))) q
theorem xD {n:Nat}(h:∀ j,j+1<n->kr r T j<=kr r T (j+1)):∀ {i j:Nat},i<=j->j<n->kr r T i<=kr r T j
 | i,0,h1,_=>by rw [Nat.le_zero.mp h1];exact Zp _
 | i,j+1,h1,h2=>by
  by_cases e:i=j+1
  ·rw [e];exact Zp _
  ·have a:=xD h (i:=i) (j:=j) (by omega) (by omega)
   have b:=h j h2
   omega
theorem CZ {n:Nat}(d:n<=T.length)(h:∀ j,j+1<n->kr r T j<=kr r T (j+1)):Sr r (T.take n):=by
 refine Ub.mpr fun i j a c b=>?_
 rw [TX] at a c
 have:=xD h (i:=i) (j:=j) (by omega) (by omega)
 rw [jM (S7 (show i<T.length by omega)),jM (S7 (show j<T.length by omega))] at this
 rw [YX,YX]
 exact this
theorem MH (P U V:List Keyed):a3B (P++U++V).toArray P.length (P.length+U.length) ((P.length+U.length - P.length) / 2)=(P++U.reverse++V).toArray:=by
 apply Vj.mp
 apply VA
 intro k
 rw [UY,getElem?_mirror_all (by simp),UM]
 by_cases h:P.length<=k/\k<P.length+U.length
 ·have b:∀ (W:List Keyed)(m:Nat),W.length=U.length->P.length<=m->m<P.length+U.length->(P++W++V)[m]? = W[m - P.length]?:=fun W m d a c=>by
   rw [Tu,Tx a,Tq (by omega)]
  rw [if_pos h,Uo,b U _ rfl (by omega) (by omega),b U.reverse k (by rw [Vs]) h.1 h.2,UZ (by omega)]
  congr 1
  omega
 ·rw [if_neg h,Uo]
  by_cases a:k<P.length
  ·rw [Tu,Tu,Tq a,Tq a]
  ·rw [Tx (by rw [Td];omega),Tx (by rw [Td,Vs];omega)]
   simp
noncomputable def Dis (r:Keyed->Int)(T:List Keyed):Prop:=T.Pairwise fun x y=>r x≠r y
theorem Dis.at (h:Dis r T){i j:Nat}(a:i<T.length)(b:j<T.length)(c:i≠j):kr r T i≠kr r T j:=by
 rw [jM (S7 a),jM (S7 b)]
 have:=Ub.mp h
 by_cases l:i<j
 ·exact this i j a b l
 ·exact (this j i b a (by omega)).symm
theorem MJ (z:fC prog w A₀ κ s X (lr r))(A:∀ x∈T,X x)(Z:Dis r T)(hT:0<T.length){Q:Option Nat->Vt->S5->Prop}
  (q:∀ c t,0<c.length->Sr r c->(c++t).Perm T->Q (some c.length) (TV κ (P++(c++t)).toArray pd mg none) s):Xl (TK prog w) A₀ E (countRun' P.length T.length) Q (TV κ (P++T).toArray pd mg none) s:=by
 have l:∀ n,0<n->n<=T.length->(∀ j,j+1<n->kr r T j<=kr r T (j+1))->Q (some n) (TV κ (P++T).toArray pd mg none) s:=fun n I v h=>by
  have:=q (T.take n) (T.drop n) (by rw [TX];omega) (CZ v h) (by rw [Ue])
  rwa [Ue,TX,WL v] at this
 unfold countRun'
 refine Tn (Ve (jJ (fun i c=>c=(none,i+1)/\∀ j,j+1<i+1->kr r T j<=kr r T (j+1)) (fun c=>∃ n,c=(none,n)/\0<n/\n<=T.length/\(∀ j,j+1<n->kr r T j<=kr r T (j+1))/\(n<T.length->kr r T n<kr r T (n - 1))) (T.length - 1) (fun i x c L d=>?_) (fun c d=>?_) (fun c g=>?_) _ 0 _ (by simp) ⟨rfl,fun j o=>by omega⟩))
 ·obtain ⟨rfl,d⟩:=d
  dsimp only
  refine Tn (nU z A (i:=i+1) (j:=i) (by omega) (by omega) ?_)
  dsimp only
  refine bV (fun hc=>?_) fun hc=>?_
  ·rw [decide_eq_true_eq] at hc
   refine Tv ⟨rfl,rfl,rfl,fun j o=>?_⟩
   by_cases e:j=i
   ·subst e;omega
   ·exact d j (by omega)
  ·rw [decide_eq_true_eq] at hc
   exact Tv ⟨rfl,rfl,i+1,rfl,by omega,by omega,d,fun _=>hc⟩
 ·obtain ⟨rfl,d⟩:=d
  exact ⟨_,rfl,by omega,by omega,d,fun h=>by omega⟩
 ·obtain ⟨n,rfl,I,v,d,O⟩:=g
  dsimp only
  refine bV (fun he=>?_) fun he=>?_
  rotate_left
  ·exact Tv (l n I v d)
  rw [beq_iff_eq] at he
  refine bV (fun h1=>?_) fun h1=>?_
  rotate_left
  ·-- it rose
   have G:kr r T 0<kr r T (n - 1):=by
    have a:=xD d (i:=0) (j:=n - 1) (by omega) (by omega)
    have b:=Z.at (i:=0) (j:=n - 1) (by omega) (by omega) (by omega)
    omega
   have R:Xl (TK prog w) A₀ E (ltAt' P.length (P.length+n - 1)) (fun b st u=>b=some true/\st=TV κ (P++T).toArray pd mg none/\u=s) (TV κ (P++T).toArray pd mg none) s:=by
    have:=nU (prog:=prog) (w:=w) (A₀:=A₀) (E:=E) (P:=P) (pd:=pd) (mg:=mg) z A (i:=0) (j:=n - 1) (by omega) (by omega) (Q:=fun b st u=>b=some true/\st=TV κ (P++T).toArray pd mg none/\u=s) ⟨by rw [decide_eq_true G],rfl,rfl⟩
    rw [show P.length+n - 1=P.length+(n - 1) by omega]
    exact this
   refine Tn (Uq R (fun b u K=>?_) fun _ _ e=>e)
   obtain ⟨b,Y⟩:=b
   obtain ⟨rfl,rfl,rfl⟩:=K
   dsimp only
   rw [if_pos rfl]
   exact Tv (l n I v d)
  have e1:n=1:=by omega
  subst e1
  have N:=O (by omega)
  refine Tn (Yw (W3 ?_))
  refine Tn (Ve (jJ (fun i c=>c=(none,i+2,0)/\∀ j,j+1<i+2->kr r T (j+1)<kr r T j) (fun c=>∃ n,c=(none,n,0)/\2<=n/\n<=T.length/\∀ j,j+1<n->kr r T (j+1)<kr r T j) (T.length - 2) (fun i x c L d=>?_) (fun c d=>?_) (fun c g=>?_) _ 0 _ (by simp) ⟨rfl,fun j o=>by rw [show j=0 by omega];exact N⟩))
  ·obtain ⟨rfl,d⟩:=d
   dsimp only
   refine Tn (nU z A (i:=i+2) (j:=i+1) (by omega) (by omega) ?_)
   dsimp only
   by_cases hc:kr r T (i+2)<kr r T (i+1)
   ·rw [decide_eq_true hc,if_pos rfl,if_neg (by omega)]
    refine Tv ⟨rfl,rfl,rfl,fun j o=>?_⟩
    by_cases e:j=i+1
    ·subst e;exact hc
    ·exact d j (by omega)
   ·rw [decide_eq_false hc,if_neg Uc]
    have K:=Z.at (i:=i+1) (j:=i+2) (by omega) (by omega) (by omega)
    refine Tn (nU z A (i:=i+1) (j:=i+2) (by omega) (by omega) ?_)
    dsimp only
    rw [decide_eq_true (show kr r T (i+1)<kr r T (i+2) by omega),if_pos rfl]
    exact Tv ⟨rfl,rfl,i+2,rfl,by omega,by omega,d⟩
  ·obtain ⟨rfl,d⟩:=d
   exact ⟨T.length,by rw [show T.length - 2+2=T.length by omega],by omega,Th _,fun j o=>d j (by omega)⟩
  ·obtain ⟨n,rfl,h2,v,d⟩:=g
   dsimp only
   rw [if_neg (by omega)]
   refine Tn (Mr ?_)
      -- turned about
   have eT:P++T=P++T.take n++T.drop n:=by rw [Tu,Ue]
   have p:(T.take n).length=n:=by rw [TX];omega
   have em:a3B (P++T).toArray P.length (P.length+n) ((P.length+n - P.length) / 2)=(P++((T.take n).reverse++T.drop n)).toArray:=by
    have:=MH P (T.take n) (T.drop n)
    rw [p] at this
    rw [eT,this,Tu]
   show Xl _ _ _ _ _ (TV κ (a3B (P++T).toArray P.length (P.length+n) ((P.length+n - P.length) / 2)) pd mg none) s
   rw [em]
   have hU:((T.take n).reverse++T.drop n).length=T.length:=by simp;omega
   have H:((T.take n).reverse++T.drop n).Perm T:=by
    refine ((X5 _).append_right _).trans ?_
    rw [Ue]
   have M:∀ x∈(T.take n).reverse++T.drop n,X x:=fun x hx=>A x (H.mem_iff.mp hx)
   have B:∀ j,j+1<n->kr r ((T.take n).reverse++T.drop n) j<=kr r ((T.take n).reverse++T.drop n) (j+1):=fun j o=>by
    have y:∀ i,i<n->kr r ((T.take n).reverse++T.drop n) i=kr r T (n - 1 - i):=fun i L=>by
     have:((T.take n).reverse++T.drop n)[i]? = T[n - 1 - i]?:=by
      rw [Tq (by rw [Vs,p];exact L),UZ (by omega),p,UJ (by omega)]
     unfold kr
     rw [TL,TL,this]
    rw [y j (by omega),y (j+1) o]
    have:=d (n - 1 - (j+1)) (by omega)
    rw [show n - 1 - (j+1)+1=n - 1 - j by omega] at this
    omega
   generalize (T.take n).reverse++T.drop n=U at *
   refine Tn (Ve (jJ (fun i c=>c=(none,n+i)/\∀ j,j+1<n+i->kr r U j<=kr r U (j+1)) (fun c=>∃ m,c=(none,m)/\0<m/\m<=T.length/\∀ j,j+1<m->kr r U j<=kr r U (j+1)) (T.length - n) (fun i x c L d=>?_) (fun c d=>?_) (fun c g=>?_) _ 0 _ (by simp) ⟨rfl,B⟩))
   ·obtain ⟨rfl,d⟩:=d
    dsimp only
    have R:Xl (TK prog w) A₀ E (ltAt' (P.length+(n+i)) (P.length+(n+i) - 1)) (fun b st u=>b=some (decide (kr r U (n+i)<kr r U (n+i - 1)))/\st=TV κ (P++U).toArray pd mg none/\u=s) (TV κ (P++U).toArray pd mg none) s:=by
     rw [show P.length+(n+i) - 1=P.length+(n+i - 1) by omega]
     exact nU z M (by omega) (by omega) ⟨rfl,rfl,rfl⟩
    refine Tn (Uq R (fun b u K=>?_) fun _ _ e=>e)
    obtain ⟨b,Y⟩:=b
    obtain ⟨rfl,rfl,rfl⟩:=K
    dsimp only
    refine bV (fun hc=>?_) fun hc=>?_
    ·rw [decide_eq_true_eq] at hc
     refine Tv ⟨rfl,rfl,rfl,fun j o=>?_⟩
     by_cases e:j+1=n+i
     ·rw [show j=n+i - 1 by omega,show n+i - 1+1=n+i by omega];omega
     ·exact d j (by omega)
    ·exact Tv ⟨rfl,rfl,_,rfl,by omega,by omega,d⟩
   ·obtain ⟨rfl,d⟩:=d
    exact ⟨_,rfl,by omega,by omega,d⟩
   ·obtain ⟨m,rfl,I,hm,d⟩:=g
    dsimp only
    have:=q (U.take m) (U.drop m) (by rw [TX];omega) (CZ (by omega) d) (by rw [Ue];exact H)
    rw [Ue,TX,WL (by omega)] at this
    exact Tv this
end
end L3
namespace L3
open PySem L2 PySem.W PyProof.Rows
section
variable {prog:TC}{w:T7}{A₀:TR}{E:S4->S5->Prop}{κ:WU}{s:S5}{X:Keyed->Prop}{r:Keyed->Int}{P:List Keyed}{pd:Array (Nat×Nat×Nat)}{mg:Nat}
theorem MK (P C V:List Keyed)(x:Keyed){l:Nat}(h:l<=C.length):bubble (P++(C++x::V)).toArray (P.length+C.length) (P.length+C.length - (P.length+l))=(P++(C.take l++x::C.drop l++V)).toArray:=by
 apply Vj.mp
 apply VA
 intro k
 rw [UY,getElem?_bubble (by simp) _ (by omega),UM]
 have b:∀ (W:List Keyed)(m:Nat),(P++W)[P.length+m]? = W[m]?:=fun W m=>by
  rw [Tx (by omega),VD]
 have a:(C.take l).length=l:=by rw [TX];omega
 by_cases c:k<P.length
 ·rw [if_neg (by omega),if_neg (by omega),Uo,Tq c,Tq c]
 obtain ⟨m,rfl⟩:∃ m,k=P.length+m:=⟨k - P.length,by omega⟩
 rw [b]
 by_cases d:m=l
 ·subst d
  rw [if_pos (by omega),Uo,b,Tx (Th _),W6,Tu,Tx (by omega),a,W6]
  rfl
 rw [if_neg (by omega)]
 by_cases g:l<m/\m<=C.length
 ·rw [if_pos (by omega),Uo,show P.length+m - 1=P.length+(m - 1) by omega,b,Tq (by omega),Tu,Tx (by omega),a,TM,show m - l=(m - l - 1)+1 by omega,WQ,Tq (by rw [Uk];omega),V9]
  congr 1
  omega
 rw [if_neg (by omega),Uo,b]
 by_cases e:m<l
 ·rw [Tq (by omega),Tu,Tq (by omega),UJ e]
 ·rw [Tx (by omega),Tu,Tx (by omega),a,TM,show m - C.length=(m - C.length - 1)+1 by omega,show m - l=(m - l - 1)+1 by omega,WQ,WQ,Tx (by rw [Uk];omega),Uk]
  congr 1
  omega
theorem ML (hC:fC prog w A₀ κ s X (lr r)){c D t:List Keyed}(hX:∀ x∈c++D++t,X x)(hc:Sr r c)(h0:0<c.length){Q:Bool->Vt->S5->Prop}
  (q:∀ a,Sr r a->a.Perm (c++D)->Q true (TV κ (P++(a++t)).toArray pd mg none) s):Xl (TK prog w) A₀ E (binarySort' P.length (c.length+D.length) c.length) Q (TV κ (P++(c++D++t)).toArray pd mg none) s:=by
 unfold binarySort'
 refine Tn (Ve ?_)
 rw [Nat.max_eq_left h0]
 refine (gU (fun i b st=>b=(none,())/\∃ a d,st=TV κ (P++(a++(d++t))).toArray pd mg none/\Sr r a/\a.length=c.length+i/\(a++d).Perm (c++D)) (fun b st=>b=(none,())/\∃ a,st=TV κ (P++(a++t)).toArray pd mg none/\Sr r a/\a.Perm (c++D)) c.length D.length (fun i b st hi M=>?_) (fun b st M=>?_) (fun b st p=>?_) (c.length+D.length - c.length) 0 _ _ (by omega) ⟨rfl,c,D,by rw [Tu],hc,rfl,XA _⟩)
 ·obtain ⟨rfl,a,d,rfl,o,h2,g⟩:=M
  have v:=g.length_eq
  rw [Td,Td] at v
  match d,v,g with
  | [],v,_=>rw [Vh] at v;omega
  | x::d,v,g=>
   dsimp only
   have O:∀ z∈a++x::(d++t),X z:=fun z n=>hX z (by
    have:z∈(a++x::d)++t:=by simpa using n
    rcases TU.mp this with h|h
    ·exact TU.mpr (.inl (g.mem_iff.mp h))
    ·exact TU.mpr (.inr h))
   have hk:c.length+i=a.length:=h2.symm
   rw [hk]
   have T:kr r (a++x::(d++t)) a.length=r x:=jM (by rw [Tx (Th _),W6];rfl)
   have R:∀ m,m<a.length->kr r (a++x::(d++t)) m=kr r a m:=fun m A=>by
    unfold kr
    rw [TL,TL,Tq A]
   have eL:a++(x::d++t)=a++x::(d++t):=rfl
   have mono:∀ {m m':Nat},m<=m'->m'<a.length->kr r a m<=kr r a m':=fun {m m'} h L=>by
    rw [jM (S7 (show m<a.length by omega)),jM (S7 L)]
    exact o.at h (S7 _) (S7 _)
   refine Tn (Ve (jJ (fun j b=>∃ l u,b=(none,l,u)/\l<=u/\u<=a.length/\u - l<=a.length - j/\(∀ m,m<l->kr r a m<=r x)/\∀ m,u<=m->m<a.length->r x<kr r a m) (fun b=>∃ l,b=(none,l,l)/\l<=a.length/\(∀ m,m<l->kr r a m<=r x)/\∀ m,l<=m->m<a.length->r x<kr r a m) a.length (fun j y b hj N=>?_) (fun b N=>?_) (fun b p=>?_) _ 0 _ (by simp) ⟨0,a.length,rfl,by omega,Th _,by omega,fun m A=>by omega,fun m h L=>by omega⟩))
   ·obtain ⟨l,u,rfl,j1,B,j3,G,H⟩:=N
    dsimp only
    refine bV (fun U=>?_) fun U=>?_
    ·refine Tn (nU hC O (i:=a.length) (j:=(l+u) / 2) (by simp) (by simp;omega) ?_)
     rw [T,R _ (by omega)]
     dsimp only
     refine bV (fun hc=>?_) fun hc=>?_
     ·rw [decide_eq_true_eq] at hc
      exact Tv ⟨rfl,rfl,(l+u) / 2+1,u,rfl,by omega,B,by omega,fun m A=>by have:=mono (m:=m) (m':=(l+u) / 2) (by omega) (by omega);omega,H⟩
     ·rw [decide_eq_true_eq] at hc
      exact Tv ⟨rfl,rfl,l,(l+u) / 2,rfl,by omega,by omega,by omega,G,fun m h L=>by have:=mono (m:=(l+u) / 2) (m':=m) h L;omega⟩
    ·have e:u=l:=by omega
     subst e
     exact Tv ⟨rfl,rfl,_,rfl,B,G,H⟩
   ·obtain ⟨l,u,rfl,j1,B,j3,G,H⟩:=N
    have e:u=l:=by omega
    subst e
    exact ⟨_,rfl,B,G,H⟩
   ·obtain ⟨l,rfl,B,G,H⟩:=p
    dsimp only
    have mv:∀ {K:Unit->Vt->S5->Prop},K () (TV κ (P++((a.take l++x::a.drop l)++(d++t))).toArray pd mg none) s->Xl (TK prog w) A₀ E (moveDown' (P.length+a.length) (P.length+l)) K (TV κ (P++(a++x::(d++t))).toArray pd mg none) s:=fun {K} h=>by
     rw [moveDown'_eq]
     refine V2 ?_
     show K () (TV κ (bubble (P++(a++x::(d++t))).toArray (P.length+a.length) (P.length+a.length - (P.length+l))) pd mg none) s
     rw [MK P a (d++t) x B]
     exact h
    refine Tn (mv (Tv ⟨rfl,rfl,a.take l++x::a.drop l,d,rfl,?_,?_,?_⟩))
    ·have Y:∀ z∈a.take l,r z<=r x:=fun z n=>by
      obtain ⟨m,A,e⟩:=nS n
      rw [<- jM (r:=r) e]
      exact G m A
     have Z:∀ z∈a.drop l,r x<=r z:=fun z n=>by
      obtain ⟨m,A,e⟩:=nT n
      rw [<- jM (r:=r) e]
      exact Yu (H m A (S2.mp e).1)
     have:=Sr.both (r:=r) (U:=a.take l) (R:=[x]) (V:=a.drop l) (by unfold Sr;simp) (U5 (Wh _ _) o) (U5 (X8 _ _) o) (fun y I z n=>by rw [TN.mp n];exact Y y I) (fun y I z n=>by rw [TN.mp I];exact Z z n) (fun y I z n=>by have:=Y y I;have:=Z z n;omega)
     simpa using this
    ·simp;omega
    ·refine YW ?_ g
     have:(a.take l++x::a.drop l).Perm (a++[x]):=by
      refine List.perm_middle.trans ?_
      rw [Ue]
      exact VR (l₁:=[x])
     have:=this.append_right d
     simpa using this
 ·obtain ⟨rfl,a,d,rfl,o,h2,g⟩:=M
  have v:=g.length_eq
  rw [Td,Td] at v
  have:d=[]:=Vk.mp (by omega)
  subst this
  rw [Uz] at g
  exact ⟨rfl,a,rfl,o,g⟩
 ·obtain ⟨rfl,a,rfl,o,g⟩:=p
  exact Tv (q a o g)
end
end L3
namespace L3
open PySem L2 PySem.W PyProof.Rows
noncomputable abbrev eI:=List Keyed×Nat
noncomputable def bB (a:List eI):List Keyed:=(a.map (·.1)).flatten
noncomputable def pos:Nat->List eI->List (Nat×Nat×Nat)
 | _,[]=>[]
 | p,(c,w)::t=>(p,c.length,w)::pos (p+c.length) t
theorem iQ (c:List Keyed)(w:Nat)(t:List eI):bB ((c,w)::t)=c++bB t:=rfl
theorem lV (a b:List eI):bB (a++b)=bB a++bB b:=by unfold bB;simp
theorem lW:∀ (a b:List eI)(p:Nat),pos p (a++b)=pos p a++pos (p+(bB a).length) b
 | [],b,p=>rfl
 | (c,w)::a,b,p=>by
  show (p,c.length,w)::pos (p+c.length) (a++b)=_
  rw [lW a b,iQ,Td,Z7]
  rfl
theorem jN:∀ (a:List eI)(p:Nat),(pos p a).length=a.length
 | [],_=>rfl
 | (c,w)::a,p=>by show (pos (p+c.length) a).length+1=_;rw [jN a];rfl
structure Rn (r:Keyed->Int)(L rest:List Keyed)(rs:List eI):Prop where
 ok:∀ p∈rs,Sr r p.1/\0<p.1.length
 pm:(bB rs++rest).Perm L
section
variable {prog:TC}{w:T7}{A₀:TR}{E:S4->S5->Prop}{κ:WU}{s:S5}{X:Keyed->Prop}{r:Keyed->Int}{L rest:List Keyed}{mg:Nat}
noncomputable abbrev eC (κ:WU)(rest:List Keyed)(a:List eI)(mg:Nat):Vt:=TV κ (bB a++rest).toArray (pos 0 a).toArray mg none
theorem MM (G:fC prog w A₀ κ s X (lr r))(H:∀ x∈L,X x){a b:List eI}{d e:List Keyed}{w1 w2:Nat}(h:Rn r L rest (a++(d,w1)::(e,w2)::b)){Q:Bool->Vt->S5->Prop}
  (q:∀ c j,Rn r L rest (a++(c,w1)::b)->c.length=d.length+e.length->Q true (eC κ rest (a++(c,w1)::b) j) s){i:Nat}(I:i=a.length) :
  Xl (TK prog w) A₀ E (a1L i) Q (eC κ rest (a++(d,w1)::(e,w2)::b) mg) s:=by
 subst I
 obtain ⟨l,v⟩:=h
 have o1:=l (d,w1) (by simp)
 have y:=l (e,w2) (by simp)
 have m:bB (a++(d,w1)::(e,w2)::b)++rest=bB a++d++e++(bB b++rest):=by
  rw [lV,iQ,iQ];simp
 have A:pos 0 (a++(d,w1)::(e,w2)::b)=pos 0 a++((bB a).length,d.length,w1)::((bB a).length+d.length,e.length,w2)::pos ((bB a).length+d.length+e.length) b:=by
  rw [lW,VM];rfl
 unfold eC
 rw [m,A]
 refine MC G (fun x K=>H x (v.mem_iff.mp (by rw [m];exact K))) o1.1 y.1 o1.2 y.2 (w1:=w1) (w2:=w2) ?_ ?_ fun c j B u=>?_
 ·rw [Uo,Tx (by rw [jN];exact Th _),jN,W6]
  rfl
 ·rw [Uo,Tx (by rw [jN];omega),jN,VD]
  rfl
 ·have n:=u.length_eq
  rw [Td] at n
  have o:bB a++c++(bB b++rest)=bB (a++(c,w1)::b)++rest:=by
   rw [lV,iQ];simp
  have z:((pos 0 a++((bB a).length,d.length,w1)::((bB a).length+d.length,e.length,w2)::pos ((bB a).length+d.length+e.length) b).toArray.setIfInBounds a.length ((bB a).length,d.length+e.length,w1)).eraseIdxIfInBounds (a.length+1)=(pos 0 (a++(c,w1)::b)).toArray:=by
   apply Vj.mp
   have g:(pos 0 a).length=a.length:=jN _ _
   rw [Array.toList_eraseIdxIfInBounds,ZG,UM,UM,lW,VM,<- g,Xe _ _ (Th _),W6,Tc,List.eraseIdx_append_of_length_le (by omega),VD]
   show _=pos 0 a++((bB a).length,c.length,w1)::pos ((bB a).length+c.length) b
   rw [n,<- Z7]
   rfl
  rw [o,z]
  refine q c j ⟨fun p g=>?_,?_⟩ n
  ·rcases TU.mp g with g|g
   ·exact l p (by simp [g])
   ·rcases T5.mp g with rfl|g
    ·have:=o1.2
     dsimp only at this
     exact ⟨B,by dsimp only;omega⟩
    ·exact l p (by simp [g])
  ·rw [<- o]
   refine YW ?_ v
   rw [m]
   have:=(u.append_left (bB a)).append_right (bB b++rest)
   simpa using this
theorem C0 (A:fC prog w A₀ κ s X (lr r))(B:∀ x∈L,X x){a:List eI}(h:Rn r L rest a){i:Nat}(I:i+1<a.length){Q:Bool->Vt->S5->Prop}
  (q:∀ b g,Rn r L rest b->b.length+1=a.length->(bB b).length=(bB a).length->Q true (eC κ rest b g) s):Xl (TK prog w) A₀ E (a1L i) Q (eC κ rest a mg) s:=by
 have e:a=a.take i++(a[i].1,a[i].2)::(a[i+1].1,a[i+1].2)::a.drop (i+1+1):=by
  have v:=U7 (l:=a) (i:=i) (by omega)
  have y:=U7 (l:=a) (i:=i+1) (by omega)
  have n:=Ue i a
  rw [v,y] at n
  exact n.symm
 obtain ⟨j,l,o,m,p,d,u,G⟩:∃ j l o m p d,a=j++(l,o)::(m,p)::d/\i=j.length:=⟨_,_,_,_,_,_,e,by rw [TX];omega⟩
 subst u
 refine MM A B h (fun c g z H=>q _ g z ?_ ?_) G
 ·simp
  omega
 ·rw [lV,lV,iQ,iQ,iQ]
  simp
  omega
theorem C1 {b:Type}(f:b->b):∀ (l:List b)(x:b),(l++[x]).modify l.length f=l++[f x]
 | [],x=>rfl
 | a::l,x=>by
  show a::(l++[x]).modify l.length f=_
  rw [C1 f l x]
  rfl
theorem MN (a:List eI)(c:List Keyed)(w:Nat):(pos 0 a).toArray.push ((bB a).length,c.length,w)=(pos 0 (a++[(c,w)])).toArray:=by
 rw [lW,VM]
 apply Vj.mp
 rw [U8]
 rfl
theorem MP (a:List eI)(c:List Keyed)(w b:Nat):((pos 0 (a++[(c,w)])).toArray.modify ((pos 0 (a++[(c,w)])).toArray.size - 1) fun x=>(x.1,x.2.1,b))=(pos 0 (a++[(c,b)])).toArray:=by
 rw [lW,lW,VM]
 apply Vj.mp
 have:=C1 (fun x:Nat×Nat×Nat=>(x.1,x.2.1,b)) (pos 0 a) ((bB a).length,c.length,w)
 simp [pos]
 exact this
theorem MQ (a:List eI)(c:List Keyed)(w:Nat):(pos 0 (a++[(c,w)])).toArray.back? = some ((bB a).length,c.length,w):=by
 rw [lW,VM]
 simp [pos]
theorem MR (hC:fC prog w A₀ κ s X (lr r))(hX:∀ x∈L,X x)(hD:Dis r L)(h2:2<=L.length){Q:Unit->Vt->S5->Prop}
  (q:∀ (R:List Keyed)(pd:Array (Nat×Nat×Nat))(l:Nat),Sr r R->R.Perm L->Q () (TV κ R.toArray pd l none) s):Xl (TK prog w) A₀ E sortRuns' Q (TV κ L.toArray #[] mg none) s:=by
 have hsz:(a1N (TV κ L.toArray #[] mg none)).size=L.length:=Ta
 rw [sortRuns'_eq]
 refine Tn (Xk ?_)
 dsimp only
 simp only [hsz]
 generalize minRun' L.length L.length 0=mr
 refine Tn (Ve (gU (fun i b st=>∃ g rest l,b=(none,(bB g).length)/\st=eC κ rest g l/\Rn r L rest g/\i<=(bB g).length) (fun b st=>∃ g l n,b=(none,n)/\st=eC κ [] g l/\Rn r L [] g) 0 L.length (fun i b st hi hI=>?_) (fun b st hI=>?_) (fun b st M=>?_) (L.length - 0) 0 _ _ (by omega) ⟨[],L,mg,rfl,rfl,⟨fun p y=>(by cases y),XA _⟩,Uv _⟩))
 ·obtain ⟨g,rest,z,rfl,rfl,u,hle⟩:=hI
  have A:=u.pm.length_eq
  rw [Td] at A
  dsimp only
  refine bV (fun hlo=>?_) fun hlo=>?_
  rotate_left
  ·have:rest=[]:=Vk.mp (by omega)
   subst this
   exact Tv ⟨rfl,g,z,_,rfl,rfl,u⟩
  have hXr:∀ x∈rest,X x:=fun x hx=>hX x (u.pm.mem_iff.mp (TU.mpr (.inr hx)))
  have hDr:Dis r rest:=by
   have:Dis r (bB g++rest):=hD.perm u.pm.symm fun h=>h.symm
   exact (U4.mp this).2.1
  rw [show L.length - (bB g).length=rest.length by omega]
  refine Tn (MJ hC hXr hDr (by omega) fun c t T h2 h3=>?_)
  dsimp only
  have hct:=h3.length_eq
  rw [Td] at hct
  refine bV (fun hmr=>?_) fun hmr=>?_
  rotate_left
  refine Tn (Yw (W3 ?_))
  have ht:t=t.take (min rest.length mr - c.length)++t.drop (min rest.length mr - c.length):=(Ue _ _).symm
  have hD1:(t.take (min rest.length mr - c.length)).length=min rest.length mr - c.length:=by rw [TX];omega
  generalize t.take (min rest.length mr - c.length)=D at ht hD1
  generalize t.drop (min rest.length mr - c.length)=t' at ht
  subst ht
  rw [<- Tu c D t',show min rest.length mr=c.length+D.length by omega]
  refine Tn (ML hC (fun x hx=>hXr x (h3.mem_iff.mp (by rw [<- Tu];exact hx))) h2 T fun c' B I=>?_)
  have hc':=I.length_eq
  rw [Td] at hc'
  rw [<- hc',if_neg (by decide)]
  have k1:0<c'.length:=by omega
  have k2:=B
  have k3:(c'++t').Perm rest:=(I.append_right t').trans (by rw [Tu];exact h3)
  clear hc' I B h3 hct
  revert k1 k2 k3
  revert t'
  revert c'
  intro v K k1 k2 k3
  rotate_left
  have k1:=T
  have k2:=h2
  have k3:=h3
  clear T h2 h3 hct hmr
  revert k1 k2 k3
  revert t
  revert c
  intro v K k1 k2 k3
  all_goals
   have hcc:=k3.length_eq
   rw [Td] at hcc
   refine Tn (Xk ?_)
   have fin:∀ (d:List eI)(l:Nat),Rn r L (v++K) d->(bB d).length=(bB g).length->∃ H O mg'',((none,(bB g).length+v.length):Option Unit×Nat)=(none,(bB H).length)/\TV κ (bB d++(v++K)).toArray ((pos 0 d).toArray.push ((bB g).length,v.length,0)) l none=eC κ O H mg''/\Rn r L O H/\i+1<=(bB H).length:=fun d l B I=>by
    have e1:bB (d++[(v,0)])=bB d++v:=by rw [lV,iQ];show _++(v++[])=_;rw [Uz]
    refine ⟨d++[(v,0)],K,l,?_,?_,⟨fun p y=>?_,?_⟩,?_⟩
    ·rw [e1,Td,I]
    ·unfold eC
     rw [<- MN,e1,I,Tu]
    ·rcases TU.mp y with y|y
     ·exact B.ok p y
     ·rw [TN.mp y]
      exact ⟨k2,k1⟩
    ·rw [e1,Tu]
     exact B.pm
    ·rw [e1,Td]
     omega
   have hR':Rn r L (v++K) g:=⟨u.ok,(k3.append_left _).trans u.pm⟩
   rcases Xf g with N|⟨Y,⟨cl,wl⟩,N⟩
   ·have U:(ZR (TV κ (bB g++(v++K)).toArray (pos 0 g).toArray z none)).back? = none:=by rw [N];rfl
    simp only [U]
    exact Tn (V2 (Tv ⟨rfl,fin g z hR' rfl⟩))
   ·rw [Xg] at N
    have U:(ZR (TV κ (bB g++(v++K)).toArray (pos 0 g).toArray z none)).back? = some ((bB Y).length,cl.length,wl):=by rw [N];exact MQ Y cl wl
    simp only [U]
    generalize power' L.length (2 * (bB Y).length+cl.length) (2 * (bB Y).length+cl.length+cl.length+v.length) L.length=pw
    refine Tn (Ve (gU (fun j b st=>b=(none,())/\∃ d l,st=eC κ (v++K) d l/\Rn r L (v++K) d/\d≠[]/\(bB d).length=(bB g).length) (fun b st=>b=(none,())/\∃ d l,st=eC κ (v++K) d l/\Rn r L (v++K) d/\d≠[]/\(bB d).length=(bB g).length) 0 L.length (fun j b st hj hJ=>?_) (fun b st hJ=>hJ) (fun b st M=>?_) (L.length - 0) 0 _ _ (by omega) ⟨rfl,g,z,rfl,hR',by rw [N];simp,rfl⟩))
    ·obtain ⟨rfl,d,m,rfl,B,I,g3⟩:=hJ
     refine Tn (Xk ?_)
     have hps:(ZR (eC κ (v++K) d m)).size=d.length:=by
      show (pos 0 d).toArray.size=_
      rw [Ta,jN]
     rw [hps]
     have hn0:0<d.length:=a0K.mpr I
     by_cases T:d.length>1
     ·rw [if_pos T]
      obtain ⟨⟨o1,o2,o3⟩,ho⟩:∃ o,(ZR (eC κ (v++K) d m))[d.length - 2]? = some o:=by
       show ∃ o,(pos 0 d).toArray[d.length - 2]? = some o
       rw [Uo]
       exact ⟨_,S7 (by rw [jN];omega)⟩
      rw [ho]
      dsimp only
      refine bV (fun y=>?_) fun y=>?_
      ·refine Tn (C0 hC hX B (by omega) fun rs2 mg3 a1 a2 a3=>?_)
       rw [if_neg (by decide)]
       exact Tv ⟨rfl,rfl,rs2,mg3,rfl,a1,fun e=>by rw [e] at a2;simp at a2;omega,by omega⟩
      ·exact Tv ⟨rfl,rfl,d,m,rfl,B,I,g3⟩
     ·rw [if_neg T]
      exact Tv ⟨rfl,rfl,d,m,rfl,B,I,g3⟩
    ·obtain ⟨rfl,d,m,rfl,B,I,g3⟩:=M
     dsimp only
     refine Tn (V2 ?_)
     rcases Xf d with G|⟨Z,⟨cm,wm⟩,G⟩
     ·exact absurd G I
     rw [Xg] at G
     subst G
     have f1:bB (Z++[(cm,wm)])=bB (Z++[(cm,pw)]):=by rw [lV,lV];rfl
     refine Tn (V2 (Tv ⟨rfl,?_⟩))
     have:=fin (Z++[(cm,pw)]) m ⟨fun p y=>?_,by rw [<- f1];exact B.pm⟩ (by rw [<- f1];exact g3)
     ·rw [<- MP Z cm wm pw,<- f1] at this
      exact this
     ·rcases TU.mp y with y|y
      ·exact B.ok p (by simp [y])
      ·rw [TN.mp y]
       exact B.ok (cm,wm) (by simp)
 ·obtain ⟨g,rest,z,rfl,rfl,u,hle⟩:=hI
  have A:=u.pm.length_eq
  rw [Td] at A
  have:rest=[]:=Vk.mp (by omega)
  subst this
  exact ⟨g,z,_,rfl,rfl,u⟩
 ·obtain ⟨g,z,n,rfl,rfl,u⟩:=M
  dsimp only
  have hfl:g.length<=(bB g).length:=by
   have:∀ g:List eI,(∀ p∈g,0<p.1.length)->g.length<=(bB g).length:=by
    intro g
    induction g with
    | nil=>intro _;exact Th _
    | cons p g ih=>
     intro h
     obtain ⟨c,w⟩:=p
     have a:=ih fun p y=>h p (by simp [y])
     have b:=h (c,w) (by simp)
     dsimp only at b
     rw [iQ,Td,TF]
     omega
   exact this g fun p y=>(u.ok p y).2
  have A:=u.pm.length_eq
  rw [Td,Vh] at A
  refine Tn (Ve (gU (fun i b st=>b=(none,())/\∃ g l,st=eC κ [] g l/\Rn r L [] g/\g.length+i<=L.length) (fun b st=>b=(none,())/\∃ g l,st=eC κ [] g l/\Rn r L [] g/\g.length<=1) 0 L.length (fun i b st hi hI=>?_) (fun b st hI=>?_) (fun b st M=>?_) (L.length - 0) 0 _ _ (by omega) ⟨rfl,g,z,rfl,u,by omega⟩))
  ·obtain ⟨rfl,g,m,rfl,u,U⟩:=hI
   refine Tn (Xk ?_)
   have hps:(ZR (eC κ [] g m)).size=g.length:=by
    show (pos 0 g).toArray.size=_
    rw [Ta,jN]
   rw [hps]
   refine bV (fun T=>?_) fun T=>?_
   ·refine Tn (C0 hC hX u ?_ fun d l B I g3=>?_)
    ·split<;>(try split)<;>omega
    ·rw [if_neg (by decide)]
     exact Tv ⟨rfl,rfl,d,l,rfl,B,by omega⟩
   ·exact Tv ⟨rfl,rfl,g,m,rfl,u,T⟩
  ·obtain ⟨rfl,g,m,rfl,u,U⟩:=hI
   exact ⟨rfl,g,m,rfl,u,by omega⟩
  ·obtain ⟨rfl,g,m,rfl,u,U⟩:=M
   dsimp only
   have hpm:=u.pm
   rw [Uz] at hpm
   refine Tv ?_
   have:=q (bB g++[]) (pos 0 g).toArray m ?_ (by rw [Uz];exact hpm)
   ·exact this
   ·rw [Uz]
    match g,U,u with
    | [],_,_=>exact Yt
    | [(c,w)],_,u=>
     have:=(u.ok (c,w) (by simp)).1
     rw [iQ]
     show Sr r (c++[])
     rw [Uz]
     exact this
    | _::_::_,U,_=>simp at U
end
end L3
namespace L3
open PySem L2 PySem.W PyProof.Rows
section
variable {prog:TC}{w:T7}{A:TR}{E:S4->S5->Prop}{s:S5}
theorem MU {c:Addr}{us:List S4}{z:Nat}{rk:S4->Int}(N:us.Pairwise fun x y=>rk x≠rk y)(h1:2<=us.length)(h2:us.length<=Tj){R:a2X->S5->Prop}(g:s.heap.get? c=some (UR "list" us.toArray z))
  (H:∀ m:UA,(∀ b o,b≠c->s.heap.get? b=some o->m.get? b=some o)->CG prog w A us (fun x y=>decide (rk x<rk y)) { s with heap:=m })
  (q:∀ a:List S4,a.Perm us->a.Pairwise (fun x y=>rk x<=rk y)->R (.done (.ret .none)) { s with heap:=YC s.heap c us a.toArray }) :
  TH (TK prog w) A (Builtin.«list.sort» ⟨[.ref c],[]⟩) R E s:=by
 rw [a2V]
 have lt:c<s.heap.objs.size:=Tp g
 refine S3 (listItems_at g rfl (S3 (Za g rfl ?_ (by rw [Ta];omega) (Uv _))))
 obtain ⟨y,O⟩:∃ y,(s.heap.update c (UQ fun _=>#[])).get? c=some (UR "list" #[] y):=⟨_,a2W g _⟩
 refine S3 (Z0 O rfl (S3 (a0f (S3 (Yn (UB ?_) (Uv _))) (by show us.length<=_;omega))))
 have Q:(((s.heap.update c (UQ fun _=>#[])).push (UR "tuple" us.toArray 0)).push (UR "list" #[] 0)).get? c=some (UR "list" #[] y):=
  S9 _ (S9 _ O)
 have n:=H (((s.heap.update c (UQ fun _=>#[])).push (UR "tuple" us.toArray 0)).push (UR "list" #[] 0)) fun b o Z e=>S9 _ (S9 _ ((Vp _ _ (U6 Z)).trans e))
 show TH (TK prog w) A _ R E ⟨((s.heap.update c (UQ fun _=>#[])).push (UR "tuple" us.toArray 0)).push (UR "list" #[] 0),s.gens,s.drawn,s.toks,s.os⟩
 dsimp only
 have i:¬ us.toArray.size<2:=by rw [Ta];omega
 rw [if_neg i,if_neg i]
 refine S3 (Uq n (fun κ M G=>?_) fun _ _ x=>x.elim)
 obtain ⟨rfl,G⟩:=G
 have Y:us.toArray.zip us.toArray=(us.map fun u=>(u,u)).toArray:=by
  apply Vj.mp
  rw [Mp,UM]
 have run:=MR (prog:=prog) (w:=w) (A₀:=A) (E:=E) (κ:=κ) (X:=fun p=>∃ u∈us,p=(u,u)) (r:=fun p=>rk p.1)
  (s:={ s with heap:=((s.heap.update c (UQ fun _=>#[])).push (UR "tuple" us.toArray 0)).push (UR "list" #[] 0) }) (L:=us.map fun u=>(u,u)) (mg:=7)
  (fun x y C l L hc=>by
   obtain ⟨u,K,rfl⟩:=l
   obtain ⟨v,hv,rfl⟩:=L
   exact G u v C K hv hc) (fun x l=>by
   obtain ⟨u,K,rfl⟩:=TQ.mp l
   exact ⟨u,K,rfl⟩) (by unfold Dis;rw [Ur];exact N) (by rw [S6];exact h1)
  (Q:=fun _ j M=>M = { s with heap:=((s.heap.update c (UQ fun _=>#[])).push (UR "tuple" us.toArray 0)).push (UR "list" #[] 0) }/\failedOf j=none/\∃ a:List S4,(a1N j).map (·.2)=a.toArray/\a.Perm us/\a.Pairwise (fun x y=>rk x<=rk y)) (fun T pd mg' m B=>⟨rfl,rfl,T.map (·.2),by
   show T.toArray.map (·.2)=_
   rw [List.map_toArray],by
   have:=B.map (·.2)
   rw [Ud] at this
   exact this.trans (by rw [show ((fun p:Keyed=>p.2) ∘ fun u:S4=>(u,u))=id from rfl,a2K]),by
   rw [Ur]
   refine Wj (R:=fun x y:Keyed=>rk x.1<=rk y.1) (fun {x y} l L h=>?_) m
   obtain ⟨u,_,rfl⟩:=TQ.mp (B.mem_iff.mp l)
   obtain ⟨v,_,rfl⟩:=TQ.mp (B.mem_iff.mp L)
   exact h⟩)
 rw [Y]
 refine S3 (Uq run (fun r M hr=>?_) fun _ _ e=>e)
 obtain ⟨⟨⟩,j⟩:=r
 obtain ⟨rfl,U,a,d,X,I⟩:=hr
 dsimp only at U d ⊢
 rw [d]
 have hol:=X.length_eq
 refine S3 (Z0 Q rfl (S3 (Za Q rfl ?_ (hsz2:=by rw [Ta];omega))))
 rw [U]
 simp only [bne_self_eq_false,Te,if_false]
 exact Tg (q a X I)
end
section
variable {α:Type}{lt:α->α->Bool}
structure Ord1 (lt:α->α->Bool):Prop where
 ir:∀ x,lt x x=false
 tr:∀ x y z,lt x y=true->lt y z=true->lt x z=true
 to:∀ x y,lt x y=false->lt y x=false->x=y
noncomputable def iR (lt:α->α->Bool)(l:List α)(x:α):Int:=(l.countP fun y=>lt y x:Nat)
theorem C2 (h:Ord1 lt){l:List α}{x y:α}(b:x∈l):lt x y=true->iR lt l x<iR lt l y:=fun e=>by
 unfold iR
 have:∀ l:List α,l.countP (fun z=>lt z x)<=l.countP (fun z=>lt z y):=fun l=>List.countP_mono_left fun z _ d=>h.tr z x y d e
 have i:l.countP (fun z=>lt z x)<l.countP (fun z=>lt z y):=by
  induction l with
  | nil=>cases b
  | cons a l g=>
   rw [a1H,a1H]
   rcases T5.mp b with rfl|b
   ·rw [h.ir,e,if_neg Uc,if_pos rfl]
    have:=this l
    omega
   ·have:=g b
    by_cases c:lt a x=true
    ·rw [if_pos c,if_pos (h.tr _ _ _ c e)];omega
    ·rw [if_neg c];split<;>omega
 omega
theorem sF (h:Ord1 lt){l:List α}{x y:α}(b:x∈l)(c:y∈l):lt x y=decide (iR lt l x<iR lt l y):=by
 cases e:lt x y with
 | true=>rw [decide_eq_true (C2 h b e)]
 | false=>
  symm
  rw [decide_eq_false_iff_not]
  cases a:lt y x with
  | true=>have:=C2 h c a;omega
  | false=>rw [h.to x y e a];omega
theorem C3 (h:Ord1 lt){l:List α}{x y:α}(c:x∈l)(d:y∈l)(g:x≠y):iR lt l x≠iR lt l y:=fun e=>by
 have a:=sF h c d
 have b:=sF h d c
 rw [e,decide_eq_false (by omega)] at a
 rw [e,decide_eq_false (by omega)] at b
 exact g (h.to x y a b)
theorem MV (h:Ord1 lt):∀ {a b:List α},a.Perm b->a.Pairwise (fun x y=>lt x y=true)->b.Pairwise (fun x y=>lt x y=true)->a=b
 | [],b,p,_,_=>(List.nil_perm.mp p).symm
 | x::a,b,p,ha,hb=>by
  match b,p,hb with
  | [],p,_=>exact absurd p.length_eq (by simp)
  | y::b,p,hb=>
   have e:x=y:=by
    rcases T5.mp (p.mem_iff.mp (Tt ..)) with e|g
    ·exact e
    ·rcases T5.mp (p.symm.mem_iff.mp (Tt ..)) with e|i
     ·exact e.symm
     ·have c:=X3 hb g
      have d:=X3 ha i
      have:=h.tr _ _ _ c d
      rw [h.ir] at this
      cases this
   subst e
   rw [MV h (List.Perm.cons_inv p) (VP.mp ha).2 (VP.mp hb).2]
end
end L3
namespace L3
open PySem L2 PySem.W PyProof.Rows
end L3
namespace L3
open PySem L2
open PyProof.Rows (IntsAre Fr News seqObj)
theorem kL:∀ a:List Int,HT.lexLt a a=false
 | []=>rfl
 | x::a=>by rw [HT.lexLt_cons,if_pos rfl];exact kL a
theorem C4:∀ {a b:List Int},a≠b->HT.lexLt a b = !HT.lexLt b a
 | [],[],h=>absurd rfl h
 | [],_::_,_=>rfl
 | _::_,[],_=>rfl
 | x::a,y::b,h=>by
  rw [HT.lexLt_cons,HT.lexLt_cons]
  by_cases e:x=y
  ·subst e
   rw [if_pos rfl,if_pos rfl]
   exact C4 fun z=>h (by rw [z])
  ·rw [if_neg e,if_neg (U6 e)]
   rcases Int.lt_or_gt_of_ne e with z|z
   ·rw [decide_eq_true z,decide_eq_false (by omega)];rfl
   ·rw [decide_eq_false (by omega),decide_eq_true z];rfl
theorem lX:∀ {a b c:List Int},HT.lexLt a b=true->HT.lexLt b c=true->HT.lexLt a c=true
 | _,[],[],_,h=>absurd h (by intro z;cases z)
 | _,_::_,[],_,h=>absurd h (by intro z;cases z)
 | [],_,_::_,_,_=>rfl
 | _::_,[],_::_,h,_=>absurd h (by intro z;cases z)
 | x::a,y::b,z::c,h1,h2=>by
  rw [HT.lexLt_cons] at h1 h2 ⊢
  by_cases e:x=y
  ·subst e
   rw [if_pos rfl] at h1
   by_cases d:x=z
   ·subst d
    rw [if_pos rfl] at h2 ⊢
    exact lX h1 h2
   ·rw [if_neg d] at h2 ⊢
    exact h2
  ·rw [if_neg e] at h1
   by_cases d:y=z
   ·subst d
    rw [if_neg e];exact h1
   ·rw [if_neg d] at h2
    rw [decide_eq_true_eq] at h1 h2
    rw [if_neg (by omega),decide_eq_true_eq];omega
end L3
namespace L3
open PySem
open PySem.W (KasT kas_asc kas_desc kas_tail3 kas_descPart kas_count kas_place kas_bin kas_sort kas_rev)
open PyProof.Rows (mirror bubble getElem?_bubble getElem?_mirror_all mirror_size bubble_size)
section
variable {α:Type}{lt:α->α->Bool}(irr:∀ a,lt a a=false)(tr:∀ a b c,lt a b=true->lt b c=true->lt a c=true)(nt:∀ a b c,lt a b=true->lt a c=true\/lt c b=true)
include irr tr nt in
theorem C5 (d:α)(xs:List α){n:Nat}(_:1<=n):(bU (fun i j=>lt (xs.getD i d) (xs.getD j d)) n).Pairwise fun i j=>lt (xs.getD j d) (xs.getD i d)=false:=by
 have h:=List.pairwise_mergeSort (le:=fun i j=>!(lt (xs.getD j d) (xs.getD i d))) (fun a b c g l=>by
  rw [X9] at g l ⊢
  cases e:lt (xs.getD c d) (xs.getD a d) with
  | false=>rfl
  | true=>
   rcases nt _ _ (xs.getD b d) e with z|z
   ·rw [z] at l;cases l
   ·rw [z] at g;cases g) (fun a b=>by
  cases e:lt (xs.getD b d) (xs.getD a d) with
  | false=>rfl
  | true=>
   cases m:lt (xs.getD a d) (xs.getD b d) with
   | false=>rfl
   | true=>have:=tr _ _ _ e m;rw [irr] at this;cases this) (Ui n)
 exact h.imp fun h=>by simpa using h
end
end L3
namespace L3
open PySem L2 PySem.W PyProof.Rows
theorem xE:Ord1 HT.lexLt:=⟨kL,fun _ _ _=>lX,fun a b h1 c=>XM fun d=>by
 have:=C4 d
 rw [h1,c] at this
 cases this⟩
section
variable {X:Cx}{a3L:List (Addr×VC)}{σ:L2.St}{H:Hp}{s:S5}
end
end L3
namespace L3
open PySem L2
section
variable {X:Cx}{a b c:Expr}{ma mb mc:ME}{pos:Vc}
noncomputable def iS (f g:D->D->Hm->Option (D×Hm))(a b c:ME):ME:=fun ρ d=>(a ρ d).bind fun p=>(b ρ p.2).bind fun q=>(f p.1 q.1 q.2).bind fun r=>match r.1 with
 | .bl true=>(c ρ r.2).bind fun t=>g q.1 t.1 t.2
 | .bl false=>some (.bl false,r.2)
 | _=>none
theorem C6 {f g:D->D->Hm->Option (D×Hm)}{r L:R2}{K:S1}(hf:cL K f r)(hg:cL K g L):∀ σ H Q,tM K (iS f g ma mb mc) σ H Q->u6 r L (tM K ma) (tM K mb) (tM K mc) σ H Q:=by
 rintro σ H Q ⟨π,w,μ,d,q,R,E,e,k⟩
 obtain ⟨⟨x,h⟩,Z,e⟩:=S0.mp e
 obtain ⟨⟨y,i⟩,h2,e⟩:=S0.mp e
 obtain ⟨⟨z,j⟩,h3,e⟩:=S0.mp e
 refine ⟨π,w,μ,x,h,R,E,Z,fun s v1 H1 n U i1=>⟨s,w,h,y,i,U,E.mono n,h2,fun u M N o R2 I=>?_⟩⟩
 refine hf u N i x y z j v1 M _ R2 (i1.mono o) I h3 fun m v3 O p A i3=>?_
 cases z with
 | bl B=>
  cases i3
  refine ⟨B,rfl,?_⟩
  cases B with
  | true=>
   refine jY ?_
   obtain ⟨⟨t,l⟩,h4,e⟩:=S0.mp e
   exact ⟨m,w,j,t,l,A,((E.mono n).mono o).mono p,h4,fun v v4 T G Y i4=>hg v T l y t d q M v4 Q Y ((I.mono p).mono G) i4 e (k.after (((n.trans o).trans p).trans G))⟩
  | false=>
   refine jX ?_
   cases e
   exact k m _ O ((n.trans o).trans p) A (.bl false)
 | _=>cases e
noncomputable def jO:XF->Option (Int->Int->Bool)
 | .Lt=>some fun i j=>decide (i<j)
 | .LtE=>some fun i j=>decide (i<=j)
 | .Gt=>some fun i j=>decide (j<i)
 | .GtE=>some fun i j=>decide (j<=i)
 | _=>none
theorem nV {op:XF}{p:Int->Int->Bool}(h:jO op=some p):OpR X (UC op) (fH fun i j=>.bl (p i j))/\(op=.Lt\/op=.LtE\/op=.Gt\/op=.GtE):=by
 cases op<;>first|(cases h;first|exact ⟨uZ,by simp⟩|exact ⟨u1,by simp⟩|exact ⟨u3,by simp⟩|exact ⟨u4,by simp⟩)|cases h
theorem C7 {op d:XF}(h':d=.Lt\/d=.LtE\/d=.Gt\/d=.GtE):a2E [op,d] [b,c]=false:=by
 show Wq d c=false
 rcases h' with rfl|rfl|rfl|rfl<;>exact cZ _
theorem MW {op d:XF}{p q:Int->Int->Bool}(h:jO op=some p)(h':jO d=some q)(e:QE X a ma)(g:QE X b mb)(hc:QE X c mc):QE X (.Compare a [op,d] [b,c] pos) (iS (eY p) (eY q) ma mb mc):=
 ⟨cD (Hy (nV h).1 (nV h').1 e.h g.h hc.h (C7 (nV (X:=X) h').2)) (C6 fY fY)⟩
theorem MX {op d:XF}{p q:Int->Int->Bool}(h:jO op=some p)(h':jO d=some q)(g:QE X a ma)(i:QE X b mb)(hc:QE X c mc):QT X (.Compare a [op,d] [b,c] pos) (aW (iS (eY p) (eY q) ma mb mc)):=
 ⟨rL (Hz (nV h).1 (nV h').1 g.h i.h hc.h (C7 (nV (X:=X) h').2)) fun e H Q h=>C6 fY fY e H _ (BE e H Q h)⟩
noncomputable def sG (d:Bool):D->D->Hm->Option (D×Hm)
 | .bl b,.bl c,μ=>some (.bl (if d then !(b == c) else b == c),μ)
 | .int _,.bl _,μ=>some (.bl d,μ)
 | _,_,_=>none
noncomputable def iT (d:Bool):D->D->Hm->Option (D×Hm):=fun x y e=>match y with
 | .bl _=>sG d x y e
 | _=>iO d x y e
noncomputable def xF (d:Bool):R2:=fun x y H Q=>∃ c,y=.bl c/\((∃ b,x=.bl b/\Q (.bl (if d then !(b == c) else b == c)) H)\/((∃ i,x=.int i)/\Q (.bl d) H))
theorem sH {K:S1}{g:Bool}:cL K (sG g) (xF g):=by
 intro j H o x y d l m n Q R h i e k
 unfold sG at e
 split at e
 ·cases e;cases h;cases i
  exact ⟨_,rfl,.inl ⟨_,rfl,k j _ H .refl R (.bl _)⟩⟩
 ·cases e;cases h;cases i
  exact ⟨_,rfl,.inr ⟨⟨_,rfl⟩,k j _ H .refl R (.bl _)⟩⟩
 ·cases e
theorem C8:OpR X (UC .Is) (xF false):=by
 intro e s j H x y v u Q I d g h
 obtain ⟨c,rfl,h⟩:=h
 cases g
 rcases h with ⟨b,rfl,q⟩|⟨⟨i,rfl⟩,q⟩
 ·cases d
  exact Tg (lD I q (by cases b<;>cases c<;>rfl))
 ·obtain ⟨t,rfl⟩:=d
  exact Tg (lD I q rfl)
theorem C9:OpR X (UC .IsNot) (xF true):=by
 intro e s j H x y v u Q I d g h
 obtain ⟨c,rfl,h⟩:=h
 cases g
 rcases h with ⟨b,rfl,q⟩|⟨⟨i,rfl⟩,q⟩
 ·cases d
  exact Tg (lD I q (by cases b<;>cases c<;>rfl))
 ·obtain ⟨t,rfl⟩:=d
  exact Tg (lD I q rfl)
theorem sI {d:Bool}(x y:D)(e:Hm)(r:D×Hm)(h:iT d x y e=some r):sG d x y e=some r\/iO d x y e=some r:=by
 unfold iT at h
 split at h
 ·exact .inl h
 ·exact .inr h
theorem MY (d:QE X a ma)(e:QE X b mb):QE X (.Compare a [.Is] [b] pos) (aB (iT false) ma mb):=kD ⟨d6 C8 sH d.h e.h (cZ _)⟩ (L4 d e) (fB sI)
theorem MZ (d:QE X a ma)(e:QE X b mb):QE X (.Compare a [.IsNot] [b] pos) (aB (iT true) ma mb):=kD ⟨d6 C9 sH d.h e.h (cZ _)⟩ (L5 d e) (fB sI)
theorem M0 (d:QE X a ma)(e:QE X b mb):QT X (.Compare a [.Is] [b] pos) (aW (aB (iT false) ma mb)):=nD ⟨d7 C8 sH d.h e.h (cZ _)⟩ (L6 d e) (nE (fB sI))
theorem M3 (d:QE X a ma)(e:QE X b mb):QT X (.Compare a [.IsNot] [b] pos) (aW (aB (iT true) ma mb)):=nD ⟨d7 C9 sH d.h e.h (cZ _)⟩ (L7 d e) (nE (fB sI))
end
section
variable {X:Cx}
end
section
variable {X:Cx}{e:Expr}{te:TE}{lo hi:Option Expr}{st:Expr}{tl th tt:TO}{pos p2:Vc}
end
section
variable {X:Cx}{a3L:List (Addr×VC)}{σ:St}{H:Hp}{s:S5}{h':UA}
end
structure QJT (X:Cx)(e:Expr)(m:MI):Prop where
 h:∀ es k p,PI X (.Tuple es k p) e (jI X.K m)
theorem QJ.t {X:Cx}{e:Expr}{m:MI}(h:QJ X e m):QJT X e m:=⟨fun es k p=>h.h _⟩
section
variable {X:Cx}{pos:Vc}
theorem M4 {tg iter:Expr}{w:MI}{g:MG}{v:MS}{body:List Stmt}(I:PI X tg iter (jI X.K w))(G:QG X tg g)(B:QB X body v)(K:ZV (TK X.prog X.w) X.A X.env X.xe)(hc:X.calm=true)(L:eF iter=true) :
  QS X (.For tg iter body [] pos) (dE w g v):=⟨iI (Hn K hc I G.h B.h (by intro z;cases iter<;>first|rfl|cases L)) (by
 rintro E T H ⟨O,Q,N,u,r,p,R,s,m,k⟩
 obtain ⟨⟨o,n,l⟩,A,m⟩:=S0.mp m
 refine ⟨O,Q,N,o,n,l,R,s,A,fun q x J i y W=>?_⟩
 have M:lJ X.K E q l.length x u r p:=by
  cases u with
  | nx=>exact fun a b e j h c=>k a b e (i.trans j) h c
  | bk=>exact fun a b e j h c=>k a b e (i.trans j) h c
  | ct=>exact fun a b e j h c=>k a b e (i.trans j) h c
  | rt d=>exact KC.after k i
 exact Kj W M .refl y (s.mono i) m)⟩
noncomputable def xG (put:D->D->D->Hm->Option Hm)(o i v:ME):MS:=fun ρ b=>(v ρ b).bind fun p=>(o ρ p.2).bind fun q=>(i ρ q.2).bind fun r=>(put q.1 r.1 p.1 r.2).map fun a=>(.nx,ρ,a)
noncomputable def pV:D->D->D->Hm->Option Hm
 | .loc a,y,d,μ=>match μ[a]? with
  | some (.dT kvs)=>(dA y).bind fun k=>if kvs.length<Tj then some (μ.set a (.dT (eB kvs k d))) else none
  | _=>none
 | _,_,_,_=>none
noncomputable def pW:D->D->D->Hm->Option Hm:=pV
noncomputable def dX:=xG pW
theorem M5 {K:S1}{π:Nat->Addr}{n:Nat}{H:Hp}:∀ {vs:List V}{ds:List D}(j:Nat){v:V}{d:D},IsDs K π n H vs ds->IsD K π n H v d->IsDs K π n H (vs.set j v) (ds.set j d)
 | _,_,j,_,_,.nil,h=>by simp;exact .nil
 | _,_,0,_,_,.cons _ t,h=>.cons h t
 | _,_,j+1,_,_,.cons h0 t,h=>.cons h0 (M5 j t h)
theorem Dc {st:Stmt}{i:Nat}:QS X st (bC i bT):=⟨fun a3L s σ H D I q=>by
 obtain ⟨g,h,e,d,c,b,R,E,a,k⟩:=q
 cases a⟩
end
end L3
namespace L3
open PySem L2
noncomputable def Dd {a:Type}(xs:List a)(k:Nat)(d:a):List a:=xs.take k++d::xs.drop k
theorem Vals.ins {xs:List V}{us:List S4}(h:Vals xs us)(k:Nat){v:V}{u:S4}(r:RelV v u):Vals (Dd xs k v) (Dd us k u):=(h.take k).append (.cons r (h.drop k))
section
variable {X:Cx}
end
section
variable {X:Cx}
end
noncomputable def pX:List D->Option (List Str)
 | []=>some []
 | .str x::r=>(pX r).map (x::·)
 | _=>none
noncomputable def gW (f:D->List D->Hm->Option (D×Hm))(a:ME)(b:MA):ME:=fun ρ c=>(a ρ c).bind fun p=>match p.1 with
 | .str x=>(b ρ p.2).bind fun q=>f (.str x) q.1 q.2
 | _=>none
section
variable {X:Cx}{e o:Expr}{mo:ME}{apos cpos:Vc}{es:List Expr}{ms:MA}{n:Nat}
theorem M6 {K:S1}{f:D->List D->Hm->Option (D×Hm)}{r:V->List V->Hp->VK->Prop}(w:eH K f r):∀ σ H Q,tM K (gW f mo ms) σ H Q->vK K "str" r (tM K mo) (d5 K ms) σ H Q:=by
 rintro σ H Q ⟨I,m,G,d,g,R,E,a,k⟩
 obtain ⟨⟨x,b⟩,u,a⟩:=S0.mp a
 cases x with
 | str z=>
  obtain ⟨⟨l,c⟩,v,a⟩:=S0.mp a
  refine ⟨I,m,G,_,b,R,E,u,fun h M L j q y=>?_⟩
  cases y
  refine ⟨rfl,h,m,b,l,c,q,E.mono j,v,fun i B p s R2 A=>?_⟩
  exact w i p c _ l d g _ B Q R2 (.str _) A a (k.after (j.trans s))
 | _=>cases a
theorem De {f:D->List D->Hm->Option (D×Hm)}{r:V->List V->Hp->VK->Prop}{name:Str}{id:String}(slot:a3G "str" name id) (c:a0h (.builtin id)=pure (.type "method_descriptor")) (i:fT X id r)(g:eH X.K f r)
  (l:QE X o mo)(d:QA X (e::es) ms n)(m:f9 o=true)(h:(apos.endLine == cpos.line)=true)(j:(e::es).length<30):QE X (.Call (.Attribute o name apos) (e::es) [] cpos) (gW f mo ms):=by
 have b:=d.s
 have a:=b
 rw [UE,Ti] at a
 exact ⟨cD (Bj PySem.F.plainAttrs_str slot c i l.h d.h (iP m) (wY b j) h (f6 a.1) (j7 a.2)) (M6 g)⟩
end
noncomputable def iU:D->List D->Hm->Option (D×Hm)
 | .str sep,[y],μ=>(nO μ y).bind fun b=>(pX b).bind fun a=>if Xc (a.toArray.foldl (·+·.length+sep.length) 0)=false/\(T4 sep a).length<=Tj then some (.str (T4 sep a),μ) else none
 | _,_,_=>none
noncomputable def Df (K:S1):V->List V->Hp->VK->Prop:=fun x vs H Q=>∃ (a:Str)(p:Addr)(ss:List Str),x=.str a/\vs=[.ref p]/\SqL K H p (ss.map V.str)/\Xc (ss.toArray.foldl (·+·.length+a.length) 0)=false/\(T4 a ss).length<=Tj/\Q (.str (T4 a ss)) H
theorem Dg:∀ {ds:List D}{k:List Str},pX ds=some k->ds=k.map D.str
 | [],k,h=>by cases h;rfl
 | d::ds,k,h=>by
  cases d with
  | str i=>
   obtain ⟨c,a,b⟩:=S8.mp h
   subst b
   rw [Dg a];rfl
  | _=>cases h
theorem strs_of' {K:S1}{π:Nat->Addr}{n:Nat}{H:Hp}:∀ {vs:List V}{k:List Str},IsDs K π n H vs (k.map D.str)->vs=k.map V.str
 | _,[],h=>by cases h;rfl
 | _,i::k,h=>by
  cases h with
  | cons h t=>cases h;rw [strs_of' t];rfl
theorem M7 {K:S1}:eH K iU (Df K):=by
 intro m H s x ds d l v n Q R h is a k
 unfold iU at a
 split at a
 ·obtain ⟨r,c,a⟩:=S0.mp a
  obtain ⟨i,e,a⟩:=S0.mp a
  split at a
  ·rename_i b
   cases a
   cases h
   cases is with
   | cons g j=>
    cases j
    obtain ⟨p,o,rfl,q,hd⟩:=CK R g c
    rw [Dg e] at hd
    have:=strs_of' hd
    subst this
    exact ⟨_,p,i,rfl,rfl,q,b.1,b.2,k m _ H .refl R (.str _)⟩
  ·cases a
 ·cases a
theorem Dh:∀ {ss:List Str}{a:List S4},Vals (ss.map V.str) a->∃ l:List (Str×a1f),a=a0P l/\l.map (·.1)=ss
 | [],_,h=>by cases h;exact ⟨[],rfl,rfl⟩
 | x::ss,_,h=>by
  cases h with
  | cons h t=>
   obtain ⟨b,rfl⟩:=h
   obtain ⟨l,rfl,e⟩:=Dh t
   exact ⟨(x,b)::l,rfl,by rw [Tr,e]⟩
theorem M8 {X:Cx}:fT X "str.join" (Df X.K):=by
 intro e s E H x B v A Q I w o h
 obtain ⟨d,p,z,rfl,rfl,i,g,c,q⟩:=h
 obtain ⟨t,rfl⟩:=w
 obtain ⟨u,rfl,n⟩:=o.one
 cases n
 obtain ⟨j,r,m,y⟩:=I.list i
 obtain ⟨l,rfl,rfl⟩:=Dh r
 refine W4 F.slot_str_join (Yd _ _ _) F.entry_str_join (F.args_str_join_2 _ _) (meets_str_join_list d t p l g) ⟨m.isList,?_⟩
 match l,c,q with
 | [],c,q=>exact ⟨c,.str _,H,I.tok _,⟨_,rfl⟩,q⟩
 | [a],c,q=>exact ⟨.str _,H,I,⟨_,rfl⟩,q⟩
 | a::b::r,c,q=>exact ⟨c,.str _,H,I.tok _,⟨_,rfl⟩,q⟩
theorem M9 {K:S1}{π:Nat->Addr}{n:Nat}{H:Hp}:∀ (k:List Str),IsDs K π n H (k.map V.str) (k.map D.str)
 | []=>.nil
 | x::k=>.cons (.str x) (M9 k)
end L3
namespace L3
open PySem L2
section
variable {prog:TC}{w:T7}{A:TR}{E:S4->S5->Prop}{s:S5}{r:Addr}{Q:Bool->S5->Prop}
end
section
variable {prog:TC}{w:T7}{A:TR}{E:S4->S5->Prop}{s:S5}{p a:Addr}{its:Array S4}
end
end L3
namespace L3
open PySem L2
end L3
namespace L3
open PySem L2
noncomputable abbrev bK:=List (List Int×Addr×V)
noncomputable def bM (ps:bK)(ws:List S4):List (List Int×Addr×S4):=a0a (fun p w=>(p.1,p.2.1,w)) ps ws
theorem xH {P:TC}{w:T7}:∀ (ps:bK)(ws:List S4),a0a Bz ps ws=(bM ps ws).map (entryOfKey (WD (X4 P w)))
 | [],_=>by simp [bM]
 | p::ps,[]=>by simp [bM]
 | p::ps,u::ws=>by
  have a:=xH (P:=P) (w:=w) ps ws
  unfold bM at a ⊢
  rw [Us,Us,Tr,a]
  rfl
theorem lY:∀ {ps:bK}{ws:List S4},Vals (ps.map (·.2.2)) ws->(bM ps ws).map (·.1)=ps.map (·.1)
 | [],_,_=>by simp [bM]
 | p::ps,_,.cons r t=>by
  have a:=lY (ps:=ps) t
  unfold bM at a ⊢
  rw [Us,Tr,Tr,a]
theorem Di:∀ {ps:bK}{ws:List S4}{x:List Int×Addr×S4},x∈bM ps ws->∃ p∈ps,p.1=x.1/\p.2.1=x.2.1
 | [],_,x,h=>by simp [bM] at h
 | p::ps,[],x,h=>by simp [bM] at h
 | p::ps,u::ws,x,h=>by
  unfold bM at h
  rw [Us] at h
  rcases T5.mp h with e|h
  ·subst e;exact ⟨p,Tt ..,rfl,rfl⟩
  ·obtain ⟨q,a,e⟩:=Di (ps:=ps) (ws:=ws) h
   exact ⟨q,Tw _ a,e⟩
noncomputable def dR (ps:bK)(k:List Int):Option V:=(ps.find? fun p=>decide (p.1=k)).map (·.2.2)
noncomputable def dS (ps:bK)(k:List Int)(b:Addr)(v:V):bK:=if (dR ps k).isSome then ps.map (fun p=>if p.1=k then (p.1,p.2.1,v) else p) else ps++[(k,b,v)]
theorem nW:∀ {ps:bK}{ws:List S4},Vals (ps.map (·.2.2)) ws->∀ k,RelO (dR ps k) ((X2 (bM ps ws) k).map (·.2))
 | [],_,.nil,k=>by simp [dR,bM,X2];exact V8
 | p::ps,_,.cons r t,k=>by
  have a:=nW (ps:=ps) t k
  unfold dR X2 bM at a ⊢
  rw [Us,UG,UG]
  by_cases e:p.1=k
  ·simp only [e,decide_true]
   exact r
  ·simp only [e,decide_false]
   exact a
theorem xI (ps:bK)(k:List Int)(b:Addr)(v:V):(dS ps k b v).length<=ps.length+1:=by
 unfold dS;split<;>simp
theorem Dj {k:List Int}{v:V}{u:S4}(d:RelV v u):∀ {ps:bK}{ws:List S4},Vals (ps.map (·.2.2)) ws->
  ∃ a,Vals ((ps.map fun p=>if p.1=k then (p.1,p.2.1,v) else p).map (·.2.2)) a/\(bM ps ws).map (a3y k u)=bM (ps.map fun p=>if p.1=k then (p.1,p.2.1,v) else p) a
 | [],_,.nil=>⟨[],.nil,by simp [bM]⟩
 | p::ps,_,.cons (b:=w) r t=>by
  obtain ⟨a,c,b⟩:=Dj d (ps:=ps) t
  by_cases e:p.1=k
  ·refine ⟨u::a,?_,?_⟩
   ·rw [Tr,Tr,if_pos e]
    exact .cons d c
   ·unfold bM at b ⊢
    rw [Us,Tr,b,Tr,if_pos e,Us]
    unfold a3y
    rw [if_pos e]
  ·refine ⟨w::a,?_,?_⟩
   ·rw [Tr,Tr,if_neg e]
    exact .cons r c
   ·unfold bM at b ⊢
    rw [Us,Tr,b,Tr,if_neg e,Us]
    unfold a3y
    rw [if_neg e]
theorem Dk {k:List Int}{b:Addr}{v:V}{u:S4}:∀ {ps:bK}{ws:List S4},Vals (ps.map (·.2.2)) ws->bM ps ws++[(k,b,u)]=bM (ps++[(k,b,v)]) (ws++[u])
 | [],_,.nil=>by simp [bM]
 | p::ps,_,.cons r t=>by
  have a:=Dk (k:=k) (b:=b) (v:=v) (u:=u) (ps:=ps) t
  unfold bM at a ⊢
  rw [Us,TM,a,TM,TM,Us]
theorem Dl {ps:bK}{ws:List S4}(r:Vals (ps.map (·.2.2)) ws)(k:List Int)(b:Addr){v:V}{u:S4}(c:RelV v u) :
  ∃ a,Vals ((dS ps k b v).map (·.2.2)) a/\a2s (bM ps ws) k b u=bM (dS ps k b v) a:=by
 have e:=(nW r k).isSome_eq
 rw [WS] at e
 unfold dS a2s
 rw [e]
 by_cases h:(X2 (bM ps ws) k).isSome=true
 ·rw [if_pos h,if_pos h]
  exact Dj c r
 ·rw [if_neg h,if_neg h]
  refine ⟨ws++[u],?_,Dk r⟩
  rw [UW]
  exact XX r c
section
variable {X:Cx}{a3L:List (Addr×VC)}{σ:St}{H:Hp}{s:S5}{a:Addr}{ps:bK}
noncomputable def cN (K:S1)(H:Hp)(ps:bK):Prop:=∀ p∈ps,SqT K H p.2.1 (p.1.map V.int)
theorem gX (I:Inv X a3L σ H s)(e:Rd H a (bE a ps))(q:cN X.K H ps):(a == U0)=false/\ps.length<=Tj /\
  ∃ b,Vals (ps.map (·.2.2)) b/\s.heap.DictOfH (WD (X4 X.prog X.w)) a (bM ps b):=by
 obtain ⟨⟨b,r,w,u,o,h,g,i,j,l,m,n⟩,_⟩:=(show ObjOk X.prog X.w H s.heap a (bE a ps) from e.ok I.hok)
 refine ⟨w,u,b,r,o,h,g,i,j,l,by rw [m];exact xH ps b,fun x y=>?_,by rw [lY r];exact n⟩
 obtain ⟨p,v,c,d⟩:=Di y
 rw [<- c,<- d]
 exact kJ I (q p v)
theorem xJ {P:TC}{w:T7}{n:Hp}{h':UA}{ws:List S4}(m:(a == U0)=false)(l:ps.length<=Tj)(r:Vals (ps.map (·.2.2)) ws)(d:h'.DictOfH (WD (X4 P w)) a (bM ps ws)):ObjOk P w n h' a (bE a ps):=by
 obtain ⟨o,e,c,b,g,h,i,_,j⟩:=d
 refine ⟨⟨ws,r,m,l,o,e,c,b,g,h,by rw [i,xH (P:=P) (w:=w)],by rw [<- lY r];exact j⟩,⟨o,b⟩,?_⟩
 rintro q u ⟨ws,r,m,l,o,e,c,b,g,h,i,j⟩ p
 exact ⟨ws,r,m,l,o,e,c,p o b,g,h,i,j⟩
theorem Na (I:Inv X a3L σ H s)(e:Rd H a (bE a ps))(b:cN X.K H ps):s.TypeIs (.ref a) "dict":=by
 obtain ⟨_,_,c,_,d⟩:=gX I e b
 exact d.typeIs
theorem pY {A:TR}(b:A.units+1<Vg):(WD (X4 X.prog X.w)).room A.in1:=by
 show A.in1.units<Vg
 rw [m7];omega
variable {A:TR}{E:S4->S5->Prop}{b:Addr}{k:List Int}{v:V}
theorem Nb {Q:S4->S5->Prop}(o:A.units+1<Vg)(I:Inv X a3L σ H s)(e:Rd H a (bE a ps))(m:cN X.K H ps)(l:SqT X.K H b (k.map V.int))(q:dR ps k=some v)
  (h:∀ c j,Inv X a3L σ H j->RelV v c->Q c j):TH (TK X.prog X.w) A (Zt (.ref a) (.ref b)) Q E s:=by
 obtain ⟨x,w,u,r,d⟩:=gX I e m
 obtain ⟨c,hw,i⟩:=RelO.some_of (v:=v) (o:=(X2 (bM ps u) k).map (·.2)) (by rw [<- q];exact nW r k)
 obtain ⟨p,n,g⟩:=S8.mp hw
 refine a2b (pY o) (kJ I l) d n ?_
 rw [g]
 exact h c _ (I.tok _) i
theorem Nc {Q:S4->S5->Prop}(l:A.units+1<Vg)(I:Inv X a3L σ H s)(e:Rd H a (bE a ps))(i:cN X.K H ps)(g:SqT X.K H b (k.map V.int))
  (h:∀ c,Inv X a3L σ H c->Q (.bool (dR ps k).isSome) c):TH (TK X.prog X.w) A (UC .In (.ref b) (.ref a)) Q E s:=by
 obtain ⟨j,m,n,r,d⟩:=gX I e i
 refine wpAny_in_heap (pY l) (kJ I g) j d ?_
 have q:=(nW r k).isSome_eq
 rw [WS] at q
 rw [<- q]
 exact h _ (I.tok _)
theorem Nd {Q:S4->S5->Prop}(l:A.units+1<Vg)(I:Inv X a3L σ H s)(e:Rd H a (bE a ps))(i:cN X.K H ps)(g:SqT X.K H b (k.map V.int))
  (h:∀ c,Inv X a3L σ H c->Q (.bool (!(dR ps k).isSome)) c):TH (TK X.prog X.w) A (UC .NotIn (.ref b) (.ref a)) Q E s:=by
 obtain ⟨j,m,n,r,d⟩:=gX I e i
 refine a2Y (pY l) (kJ I g) j d ?_
 have q:=(nW r k).isSome_eq
 rw [WS] at q
 rw [<- q]
 exact h _ (I.tok _)
theorem Nf {Q:Unit->S5->Prop}{u:S4}(x:A.units+1<Vg)(I:Inv X a3L σ H s)(e:H a=some (bE a ps))(o:cN X.K H ps)(m:SqT X.K H b (k.map V.int))(hz:ps.length<Tj)(B:RelV v u)
  (h:∀ i,Inv X a3L σ (aN H a (bE a (dS ps k b v))) i->Q () i):TH (TK X.prog X.w) A (setItem (.ref a) (.ref b) u) Q E s:=by
 obtain ⟨w,L,G,r,d⟩:=gX I (.of e) o
 have y:(bM ps G).length<=Tj:=by
  have:=congrArg US (lY r)
  rw [S6,S6] at this
  omega
 refine wpAny_setItem_heap (hsz:=y) (pY x) (kJ I m) d fun l c g=>h _ ?_
 obtain ⟨K,z,j⟩:=Dl r k b B
 rw [j] at c
 have n:∃ q,l.get? a=some q:=let ⟨q,_,_,p,_⟩:=c;⟨q,p⟩
 exact vE I (by rw [e];exact V8) g n (xJ w (by have:=xI ps k b v;omega) z c)
end
noncomputable def IsTs (K:S1)(π:Nat->Addr)(n:Nat)(H:Hp):bK->List (List Int×D)->Prop:=Vr fun p q=>p.1=q.1/\SqT K H p.2.1 (p.1.map V.int)/\IsD K π n H p.2.2 q.2
section
variable {K:S1}{π:Nat->Addr}{n:Nat}{H:Hp}{μ:Hm}
theorem Ng {b:Addr}{k:List Int}(h:IsD K π n H (.ref b) (.tup (k.map D.int))):SqT K H b (k.map V.int):=by
 cases h with
 | tup q t=>rw [ints_of' t] at q;exact q
theorem IsTs.of:∀ {ps:bK}{kvs:List (List Int×D)},ps.map (·.1)=kvs.map (·.1)->IsDs K π n H (ps.map fun p=>V.ref p.2.1) (kvs.map fun k=>D.tup (k.1.map D.int))->IsDs K π n H (ps.map (·.2.2)) (kvs.map (·.2))->IsTs K π n H ps kvs
 | [],[],_,_,_=>.nil
 | [],_::_,h,_,_=>by cases h
 | _::_,[],h,_,_=>by cases h
 | p::ps,q::kvs,h,h2,h3=>by
  cases h2 with
  | cons a b=>
   cases h3 with
   | cons c d=>
    rw [Tr,Tr,List.cons.injEq] at h
    refine .cons ⟨h.1,?_,c⟩ (IsTs.of h.2 b d)
    rw [h.1]
    exact Ng a
theorem IsTs.keys:∀ {ps:bK}{kvs:List (List Int×D)},IsTs K π n H ps kvs->cN K H ps
 | _,_,.nil=>fun p a=>nomatch a
 | _,_,.cons h t=>fun p a=>by
  rcases T5.mp a with e|a
  ·subst e;exact h.2.1
  ·exact IsTs.keys t p a
theorem IsTs.to:∀ {ps:bK}{kvs:List (List Int×D)},IsTs K π n H ps kvs->ps.map (·.1)=kvs.map (·.1)/\IsDs K π n H (ps.map fun p=>V.ref p.2.1) (kvs.map fun k=>D.tup (k.1.map D.int))/\IsDs K π n H (ps.map (·.2.2)) (kvs.map (·.2))
 | _,_,.nil=>⟨rfl,.nil,.nil⟩
 | _,_,.cons (a:=p) (b:=q) h t=>by
  obtain ⟨a,b,c⟩:=IsTs.to t
  refine ⟨by rw [Tr,Tr,h.1,a],.cons ?_ b,.cons h.2.2 c⟩
  show IsD K π n H (.ref p.2.1) (.tup (q.1.map D.int))
  rw [<- h.1]
  exact .tup h.2.1 (sE p.1)
theorem IsTs.val (k:List Int):∀ {ps:bK}{kvs:List (List Int×D)},IsTs K π n H ps kvs->(dR ps k=none/\cK kvs k=none)\/∃ v d,dR ps k=some v/\cK kvs k=some d/\IsD K π n H v d
 | _,_,.nil=>.inl ⟨rfl,rfl⟩
 | _,_,.cons (a:=p) (b:=q) h t=>by
  have a:=IsTs.val k t
  unfold dR cK at a ⊢
  rw [UG,UG,<- h.1]
  by_cases e:p.1=k
  ·simp only [e,decide_true]
   exact .inr ⟨_,_,rfl,rfl,h.2.2⟩
  ·simp only [e,decide_false]
   exact a
theorem IsTs.put {ps:bK}{kvs:List (List Int×D)}(h:IsTs K π n H ps kvs)(k:List Int){b:Addr}{v:V}{d:D}(i:SqT K H b (k.map V.int))(g:IsD K π n H v d):IsTs K π n H (dS ps k b v) (eB kvs k d):=by
 have e:(dR ps k).isSome=(cK kvs k).isSome:=by
  rcases h.val k with ⟨a,c⟩|⟨v,d,a,c,_⟩<;>rw [a,c]<;>rfl
 have repl:∀ {ps:bK}{kvs:List (List Int×D)},IsTs K π n H ps kvs->IsTs K π n H (ps.map fun p=>if p.1=k then (p.1,p.2.1,v) else p) (kvs.map fun p=>if p.1=k then (p.1,d) else p):=by
  intro ps kvs h
  unfold IsTs at h
  induction h with
  | nil=>exact .nil
  | @cons p q ps l h t j=>
   rw [Tr,Tr]
   refine .cons ?_ j
   by_cases z:p.1=k
   ·rw [if_pos z,if_pos (h.1.symm.trans z)]
    exact ⟨h.1,h.2.1,g⟩
   ·rw [if_neg z,if_neg fun y=>z (h.1.trans y)]
    exact h
 unfold dS eB
 rw [e]
 split
 ·exact repl h
 ·exact XX h ⟨rfl,i,g⟩
theorem gY {a:Nat}{kvs:List (List Int×D)}(R:Rp K π H μ)(h:μ[a]? = some (.dT kvs)):∃ ps,H (π a)=some (bE (π a) ps)/\IsTs K π μ.length H ps kvs:=by
 obtain ⟨ps,b,c,d,e⟩:=R.dT a kvs h
 exact ⟨ps,b,.of c d e⟩
theorem nX {v:V}{x:D}{k:List Int}(h:IsD K π n H v x)(e:dA x=some k):∃ b,v=.ref b/\SqT K H b (k.map V.int):=by
 have:=w6 e
 subst this
 cases h with
 | tup q t=>rw [ints_of' t] at q;exact ⟨_,rfl,q⟩
end
noncomputable def lZ:ME:=fun _ a=>some (.loc a.length,a++[.dT []])
section
variable {X:Cx}{pos:Vc}
theorem xK {P:TC}{w:T7}{H:Hp}(h:UA)(a:U0<h.objs.size):ObjOk P w H (h.push { cls:=.type "dict",data:=.dict #[] }) h.objs.size (bE h.objs.size []):=
 xJ (ws:=[]) (beq_eq_false_iff_ne.mpr (U6 (TJ a))) (Uv _) .nil (a3n h)
noncomputable def Nh:TE:=fun _ H Q=>∀ p,H p=none->Q (.ref p) (aN H p (bE p []))
theorem Ni:PE X (.Dict [] [] pos) Nh:=fun a3L s σ H Q I h=>
 wpAny_Dict_empty ⟨.ref s.heap.objs.size,_,I.laid (a:=s.heap.objs.size) (o:=bE s.heap.objs.size []) (t':=s.toks) (fun _ _ q=>S9 _ q) (Th _) (xK s.heap I.big),rfl,h _ (I.hok.fresh (Th _))⟩
theorem Nj:QE X (.Dict [] [] pos) lZ:=⟨cD Ni (by
 rintro m H Q ⟨j,l,i,d,g,R,E,c,k⟩ p e
 cases c
 obtain ⟨b,a,h⟩:=R.alloc (c:=.dT []) (o:=bE p []) e ⟨[],rfl,rfl,.nil,.nil⟩
 exact k _ _ _ b a gQ)⟩
end
noncomputable def nY:D->D->Hm->Option (D×Hm)
 | .loc a,y,μ=>match μ[a]? with
  | some (.dT kvs)=>(dA y).bind fun k=>(cK kvs k).map fun d=>(d,μ)
  | _=>none
 | _,_,_=>none
section
variable {X:Cx}{a b e:Expr}{ma mb me:ME}{pos tpos:Vc}{td ty tv:TE}
noncomputable def Dm (K:S1):R2:=fun x y H Q=>∃ a b ps k v,x=.ref a/\y=.ref b/\Rd H a (bE a ps)/\cN K H ps/\SqT K H b (k.map V.int)/\dR ps k=some v/\Q v H
theorem Nk (A:X.A.units+1<Vg)(w:PE X a td)(r:PE X b ty)(z:rG b):PE X (.Subscript a b pos) (fun σ H Q=>td σ H fun x d=>ty σ d fun y g=>Dm X.K x y g Q):=by
 intro c s σ H Q I h
 refine A7 Zl.lookup z (aR (w c s σ H _ I h) fun u N ⟨x,d,m,L,G⟩=>aR (r c N σ d _ m G) fun E R ⟨y,g,j,M,a,b,O,k,v,o,p,e,l,q,B,K⟩=>?_)
 subst o p
 obtain rfl:u=To a:=L
 obtain rfl:E=To b:=M
 exact ⟨Na j e l,Nb A j e l q B fun U T n i=>⟨v,g,n,i,K⟩⟩
theorem Nl {K:S1}:cL K nY (Dm K):=by
 intro w H I x y d u E G Q R m n c k
 unfold nY at c
 split at c
 ·split at c
  ·rename_i o hc
   obtain ⟨h,j,c⟩:=S0.mp c
   obtain ⟨A,g,c⟩:=S8.mp c
   cases c
   cases m
   obtain ⟨p,i,T⟩:=gY R hc
   obtain ⟨b,rfl,l⟩:=nX n j
   rcases T.val h with ⟨_,z⟩|⟨v,B,q,r,s⟩
   ·rw [z] at g;cases g
   ·rw [r] at g
    cases g
    exact ⟨_,b,p,h,v,rfl,rfl,.of i,T.keys,l,q,k w _ H .refl R s⟩
  ·cases c
 ·cases c
theorem Nm {k:Nat}(g:Room k X.A)(c:QE X a ma)(d:QE X b mb)(h:lS b=true):QE X (.Subscript a b pos) (aB nY ma mb):=⟨cD (Nk (e8 g) c.h d.h (wJ h)) (mZ Nl)⟩
end
section
variable {X:Cx}{o i e:Expr}{mo mi me:ME}{pos tpos:Vc}{td ty tv:TE}
noncomputable def Nn (K:S1)(td ty tv:TE):TS:=fun D σ H=>tv σ H fun v d=>td σ d fun x g=>ty σ g fun y c=>∃ a b ps k,x=.ref a/\y=.ref b/\c a=some (bE a ps)/\cN K c ps/\SqT K c b (k.map V.int)/\ps.length<Tj/\D.nx σ (aN c a (bE a (dS ps k b v)))
theorem Np (K:X.A.units+1<Vg)(E:PE X o td)(A:PE X i ty)(L:PE X e tv)(G:Yb e (some (.Subscript o i tpos)) pos.line X.env=pure false) :
  PS X (.Assign [.Subscript o i tpos] e pos) (Nn X.K td ty tv):=by
 intro c s d H D I h
 refine wpAny_Assign_Subscript (aR (L c s d H _ I h) fun r Z ⟨v,g,l,T,O⟩=>aR (E c Z d g _ l O) fun u s2 ⟨x,j,m,U,Q⟩=>aR (A c s2 d j _ m Q) fun N s3 ⟨y,H3,n,Y,a,b,ps,k,q,w,e,B,z,M,R⟩=>?_) G
 subst q w
 obtain rfl:u=To a:=U
 obtain rfl:N=To b:=Y
 exact Nf K n e B z M T fun s4 p=>⟨d,_,p,R⟩
theorem Nq {g:Nat}(hr:Room g X.A)(ho:QE X o mo)(hi:QE X i mi)(he:QE X e me)(h:jH e=true):QS X (.Assign [.Subscript o i tpos] e pos) (xG pV mo mi me):=
 ⟨iI (Np (IT hr) ho.h hi.h he.h (wM h)) (by
 rintro E σ H ⟨π,K,μ,fl,ρ',μ',R,m,d,k⟩
 obtain ⟨⟨x,j⟩,h1,d⟩:=S0.mp d
 obtain ⟨⟨y,l⟩,h2,d⟩:=S0.mp d
 obtain ⟨⟨z,A⟩,h3,d⟩:=S0.mp d
 obtain ⟨μ4,c,d⟩:=S8.mp d
 cases d
 refine ⟨π,K,μ,x,j,R,m,h1,fun B v1 H1 n Q i1=>⟨B,K,j,y,l,Q,m.mono n,h2,fun G v2 H2 p R2 i2=>⟨G,K,l,z,A,R2,(m.mono n).mono p,h3,fun I v3 H3 q L i3=>?_⟩⟩⟩
 cases y with
 | loc a=>
  simp only [pV] at c
  split at c
  ·rename_i v hc
   obtain ⟨g,h5,c⟩:=S0.mp c
   split at c
   ·rename_i hz
    cases c
    have u:=i2.mono q
    cases u with
    | loc r=>
     obtain ⟨w,N,T⟩:=gY L hc
     obtain ⟨b,rfl,O⟩:=nX i3 h5
     have hv:=(i1.mono p).mono q
     have Y:=T.put g O hv
     obtain ⟨Z,g2,g3⟩:=Y.to
     have s:w.length<Tj:=by
      have:=congrArg US (T.to).1
      rw [S6,S6] at this
      omega
     refine ⟨_,b,w,g,rfl,rfl,N,T.keys,O,s,?_⟩
     obtain ⟨M,U⟩:=L.put (c:=.dT (eB v g x)) (o:=bE _ (dS w g b v1)) r N (.inr (.inr ⟨_,rfl⟩)) ⟨_,rfl,Z,g2,g3⟩
     exact k I σ _ (((n.trans p).trans q).trans M) U ((((m.mono n).mono p).mono q).mono M)
   ·cases c
  ·cases c
 | _=>simp [pV] at c)⟩
end
noncomputable def pZ (b:Bool):D->D->Hm->Option (D×Hm)
 | x,.loc a,μ=>match μ[a]? with
  | some (.dT kvs)=>(dA x).map fun k=>(.bl (if b then !(cK kvs k).isSome else (cK kvs k).isSome),μ)
  | _=>none
 | _,_,_=>none
noncomputable def xM (K:S1)(c:Bool):R2:=fun x y H Q=>∃ a b ps k,x=.ref b/\y=.ref a/\Rd H a (bE a ps)/\cN K H ps/\SqT K H b (k.map V.int)/\Q (.bl (if c then !(dR ps k).isSome else (dR ps k).isSome)) H
theorem Dp {X:Cx}(j:X.A.units+1<Vg):OpR X (UC .In) (xM X.K false):=by
 intro d s p H x y v u Q I l m h
 obtain ⟨a,b,n,k,rfl,rfl,e,i,g,q⟩:=h
 obtain rfl:v=To b:=l
 obtain rfl:u=To a:=m
 exact Nc j I e i g fun o c=>⟨.bl _,H,c,rfl,q⟩
theorem Dq {X:Cx}(j:X.A.units+1<Vg):OpR X (UC .NotIn) (xM X.K true):=by
 intro d s p H x y v u Q I l m h
 obtain ⟨a,b,n,k,rfl,rfl,e,i,g,q⟩:=h
 obtain rfl:v=To b:=l
 obtain rfl:u=To a:=m
 exact Nd j I e i g fun o c=>⟨.bl _,H,c,rfl,q⟩
theorem sJ {K:S1}{c:Bool}:cL K (pZ c) (xM K c):=by
 intro r H w x y d q s u Q R o p a k
 unfold pZ at a
 split at a
 ·split at a
  ·rename_i i hc
   obtain ⟨h,g,a⟩:=S8.mp a
   cases a
   cases p
   obtain ⟨l,m,T⟩:=gY R hc
   obtain ⟨b,rfl,n⟩:=nX o g
   have e:(dR l h).isSome=(cK i h).isSome:=by
    rcases T.val h with ⟨g,j⟩|⟨v,d,g,j,_⟩<;>rw [g,j]<;>rfl
   refine ⟨_,b,l,h,rfl,rfl,.of m,T.keys,n,?_⟩
   rw [e]
   exact k r _ H .refl R (.bl _)
  ·cases a
 ·cases a
section
variable {X:Cx}{a b:Expr}{ma mb:ME}{pos:Vc}
end
end L3
namespace L3
open PySem L2
noncomputable def RawD (h:UA)(d:Addr)(es:Array UD)(ep:Nat):Prop:=∃ z,h.get? d=some z/\z.ExactDict/\z.data=.dict es ep
theorem RawD.ty {s:S5}{d:Addr} {es ep} (g:RawD s.heap d es ep):s.TypeIs (.ref d) "dict":=let ⟨z,a,b,_⟩:=g;⟨z,a,b.1⟩
theorem RawD.stay {h h':UA}{d:Addr} {es ep} (g:RawD h d es ep)(k:∀ o,h.get? d=some o->h'.get? d=some o):RawD h' d es ep:=let ⟨z,a,b⟩:=g;⟨z,k z a,b⟩
theorem RawD.lt {h:UA}{d:Addr} {es ep} (g:RawD h d es ep):d<h.objs.size:=let ⟨_,a,_⟩:=g;Tp a
section
variable {P:TC}{w:T7}{A:TR}{E:S4->S5->Prop}{s:S5}{d it:Addr}{i ep:Nat}{es:Array UD}
theorem Nr {Q:S4->S5->Prop}(lo:(d == U0)=false)(g:RawD s.heap d es ep)
  (q:Q (.ref s.heap.objs.size) { s with heap:=s.heap.push { cls:=.type "dict_keyiterator",data:=.fields #[.ref d,.int 0 0,.int es.size 0,.int ep 0] } }):TH (TK P w) A (ZQ (.ref d)) Q E s:=by
 obtain ⟨z,a,c,b⟩:=id g
 refine Zr g.ty F.slot_dict_iter (U9 F.slot_dict_iter g.ty F.entry_dict_iter ?_ (F.args_dict_iter_1 _))
 unfold Builtin.«dict.__iter__» a3r
 refine S3 (S3 (XB g.ty ?_))
 show TH _ _ (pure (To d)) _ _ _
 refine Tg ?_
 show TH _ _ (VF d >>= _) _ _ _
 unfold VF
 rw [if_neg (fun x=>Uc (lo.symm.trans x))]
 refine S3 (Tg (S3 (Wu a b (S3 (XW a b (S3 (U1 (Tg ?_))))))))
 exact ⟨_,rfl,"dict_keyiterator",_,⟨_,Tz _ rfl,rfl⟩,F.slot_dict_keyiterator_next.lookup,by simpa [WO] using q⟩
theorem Dr {Q:Option S4->S5->Prop}(p:A.handled=none)(j:s.heap.IsKeyIter it d i es.size ep)(g:RawD s.heap d es ep)
  (v:∀ e a,es[i]? = some e->a.IsKeyIter it d (i+1) es.size ep->W2 it s.heap a->Q (some e.key) { s with heap:=a })
  (B:es[i]? = none->∀ a,Zj it s.heap a->Q none { s with heap:=a }):TH (TK P w) A (Yo (.ref it)) Q E s:=by
 obtain ⟨y,c,r,b⟩:=id j
 obtain ⟨z,m,G,n⟩:=id g
 have l:∀ {Q:String->S5->Prop}{A:TR}{E:S4->S5->Prop},Q "dict_keyiterator" s->TH (TK P w) A (a2U (.ref it)) Q E s:=fun q=>wpAny_typeNameOfWhole_keyiter j.typeIs q
 unfold Yo
 refine S3 (a0B (a0O (name:=Yp "__next__") j.typeIs F.slot_dict_keyiterator_next (U9 F.slot_dict_keyiterator_next j.typeIs F.entry_dict_keyiterator_next ?_ (F.args_dict_keyiterator_next_1 _))))
 refine S3 (Tg (S3 (S3 (S3 (l (Tg (S3 (a3u c b ?_))))))))
 simp only [show VY "dict_keyiterator" = false by decide,Te,if_false]
 show TH _ _ (if (To d == UT)=true then _ else _) _ _ _
 rw [if_neg (show ¬ (To d == UT)=true from fun x=>Uc x)]
 refine S3 (Tg (S3 (Wu m n ?_)))
 rw [if_neg (fun x=>by simp at x)]
 refine S3 (Tg (S3 (XW m n ?_)))
 rw [if_neg (fun x=>by simp at x)]
 refine Tg ?_
 simp only [if_neg (show ¬ ((i:Int)<0) by omega),V0]
 cases o:es[i]? with
 | some e=>
  refine S3 (S3 (l (Tg (S3 (a1x j.typeIs ?_)))))
  show TH _ _ (a1K (.ref it) 1 (WO ((i:Int)+1)) >>= _) _ _ _
  refine S3 (a0e c b (by simp) ?_)
  have h:(s.heap.update it (a2y (·.setIfInBounds 1 (WO ((i:Int)+1))))).IsKeyIter it d (i+1) es.size ep:=
   ⟨_,Wf _ c (Obj.isFreed_of_fields (a1q b _)),(Obj.cls_mapFields ..).trans r,by simp [a1q b,WO]⟩
  generalize hu:s.heap.update it (a2y (·.setIfInBounds 1 (WO ((i:Int)+1))))=u at h
  refine S3 (UB (S3 (a1x (s:={ s with heap:=u }) h.typeIs ?_)))
  show TH _ _ (pure e.key) _ _ _
  exact Tg (Tg ⟨_,rfl,Tg (v e u o h (hu ▸ Yh ..))⟩)
 | none=>
  refine S3 (S3 (l (Tg ?_)))
  show TH _ _ (a1K (.ref it) 0 .none >>= _) _ _ _
  refine S3 (a0e c b (by simp) ?_)
  show TH _ _ (a3A (.type "StopIteration") [] >>= _) _ _ _
  simp only [a3A,newTuple]
  refine S3 (S3 (U1 ?_ (by size_fits)))
  refine S3 (m:=YU _ _) (wpAny_of_eq (a:=UT) (by first|rfl|(simp only [YU];rfl)) (U1 ?_ (by size_fits)))
  simp only [raiseNew]
  refine S3 (wpAny_handled ?_)
  rw [show A.in1.handled=none from p]
  refine S3 (Tg (wpAny_throw ?thrown))
  case thrown=>exact S3 (a2B (T:="StopIteration") (b:=true) ⟨_,Tz _ rfl,rfl⟩ a3E (Tg (B o _ (((Yh ..).extBut.push _).push _))))
theorem Ds (m:A.handled=none)(l:d≠it)(es:Array UD)(ep:Nat):Walks P w A it [it,d] [it] es.size (fun i v=>∃ e,es[i]? = some e/\v=e.key) (fun i h=>h.IsKeyIter it d i es.size ep/\RawD h d es ep) where
 sub:=fun b a=>by rw [TN.mp a];exact Tt ..
 frame:=fun _ _ _ st k=>⟨st.1.at fun o e=>k it (by simp) o e,st.2.stay fun o e=>k d (by simp) o e⟩
 item:=fun i s Q E r st q=>Dr m st.1 st.2 (fun e j c p n=>q _ j s.toks ⟨e,c,rfl⟩ ⟨p,st.2.stay fun o g=>n.extBut d o l g⟩ fun b o a g=>n.extBut b o (fun z=>a (by simp [z])) g) (fun c=>by simp at c;omega)
 done:=fun s Q E st q=>Dr m st.1 st.2 (fun e j c=>by simp at c) (fun _ j x=>q j s.toks fun b o a g=>x b o (fun z=>a (by simp [z])) g)
 self:=fun _ _ _ _ st q=>wpAny_pyIter_keyiter st.1 q
theorem Dt (lo:(d == U0)=false):PySem.W.KdlSrc P w "dict" d d es.size (fun i v=>∃ e,es[i]? = some e/\v=e.key) (fun h=>RawD h d es ep) where
 type:=fun _ g=>g.ty
 there:=fun _ g=>⟨g.lt,g.lt⟩
 keep:=fun _ _ g k=>g.stay fun o e=>k d (.inl rfl) o e
 notList:=by decide
 notTuple:=by decide
 hint:=fun _ _ _ _ g q=>PySem.W.kdl_hint_dict g.ty q
 iter:=fun _ _ a g=>⟨_,_,(fun _ _ q=>Nr lo g q),Ds a (TJ g.lt) es ep,⟨⟨_,Tz _ rfl,rfl,rfl⟩,g.stay fun o e=>S9 _ e⟩⟩
theorem Nt (lo:(d == U0)=false):MeetsIn P w (Builtin.«dict.__len__» ⟨[.ref d],[]⟩) (fun _ R s=>∃ es ep,RawD s.heap d es ep/\R (.ok (.ret (.int (es.size:Nat) s.toks))) { s with toks:=s.toks+1 }):=
 .of_wp fun A R s ⟨es,ep,⟨z,a,c,b⟩,q⟩=>by
  show TH _ _ (dictSize d >>= _) _ _ _
  unfold dictSize
  refine S3 (S3 (Wu a b (Tg ?_)))
  show TH _ _ (a3q d >>= _) _ _ _
  refine S3 (wpAny_pendingCount_other lo (wpAny_ret_mkInt ?_))
  rw [Ys];exact q
theorem Nu {Q:S4->S5->Prop}(lo:(d == U0)=false)(g:RawD s.heap d es ep)(hz:es.size<=Tj)(q:Q (.int (es.size:Nat) (s.toks+1)) { s with toks:=s.toks+1+1 }):TH (TK P w) A (call (.builtin "len") [.ref d]) Q E s:=
 a3i g.ty F.slot_dict_len (fun b a=>YD F.slot_dict_len g.ty F.entry_dict_len (F.args_dict_len_1 _) (Nt lo) ⟨es,ep,g,a⟩) (by omega) (by rw [TY] at hz;omega) q
end
theorem Du:∀ {ps:bK}{ws:List S4},Vals (ps.map (·.2.2)) ws->(bM ps ws).map (fun x=>To x.2.1)=ps.map fun p=>To p.2.1
 | [],_,_=>by simp [bM]
 | p::ps,_,.cons r t=>by
  have a:=Du (ps:=ps) t
  unfold bM at a ⊢
  rw [Us,Tr,Tr,a]
theorem Dv:∀ ps:bK,Vals (ps.map fun p=>V.ref p.2.1) (ps.map fun p=>To p.2.1)
 | []=>.nil
 | p::ps=>.cons rfl (Dv ps)
section
variable {X:Cx}{a3L:List (Addr×VC)}{σ:St}{H:Hp}{s:S5}{a:Addr}{ps:bK}
theorem l8 (I:Inv X a3L σ H s)(e:H a=some (bE a ps))(h:cN X.K H ps):(a == U0)=false/\ps.length<=Tj/\∃ es ep,RawD s.heap a es ep/\es.toList.map (·.key)=ps.map fun p=>To p.2.1:=by
 obtain ⟨j,i,l,r,z,es,ep,b,c,d,g,_⟩:=gX I (.of e) h
 refine ⟨j,i,es,ep,⟨z,b,c,d⟩,?_⟩
 rw [g,Ud,<- Du r]
 rfl
noncomputable def Dw (K:S1):List V->Hp->VK->Prop:=fun xs H Q=>∃ a ps,xs=[V.ref a]/\H a=some (bE a ps)/\cN K H ps/\Q (.int ps.length) H
theorem Nv:CallR X (.builtin "len") (Dw X.K):=by
 intro a3L s σ H p o Q I r h
 obtain ⟨a,ps,rfl,c,e,q⟩:=h
 obtain ⟨u,rfl,l⟩:=gK r
 cases l
 obtain ⟨j,n,b,m,g,d⟩:=l8 I c e
 have i:b.size=ps.length:=by
  have:=congrArg US d
  simpa using this
 refine Nu j g (by omega) ?_
 rw [i]
 exact ⟨.int ps.length,H,(I.tok _).tok _,⟨_,rfl⟩,q⟩
noncomputable def Dx (K:S1):List V->Hp->VK->Prop:=fun xs H Q=>∃ a ps,xs=[V.ref a]/\H a=some (bE a ps)/\cN K H ps/\∀ l,H l=none->Q (.ref l) (aN H l (.lst (ps.map fun p=>V.ref p.2.1)))
theorem Nw (hc:X.calm=true):CallR X (.type "list") (Dx X.K):=by
 intro a3L s σ H R O Q I r h
 obtain ⟨a,ps,rfl,y,z,q⟩:=h
 obtain ⟨u,rfl,G⟩:=gK r
 cases G
 obtain ⟨E,A,n,L,g,d⟩:=l8 I y z
 have N:n.size=ps.length:=by
  have:=congrArg US d
  simpa using this
 refine PySem.W.kdl_call (Dt E) (I.ok.hd hc) g (by omega) fun M K b l B x c=>?_
 refine ⟨.ref s.heap.objs.size,_,I.laid (t':=K) (a:=s.heap.objs.size) (o:=.lst (ps.map fun p=>V.ref p.2.1)) B (Th _) ?_,rfl,q _ (I.hok.fresh (Th _))⟩
 refine ⟨by rw [S6];exact A,b.toList,l,?_,by simpa using x⟩
 have m:b.toList=ps.map fun p=>To p.2.1:=by
  rw [<- d]
  refine VA fun i=>?_
  rw [TB,UY,UY]
  cases j:b[i]? with
  | some v=>
   obtain ⟨e,o,w⟩:=c.2 i v j
   rw [o,w];rfl
  | none=>
   have:b.size<=i:=by simpa using j
   rw [Yk (by rw [<- c.1];exact this)];rfl
 rw [m]
 exact Dv ps
end
section
variable {X:Cx}{a b o i e:Expr}{ma mb mo mi me:ME}{pos tpos:Vc}{k:Nat}
theorem Nx (m:Room k X.A)(g:QE X a ma)(j:QE X b mb)(h:lS b=true):QE X (.Subscript a b pos) (aB aJ ma mb):=
 kD (kD (m:=aB (fun x y d=>match nY x y d with|some r=>some r|none=>pN x y d) ma mb) (Nm m g j h) (Lc m g j h) (fB fun x y d r c=>by
  split at c
  ·rename_i z;rw [z];exact .inl c
  ·exact .inr c)) (Lb g j h) (fB fun x y d r c=>by
  unfold aJ at c
  split at c
  ·split at c
   ·rename_i l hc
    refine .inl ?_
    simp only [nY,pN,hc]
    exact c
   ·rename_i l hc
    refine .inl ?_
    simp only [nY,hc]
    rw [c]
   ·exact .inr c
  ·exact .inr c)
noncomputable def nZ (c:Bool):D->D->Hm->Option (D×Hm):=fun x y d=>match pZ c x y d with
 | some r=>some r
 | none=>nH c x y d
theorem sL {c:Bool}(x y:D)(d:Hm)(r:D×Hm)(h:nZ c x y d=some r):pZ c x y d=some r\/nH c x y d=some r:=by
 unfold nZ at h
 split at h
 ·rename_i z;rw [z];exact .inl h
 ·exact .inr h
theorem Dy {d:Bool}(x y:D)(l:Hm)(r:D×Hm)(h:b9 d x y l=some r):(∃ i j,x=.str i/\y=.str j)\/nZ d x y l=some r:=by
 cases y with
 | loc a=>
  refine .inr ?_
  have e:b9 d x (.loc a) l=(match l[a]? with
   | some (.dT g)=>(dA x).map fun k=>(D.bl (if d then !(cK g k).isSome else (cK g k).isSome),l)
   | _=>nH d x (.loc a) l):=by cases x<;>rfl
  rw [e] at h
  unfold nZ
  simp only [pZ]
  cases hc:l[a]? with
  | none=>rw [hc] at h;exact h
  | some c=>
   rw [hc] at h
   cases c with
   | dT g=>dsimp only at h ⊢;rw [h]
   | _=>exact h
 | str j=>
  cases x with
  | str i=>exact .inl ⟨i,j,rfl,rfl⟩
  | _=>exact .inr h
 | _=>cases x<;>exact .inr h
theorem Dz (x y:D)(c:Hm)(r:D×Hm)(h:b9 false x y c=some r):wF x y c=some r\/nZ false x y c=some r:=by
 rcases Dy x y c r h with ⟨i,j,rfl,rfl⟩|z
 ·exact .inl h
 ·exact .inr z
theorem DA (x y:D)(c:Hm)(r:D×Hm)(h:b9 true x y c=some r):wX x y c=some r\/nZ true x y c=some r:=by
 rcases Dy x y c r h with ⟨i,j,rfl,rfl⟩|z
 ·exact .inl h
 ·exact .inr z
theorem Ny (g:Room k X.A)(c:QE X a ma)(d:QE X b mb)(h:eF b=true):QE X (.Compare a [.In] [b] pos) (aB (b9 false) ma mb):=
 kD ⟨d6 AL B0 c.h d.h (f7 h)⟩ (kD ⟨d6 (Dp (e8 g)) sJ c.h d.h (f7 h)⟩ ⟨d6 (Cr (r9 g)) r6 c.h d.h (f7 h)⟩ (fB sL)) (fB Dz)
theorem Nz (g:Room k X.A)(c:QE X a ma)(d:QE X b mb)(h:eF b=true):QE X (.Compare a [.NotIn] [b] pos) (aB (b9 true) ma mb):=
 kD ⟨d6 Bf Cu c.h d.h (f7 h)⟩ (kD ⟨d6 (Dq (e8 g)) sJ c.h d.h (f7 h)⟩ ⟨d6 (Ct (r9 g)) r6 c.h d.h (f7 h)⟩ (fB sL)) (fB DA)
theorem NA (g:Room k X.A)(c:QE X a ma)(d:QE X b mb)(h:eF b=true):QT X (.Compare a [.In] [b] pos) (aW (aB (b9 false) ma mb)):=
 nD ⟨d7 AL B0 c.h d.h (f7 h)⟩ (nD ⟨d7 (Dp (e8 g)) sJ c.h d.h (f7 h)⟩ ⟨d7 (Cr (r9 g)) r6 c.h d.h (f7 h)⟩ (nE (fB sL))) (nE (fB Dz))
theorem NC (g:Room k X.A)(c:QE X a ma)(d:QE X b mb)(h:eF b=true):QT X (.Compare a [.NotIn] [b] pos) (aW (aB (b9 true) ma mb)):=
 nD ⟨d7 Bf Cu c.h d.h (f7 h)⟩ (nD ⟨d7 (Dq (e8 g)) sJ c.h d.h (f7 h)⟩ ⟨d7 (Ct (r9 g)) r6 c.h d.h (f7 h)⟩ (nE (fB sL))) (nE (fB DA))
theorem ND (j:Room k X.A)(g:QE X o mo)(d:QE X i mi)(c:QE X e me)(h:jH e=true):QS X (.Assign [.Subscript o i tpos] e pos) (dX mo mi me):=Nq j g d c h
end
end L3
namespace L3
open PySem L2
end L3
namespace L3
open PySem L2
section
variable {P:TC}{w:T7}{A:TR}{E:S4->S5->Prop}{s:S5}{a:Addr}
theorem NF:a2d (.type "tuple") "keys" = pure none:=by rw [typeLookup_type,builtinLookup_eq_fast];kernel_rfl
theorem NG {o:VC}{xs:Array S4}{k:Nat}{Q:Option S4->S5->Prop}(g:s.heap.get? a=some o)(j:o.cls=.type "tuple") (l:o.data=.seq xs k)(m:o.dict=none)(y:A.handled=none)
  (q:∀ h n,(∀ b u,s.heap.get? b=some u->h.get? b=some u)->Q none { s with heap:=h,toks:=n }):TH (TK P w) A (getAttr? (.ref a) "keys") Q E s:=by
 obtain ⟨c,r,p,G⟩:=o
 dsimp only at j l m
 subst j l m
 obtain ⟨z,x,v,n,B⟩:=s
 have ty:∀ d,(⟨z,x,v,d,B⟩:S5).TypeIs (.ref a) "tuple":=fun _=>⟨_,g,rfl⟩
 have H:=sub_AttributeError
 have I:=F.slot_tuple_getattribute.lookup
 have K:=F.slot_tuple_getattribute.bind (.ref a)
 have L:=am_tuple_getattr_none
 unfold getAttr? getAttrBy? getAttrBy
 repeat (any_goals (first|assumption|exact ty _|((with_reducible show TH _ _ (call (a1Y "tuple.__getattribute__") _ _) _ _ _);refine W4 F.slot_tuple_getattribute (ty _) am_entry_tuple_getattribute (F.args_tuple_getattribute_2 _ _) (meets_getattribute_miss_tuple a xs k G "keys" _ NF (by decide +kernel)) ⟨g,y,fun h d e ne=>?_⟩)|wp_step))
 obtain ⟨M,N,i⟩:=ne.there
 show TH _ _ (a2g _ _ _ _ none false false) _ _ _
 unfold a2g
 repeat (any_goals (first|assumption|wp_step))
 exact q _ _ ne.of.keeps
end
theorem DB:entryFor table "dict.update.loop" = some Builtin.«dict.update.loop»:=entryFor_of_tree (by kernel_rfl)
theorem sM:plainId "dict.update.loop" = true:=by decide +kernel
noncomputable def mB (ps:bK):List (Addr×List Int×Addr×V)->bK
 | []=>ps
 | r::L=>mB (dS ps r.2.1 r.2.2.1 r.2.2.2) L
section
variable {X:Cx}{a3L:List (Addr×VC)}{σ:St}{A:TR}{E:S4->S5->Prop}{d:Addr}
theorem DC {H:Hp}{s:S5}{b:Addr}{k:List Int}{v:V}{u:S4}{ps:bK}{Q:Unit->S5->Prop}(z:A.units<Vg)(I:Inv X a3L σ H s)(e:H d=some (bE d ps))(w:cN X.K H ps)(n:SqT X.K H b (k.map V.int))(hz:ps.length<Tj)(K:RelV v u)
  (h:∀ i,Inv X a3L σ (aN H d (bE d (dS ps k b v))) i->(∀ c o,c≠d->s.heap.get? c=some o->i.heap.get? c=some o)->Q () i):TH (TK X.prog X.w) A (dictSet d (.ref b) u) Q E s:=by
 obtain ⟨y,N,L,r,j⟩:=gX I (.of e) w
 have B:(bM ps L).length<=Tj:=by
  have:=congrArg US (lY r)
  rw [S6,S6] at this
  omega
 refine wpAny_dictSet_heap (hsz:=B) (show (WD (X4 X.prog X.w)).room A from z) (kJ I n) j fun m g a=>h _ ?_ fun c o hc e=>a.extBut c o hc e
 obtain ⟨M,G,l⟩:=Dl r k b K
 rw [l] at g
 have p:∃ q,m.get? d=some q:=let ⟨q,_,_,x,_⟩:=g;⟨q,x⟩
 exact vE I (by rw [e];exact V8) a p (xJ y (by have:=xI ps k b v;omega) G g)
end
theorem qA {K:S1}{H:Hp}{d b:Addr}{o:HO}{ps:bK}{vs:List V}(e:H d=some (bE d ps))(h:SqT K H b vs):SqT K (aN H d o) b vs:=by
 have ne:∀ {u},H b=some u->(∀ c,u≠bE d c)->b≠d:=fun z f y=>by
  rw [y,e] at z
  cases z
  exact f ps rfl
 rcases h with (h|⟨a,h⟩)|h
 ·exact .inl (.inl (by rw [bS (ne h fun _ z=>by cases z)];exact h))
 ·exact .inl (.inr ⟨a,by rw [bS (ne h fun _ z=>by cases z)];exact h⟩)
 ·exact .inr h
theorem NH {K:S1}{H:Hp}{ps:bK}{k:List Int}{b:Addr}{v:V}(h:cN K H ps)(g:SqT K H b (k.map V.int)):cN K H (dS ps k b v):=by
 intro p a
 unfold dS at a
 split at a
 ·obtain ⟨d,c,e⟩:=TQ.mp a
  by_cases z:d.1=k
  ·rw [if_pos z] at e
   subst e
   exact h d c
  ·rw [if_neg z] at e
   subst e
   exact h d c
 ·rcases TU.mp a with a|a
  ·exact h p a
  ·rw [TN.mp a]
   exact g
theorem DD {H:Hp}{d:Addr}{o a:HO}:aN (aN H d o) d a=aN H d a:=by
 funext b
 unfold aN
 split
 ·rfl
 ·rfl
theorem NI {P:TC}{w:T7}{A:TR}{E:S4->S5->Prop}{s:S5}{p:Addr}{xs:Array S4}{Q:List S4->S5->Prop}(h:a2z s.heap p xs)(q:Q xs.toList s):TH (TK P w) A (Ze (.ref p)) Q E s:=by
 obtain ⟨o,g,c,n,a⟩:=h
 have ty:s.TypeIs (.ref p) "tuple":=⟨o,g,c⟩
 unfold Ze
 refine S3 (a0W ty ?_)
 rw [if_pos (by decide)]
 unfold seqItems?
 refine S3 (S3 (a0g g ?_))
 rw [a]
 exact Tg (Tg q)
section
variable {X:Cx}{a3L:List (Addr×VC)}{σ:St}{A:TR}{d t it:Addr}{ys:List V}{R:a1i->S5->Prop}
theorem NJ (hh:A.handled=none)(hu:A.in1.units<Vg):∀ (L:List (Addr×List Int×Addr×V))(i:Nat)(ps:bK)(H:Hp)(s:S5),Inv X a3L σ H s->H d=some (bE d ps)->cN X.K H ps->SqT X.K H t ys->ys.drop i=L.map (fun r=>V.ref r.1)->
  (∀ r∈L,SqT X.K H r.1 [.ref r.2.2.1,r.2.2.2]/\SqT X.K H r.2.2.1 (r.2.1.map V.int))->gJ X a3L H it->s.heap.IsTupleIter it t i->ps.length+L.length<=Tj->
  (∀ G,Inv X a3L σ (aN H d (bE d (mB ps L))) G->R (.ok (.ret .none)) G)->Yl (TK X.prog X.w) A (.builtin "dict.update.loop" ⟨[.ref d,.ref it,WO i,.none],[]⟩) R s:=by
 intro L
 induction L with
 | nil=>
  intro i ps H s I e Q y hd B O st U q
  obtain ⟨g,rv,p,Y⟩:=I.tuple y
  obtain ⟨j,m,f2,n,v,w⟩:=O
  have hl:=rv.length
  have hlen:ys.length<=i:=by
   have:=congrArg US hd
   simp at this
   omega
  refine WZ DB ?_
  rw [VZ sM _]
  show TH _ A.in1 (Yo (.ref it) >>= _) _ _ s
  refine S3 (a0X hh st (show s.heap.IsTuple t g.toArray from p) (by simp;omega) fun K eb=>?_)
  have l:Inv X a3L σ H { s with heap:=K }:=I.turned (t':=s.toks) (fun b o M e=>eb b o M e) j m n v w
  show TH _ _ (a3s d [] >>= _) _ _ _
  refine S3 (Tg (Tg (q _ ?_)))
  have:aN H d (bE d (mB ps []))=H:=by
   funext b
   unfold aN
   split
   ·rename_i z;rw [z];exact e.symm
   ·rfl
  rw [this]
  exact l
 | cons r L ih=>
  intro i ps H s I e Q y hd B O st U q
  obtain ⟨g,rv,p,Y⟩:=I.tuple y
  obtain ⟨j,m,f2,n,v,w⟩:=id O
  have E:ys[i]? = some (.ref r.1):=by
   have:=congrArg (·[0]?) hd
   simpa using this
  obtain ⟨u,e8,ru⟩:=rv.get E
  cases ru
  refine WZ DB ?_
  rw [VZ sM _]
  show TH _ A.in1 (Yo (.ref it) >>= _) _ _ s
  refine S3 (a0N st (show s.heap.IsTuple t g.toArray from p) (x:=.ref r.1) (by simpa using e8) fun K st' sb=>?_)
  have l:Inv X a3L σ H { s with heap:=K }:=I.turned (t':=s.toks) (fun b o M e=>(sb.2 b M).trans e) j m n v w
  have a:=B r (Tt ..)
  obtain ⟨its2,rv2,p2,_⟩:=l.tuple a.1
  cases rv2 with
  | cons rk Z=>
   cases Z with
   | cons rw' Z=>
    cases Z
    cases rk
    rename_i w0
    refine S3 (UB (S3 (wpAny_tryCatch (NI p2 ?_))))
    have T:ps.length<Tj:=by
     rw [TF] at U
     omega
    refine UB (DC hu l e Q a.2 T rw' fun G I2 kp=>?_)
    refine Tg ⟨XN sM _,?_⟩
    have bI:it≠d:=fun z=>by
     rw [<- z,j] at e
     cases e
    have c:∀ x∈L,SqT X.K (aN H d (bE d (dS ps r.2.1 r.2.2.1 r.2.2.2))) x.1 [.ref x.2.2.1,x.2.2.2]/\SqT X.K (aN H d (bE d (dS ps r.2.1 r.2.2.1 r.2.2.2))) x.2.2.1 (x.2.1.map V.int):=fun x E=>
     ⟨qA e (B x (Tw _ E)).1,qA e (B x (Tw _ E)).2⟩
    have N:ys.drop (i+1)=L.map (fun r=>V.ref r.1):=by
     have:=congrArg List.tail hd
     simpa [List.tail_drop] using this
    refine ih (i+1) (dS ps r.2.1 r.2.2.1 r.2.2.2) _ G I2 cV (NH (fun p hp=>qA e (Q p hp)) (qA e a.2)) (qA e y) N c ⟨by rw [bS bI];exact j,m,f2,n,v,w⟩ (st'.at fun o ho=>kp it o bI ho) ?_ fun s'' h=>q s'' ?_
    ·have:=xI ps r.2.1 r.2.2.1 r.2.2.2
     rw [TF] at U
     omega
    ·rw [DD] at h
     exact h
end
section
variable {X:Cx}
noncomputable def DE (K:S1):List V->Hp->VK->Prop:=fun xs H Q=>∃ (t:Addr)(L:List (Addr×List Int×Addr×V)),xs=[V.ref t]/\SqT K H t (L.map fun r=>V.ref r.1) /\
 (∀ r∈L,SqT K H r.1 [.ref r.2.2.1,r.2.2.2]/\SqT K H r.2.2.1 (r.2.1.map V.int))/\∀ d,H d=none->Q (.ref d) (aN H d (bE d (mB [] L)))
theorem NK (hc:X.calm=true)(Y:X.A.units+64<Vg):CallR X (.type "dict") (DE X.K):=by
 intro d s N H xs us Q I r h
 obtain ⟨t,L,rfl,v,M,k⟩:=h
 obtain ⟨u,rfl,ru⟩:=gK r
 cases ru
 have K:H s.heap.objs.size=none:=I.hok.fresh (Th _)
 refine a3F (Q₁:=fun i c=>i=.ref s.heap.objs.size/\c = { s with heap:=s.heap.push { cls:=.type "dict",data:=.dict #[] } }) F.kt_called_dict (F.kt_typeCall_dict_1 _) F.entry_dict_init (kt_code_dict_new _ ⟨rfl,rfl⟩) ?_
 rintro i c ⟨rfl,rfl⟩
 have B:Inv X d N (aN H s.heap.objs.size (bE s.heap.objs.size [])) { s with heap:=s.heap.push { cls:=.type "dict",data:=.dict #[] } }:=I.laid (a:=s.heap.objs.size) (o:=bE s.heap.objs.size []) (t':=s.toks) (fun _ _ q=>S9 _ q) (Th _) (xK s.heap I.big)
 have ty:({ s with heap:=s.heap.push { cls:=.type "dict",data:=.dict #[] } }:S5).TypeIs (.ref s.heap.objs.size) "dict":=⟨_,Tz _ rfl,rfl⟩
 refine ⟨ty,F.args_dict_init_2 _ _,?_⟩
 unfold Builtin.«dict.__init__»
 refine S3 ?_
 unfold a3p
 refine S3 (XB ty ?_)
 show TH _ _ (pure (s.heap.objs.size,[To t])) _ _ _
 refine Tg ?_
 show TH _ _ (Y9 "dict.__init__" s.heap.objs.size (.ref t) [] .none) _ _ _
 unfold Y9
 have mono:∀ {b:Addr}{vs:List V},SqT X.K H b vs->SqT X.K (aN H s.heap.objs.size (bE s.heap.objs.size [])) b vs:=fun {b vs} z=>by
  have ne:H b≠none->b≠s.heap.objs.size:=fun f y=>by rw [y] at f;exact f K
  rcases z with (z|⟨x,z⟩)|z
  ·exact .inl (.inl (by rw [bS (ne (by rw [z];exact fun y=>nomatch y))];exact z))
  ·exact .inl (.inr ⟨x,by rw [bS (ne (by rw [z];exact fun y=>nomatch y))];exact z⟩)
  ·exact .inr z
 obtain ⟨Z,rv,x,E,G,n,R,T⟩:=B.tupN (mono v)
 refine S3 (a0W ⟨x,E,G⟩ ?_)
 rw [if_pos (by decide)]
 refine S3 (NG E G R T (I.ok.hd hc) fun m l kp=>?_)
 have j:Inv X d N (aN H s.heap.objs.size (bE s.heap.objs.size [])) { s with heap:=m,toks:=l }:=B.kept (t':=l) kp
 show TH _ _ (rule _ >>= _) _ _ _
 refine S3 (W3 ?_)
 obtain ⟨a,rv',p',w⟩:=j.tuple (mono v)
 refine S3 (a2a (t:=t) (items:=a.toArray) (show ({ s with heap:=m,toks:=l }:S5).heap.IsTuple t a.toArray from p') ?_)
 have O:=j.kept (t':=l) (h':=m.push { cls:=.type "tuple_iterator",data:=.fields #[.ref t,.int 0 0] }) fun b o e=>S9 _ e
 refine Tg ⟨XN sM _,?_⟩
 refine NJ (A:=X.A.in1) (I.ok.hd hc) ?_ L 0 [] _ _ O cV (fun p U=>nomatch U) (mono v) rfl (fun r g=>⟨mono (M r g).1,mono (M r g).2⟩) (j.fpOk (Th _) (j.hok.fresh (Th _))) ⟨_,Tz _ rfl,rfl,rfl⟩ ?_ fun s' A=>?_
 ·show X.A.units+1+1<Vg
  omega
 ·have:=w
  simp at this ⊢
  exact this
 ·rw [DD] at A
  exact ⟨rfl,.ref s.heap.objs.size,_,A,rfl,k _ K⟩
end
noncomputable def n5:List D->Option (List (List Int×D))
 | []=>some []
 | .tup [x,v]::r=>(dA x).bind fun k=>(n5 r).map fun l=>(k,v)::l
 | _::_=>none
noncomputable def mD:MF:=fun ds a=>match ds with
 | [.tup xs]=>(n5 xs).map fun l=>(.loc a.length,a++[.dT (l.foldl (fun q p=>eB q p.1 p.2) [])])
 | _=>none
section
variable {K:S1}{π:Nat->Addr}{n:Nat}{H:Hp}
noncomputable abbrev DF (K:S1)(π:Nat->Addr)(n:Nat)(H:Hp):List (Addr×List Int×Addr×V)->List (List Int×D)->Prop:=
 Vr fun r p=>r.2.1=p.1/\SqT K H r.1 [.ref r.2.2.1,r.2.2.2]/\SqT K H r.2.2.1 (r.2.1.map V.int)/\IsD K π n H r.2.2.2 p.2
theorem DG:∀ {xs:List D}{ws:List V}{l:List (List Int×D)},IsDs K π n H ws xs->n5 xs=some l->∃ L,ws=L.map (fun r=>V.ref r.1)/\DF K π n H L l
 | [],_,_,.nil,h=>by cases h;exact ⟨[],rfl,.nil⟩
 | x::xs,_,l,.cons i t,h=>by
  unfold n5 at h
  split at h
  ·rename_i a;cases a
  ·rename_i y v r a
   cases a
   obtain ⟨k,d,h⟩:=S0.mp h
   obtain ⟨m,e,rfl⟩:=S8.mp h
   obtain ⟨L,rfl,P⟩:=DG t e
   cases i with
   | tup q z=>
    cases z with
    | cons g z=>
     cases z with
     | cons j z=>
      cases z
      obtain ⟨b,rfl,c⟩:=nX g d
      exact ⟨(_,k,b,_)::L,rfl,.cons ⟨rfl,q,c,j⟩ P⟩
  ·cases h
theorem DH:∀ {L:List (Addr×List Int×Addr×V)}{l:List (List Int×D)},DF K π n H L l->∀ {ps:bK}{kvs:List (List Int×D)},IsTs K π n H ps kvs->IsTs K π n H (mB ps L) (l.foldl (fun q p=>eB q p.1 p.2) kvs)
 | _,_,.nil,_,_,h=>h
 | r::L,p::l,.cons e t,ps,kvs,h=>by
  obtain ⟨a,_,b,c⟩:=e
  show IsTs K π n H (mB (dS ps r.2.1 r.2.2.1 r.2.2.2) L) (l.foldl _ (eB kvs p.1 p.2))
  rw [<- a]
  exact DH t (h.put r.2.1 b c)
end
theorem NL {K:S1}:d8 K mD (DE K):=by
 intro w H v n d o u Q R i a k
 unfold mD at a
 split at a
 ·rename_i n
  obtain ⟨l,c,j⟩:=S8.mp a
  cases j
  cases i with
  | cons i t=>
   cases t
   cases i with
   | tup q z=>
    obtain ⟨L,rfl,P⟩:=DG z c
    refine ⟨_,L,rfl,q,?_,fun d hd=>?_⟩
    ·clear q z k a c
     induction P with
     | nil=>exact fun r b=>nomatch b
     | cons e t m=>
      intro r b
      rcases T5.mp b with rfl|b
      ·exact ⟨e.2.1,e.2.2.1⟩
      ·exact m r b
    ·have T:=DH P (ps:=[]) (kvs:=[]) .nil
     obtain ⟨h,g,s⟩:=R.alloc (c:=.dT (l.foldl (fun q p=>eB q p.1 p.2) [])) (o:=bE d (mB [] L)) hd ⟨_,rfl,T.to.1,T.to.2.1,T.to.2.2⟩
     exact k _ _ _ h g gQ
 ·cases a
end L3
namespace L3
open PySem L2
noncomputable def ItI (h:UA)(c d S:Addr)(i n ep:Nat):Prop:=∃ (b ok g:S4)(e:Bool),h.get? c=some { cls:=.type "dict_itemiterator",dict:=none,data:=.fields #[b,.bool e,.ref d,.int i 0,.int n 0,.int ep 0,ok,g],slots:=#[] } /\
 (b=.none\/∃ (a:Addr)(o:VC),b=WO a/\h.get? a=some o/\a≠c/\a≠S)
theorem ItI.ty {s:S5}{a d S:Addr} {i n ep} (j:ItI s.heap a d S i n ep):s.TypeIs (.ref a) "dict_itemiterator":=let ⟨_,_,_,_,e,_⟩:=j;⟨_,e,rfl⟩
theorem ItI.stay {h h':UA}{c d S:Addr} {i n ep} (j:ItI h c d S i n ep)(m:c≠S)(k:∀ b o,b≠S->h.get? b=some o->h'.get? b=some o):ItI h' c d S i n ep:=by
 obtain ⟨v,ok,p,l,e,r⟩:=j
 refine ⟨v,ok,p,l,k _ _ m e,?_⟩
 rcases r with r|⟨a,o,q,s,u,g⟩
 ·exact .inl r
 ·exact .inr ⟨a,o,q,k _ _ g s,u,g⟩
section
variable {P:TC}{w:T7}{A:TR}{E:S4->S5->Prop}{s:S5}{d it S:Addr}{i ep:Nat}{es:Array UD}
theorem DI {Q:Option S4->S5->Prop}(hh:A.handled=none)(j:ItI s.heap it d S i es.size ep)(g:RawD s.heap d es ep)(hS:S<s.heap.objs.size)
  (q1:∀ e m,es[i]? = some e->ItI m it d S (i+1) es.size ep->m.get? s.heap.objs.size=some { cls:=.type "tuple",data:=.seq #[e.key,e.val] }->m.objs.size=s.heap.objs.size+1->(∀ b o,b≠it->s.heap.get? b=some o->m.get? b=some o)->Q (some (.ref s.heap.objs.size)) { s with heap:=m })
  (q2:es[i]? = none->∀ m,Zj it s.heap m->Q none { s with heap:=m }):TH (TK P w) A (Yo (.ref it)) Q E s:=by
 obtain ⟨z,g1,g2,g3⟩:=id g
 have ty:=j.ty
 obtain ⟨h,y,r,G,B⟩:=s
 obtain ⟨wn,ok,N,T,M,jr⟩:=j
 have X:∀ {Q:String->S5->Prop}{A:TR}{E:S4->S5->Prop},Q "dict_itemiterator" ⟨h,y,r,G,B⟩->TH (TK P w) A (a2U (.ref it)) Q E ⟨h,y,r,G,B⟩:=fun q=>wpAny_typeNameOfWhole_itemiter ty q
 unfold Yo
 refine S3 (a0B (a0O (name:=Yp "__next__") ty F.slot_dict_itemiterator_next (U9 F.slot_dict_itemiterator_next ty F.entry_dict_itemiterator_next ?_ (F.args_dict_itemiterator_next_1 _))))
 refine S3 (Tg (S3 (S3 (S3 (X (Tg (S3 (a3u M rfl ?_))))))))
 simp only [show VY "dict_itemiterator" = true by decide,if_true]
 show TH _ _ (if (To d == UT)=true then _ else _) _ _ _
 rw [if_neg (show ¬ (To d == UT)=true from fun x=>Uc x)]
 refine S3 (Tg (S3 (Wu g1 g3 ?_)))
 rw [if_neg (fun x=>by simp at x)]
 refine S3 (Tg (S3 (XW g1 g3 ?_)))
 rw [if_neg (fun x=>by simp at x)]
 refine Tg ?_
 simp only [if_neg (show ¬ ((i:Int)<0) by omega),V0]
 have U:it<h.objs.size:=Tp M
 cases he:es[i]? with
 | some e=>
  refine S3 (S3 (X (Tg (S3 (YB ty ?_)))))
  show TH _ _ (a1K (.ref it) 3 (WO ((i:Int)+1)) >>= _) _ _ _
  refine S3 (Wg M (by simp) fun u O R=>?_)
  replace R:W2 it h u:=R
  replace O:u.get? it=some { cls:=.type "dict_itemiterator",dict:=none,data:=.fields #[wn,.bool T,.ref d,.int ((i+1:Nat):Int) 0,.int es.size 0,.int ep 0,ok,N],slots:=#[] }:=by
   rw [show ((i+1:Nat):Int)=(i:Int)+1 by omega]
   simpa [WO] using O
  have H:Shared.TypeIs ⟨u,y,r,G,B⟩ (.ref it) "dict_itemiterator":=⟨_,O,rfl⟩
  refine S3 (UB (S3 (YB H (S3 (YB H ?_)))))
  show TH _ _ (Yc (.ref it) 6 e.key e.val) _ _ _
  unfold Yc
  refine S3 (a0f ?_)
  have zu:u.objs.size=h.objs.size:=R.1
  have l:=S9 { cls:=.type "tuple",data:=.seq #[e.key,e.val] } O
  have vt:(u.push { cls:=.type "tuple",data:=.seq #[e.key,e.val] }).get? h.objs.size=some { cls:=.type "tuple",data:=.seq #[e.key,e.val] }:=zu ▸ Tz u rfl
  have vz:(u.push { cls:=.type "tuple",data:=.seq #[e.key,e.val] }).objs.size=h.objs.size+1:=by rw [XU,zu]
  have I:∀ b o,b≠it->h.get? b=some o->(u.push { cls:=.type "tuple",data:=.seq #[e.key,e.val] }).get? b=some o:=fun b o L x=>S9 _ (R.extBut b o L x)
  show TH _ _ (X0 (.ref it) >>= _) _ _ ⟨u.push { cls:=.type "tuple",data:=.seq #[e.key,e.val] },y,r,G,B⟩
  rw [zu]
  generalize u.push { cls:=.type "tuple",data:=.seq #[e.key,e.val] } = v at l vt vz I
  have c:h.objs.size≠it:=Vi U
  have fin:∀ p:UA,ItI p it d S (i+1) es.size ep->W2 it v p->Q (some (.ref h.objs.size)) ⟨p,y,r,G,B⟩:=fun p j' Z=>
   q1 e p he j' (Z.extBut _ _ c vt) (by show p.objs.size=_;rw [Z.1,vz]) fun b o L x=>Z.extBut b o L (I b o L x)
  refine S3 ?_
  unfold X0
  rcases jr with rfl|⟨a,o,rfl,Y,n,r4⟩
  ·refine S3 (XQ l rfl (x:=.none) rfl (Tg ?_))
   simp only [if_true]
   refine S3 (XQ l rfl (x:=ok) rfl (S3 (XQ l rfl (x:=N) rfl ?_)))
   refine S3 (Wg l (by simp) fun v3 x3 K=>S3 (Wg x3 (by simp) fun v4 x4 y4=>S3 (Wg x4 (by simp) fun v5 x5 y5=>S3 (Wg x5 (by simp) fun v6 x6 y6=>?_))))
   refine S3 (wpAny_letGo (Tg (Tg ⟨_,rfl,Tg (fin v6 ?_ ?_)⟩)))
   ·refine ⟨WO h.objs.size,e.key,e.val,false,by simpa using x6,.inr ⟨h.objs.size,_,rfl,y6.extBut _ _ c (y5.extBut _ _ c (y4.extBut _ _ c (K.extBut _ _ c vt))),c,Vi hS⟩⟩
   ·exact ((K.trans y4).trans y5).trans y6
  ·refine S3 (XQ l rfl (x:=WO a) rfl ?_)
   show TH _ _ (loadIfAlive ((a:Int).toNat) >>= _) _ _ _
   rw [V0]
   refine S3 (PySem.W.kdx_alive (I a o n Y) ?_)
   simp only [Option.isNone_some,Te,if_false]
   refine S3 (XQ l rfl (x:=.bool T) rfl ?_)
   cases T with
   | true=>
    rw [if_neg (show ¬ ((Xd true != Xd true)=true) from fun x=>Uc x)]
    refine Tg ?_
    simp only [Te,if_false]
    exact Tg (Tg ⟨_,rfl,Tg (fin v ⟨_,ok,N,true,l,.inr ⟨a,o,rfl,I a o n Y,n,r4⟩⟩ (ZX _ _))⟩)
   | false=>
    rw [if_pos (show (Xd false != Xd true)=true from rfl)]
    refine S3 (Wg l (by simp) fun v3 x3 K=>Tg ?_)
    simp only [Te,if_false]
    exact Tg (Tg ⟨_,rfl,Tg (fin v3 ⟨_,ok,N,true,by simpa using x3,.inr ⟨a,o,rfl,K.extBut a o n (I a o n Y),n,r4⟩⟩ K)⟩)
 | none=>
  refine S3 (S3 (X (Tg ?_)))
  show TH _ _ (a1K (.ref it) 2 .none >>= _) _ _ _
  refine S3 (a0e M rfl (by simp) ?_)
  show TH _ _ (a3A (.type "StopIteration") [] >>= _) _ _ _
  simp only [a3A,newTuple]
  refine S3 (S3 (U1 ?_ (by size_fits)))
  refine S3 (m:=YU _ _) (wpAny_of_eq (a:=UT) (by first|rfl|(simp only [YU];rfl)) (U1 ?_ (by size_fits)))
  simp only [raiseNew]
  refine S3 (wpAny_handled ?_)
  rw [show A.in1.handled=none from hh]
  refine S3 (Tg (wpAny_throw ?thrown))
  case thrown=>exact S3 (a2B (T:="StopIteration") (b:=true) ⟨_,Tz _ rfl,rfl⟩ a3E (Tg (q2 he _ (((Yh ..).extBut.push _).push _))))
theorem NM {r:Addr}{Q:S4->S5->Prop}(a:s.heap.IsItemsView r d)(g:RawD s.heap d es ep)
  (q:Q (.ref s.heap.objs.size) { s with heap:=s.heap.push { cls:=.type "dict_itemiterator",data:=.fields #[.none,.bool false,.ref d,.int 0 0,.int es.size 0,.int ep 0,.none,.none] } }):TH (TK P w) A (ZQ (.ref r)) Q E s:=by
 obtain ⟨y,e,l,h⟩:=id a
 obtain ⟨z,b,j,c⟩:=id g
 refine Zr a.typeIs F.slot_dict_items_iter (U9 F.slot_dict_items_iter a.typeIs F.entry_dict_items_iter ?_ (F.args_dict_items_iter_1 _))
 unfold Builtin.«dict_items.__iter__» Yz Yi
 refine S3 (Tg (S3 (S3 (XQ e h (x:=.ref d) rfl (Tg (S3 (S3 (Wu b c (S3 (XW b c ?_))))))))))
 simp only [show VY "dict_itemiterator" = true by decide,if_true]
 refine U1 (Tg ⟨_,rfl,"dict_itemiterator",_,⟨_,Tz _ rfl,rfl⟩,F.slot_dict_itemiterator_next.lookup,?_⟩) (by simp only [sizeOk,X1,Ta,Td,TF,Vh];rw [TY];omega)
 simpa [WO,X1] using q
end
structure PrsAt (es:Array UD)(lo:Addr)(h:UA)(as:List Addr):Prop where
 up:as.Pairwise (·<·)
 over:∀ a∈as,lo<a
 prs:∀ (j:Nat)(a:Addr),as[j]? = some a->∃ e,es[j]? = some e/\h.get? a=some { cls:=.type "tuple",data:=.seq #[e.key,e.val] }
theorem PrsAt.stay {es:Array UD}{lo:Addr}{h h':UA}{as:List Addr}(p:PrsAt es lo h as)(k:∀ b o,lo<b->h.get? b=some o->h'.get? b=some o):PrsAt es lo h' as:=
 ⟨p.up,p.over,fun j a c=>let ⟨e,d,g⟩:=p.prs j a c;⟨e,d,k a _ (p.over a (Ts c)) g⟩⟩
theorem PrsAt.lt {es:Array UD}{lo:Addr}{h:UA}{as:List Addr}(p:PrsAt es lo h as){a:Addr}(b:a∈as):a<h.objs.size:=by
 obtain ⟨j,c⟩:=VS.mp b
 obtain ⟨_,_,e⟩:=p.prs j a c
 exact Tp e
theorem PrsAt.snoc {es:Array UD}{lo:Addr}{h:UA}{as:List Addr}{b:Addr}{e:UD}(p:PrsAt es lo h as)(l:∀ a∈as,a<b)(n:lo<b)(m:es[as.length]? = some e)(o:h.get? b=some { cls:=.type "tuple",data:=.seq #[e.key,e.val] }):PrsAt es lo h (as++[b]):=by
 refine ⟨U4.mpr ⟨p.up,Z8 _ _,fun a d c hc=>by rw [TN.mp hc];exact l a d⟩,fun a d=>?_,fun j a g=>?_⟩
 ·rcases TU.mp d with d|d
  ·exact p.over a d
  ·rw [TN.mp d];exact n
 ·rcases W7 j as.length with i|i|i
  ·rw [Tq i] at g
   exact p.prs j a g
  ·subst i
   have:b=a:=by simpa using g
   subst this
   exact ⟨e,m,o⟩
  ·rw [Up (by simp;omega)] at g
   cases g
section
variable {P:TC}{w:T7}{A:TR}{s:S5}{R:a1i->S5->Prop}{es:Array UD}{ep:Nat}{S I d:Addr}
theorem NN (T:A.handled=none)(y:S<I)(L:d≠S)(K:d≠I)(hn:es.size<=Tj)(res:S4){h1:UA}
  (U:∀ (h':UA)(tk:Nat)(l:Array S4)(c:Nat)(as:List Addr),(∀ b o,b≠S->b≠I->h1.get? b=some o->h'.get? b=some o)->h'.get? S=some { cls:=.type "list",dict:=none,data:=.seq l c,slots:=#[] }->as.length=es.size->PrsAt es I h' as->l.toList=as.map To->R (.ok (.ret res)) { s with heap:=h',toks:=tk }) :
  ∀ (k i:Nat)(h:UA)(tk c:Nat)(l:Array S4)(as:List Addr),es.size - i=k->i<=es.size->ItI h I d S i es.size ep->RawD h d es ep->(∀ b o,b≠S->b≠I->h1.get? b=some o->h.get? b=some o)->h.get? S=some { cls:=.type "list",dict:=none,data:=.seq l c,slots:=#[] }->
   l.toList=as.map To->as.length=i->PrsAt es I h as->I<h.objs.size->Yl (TK P w) A (.builtin "list.extend.loop" ⟨[.ref S,.ref I,res],[]⟩) R { s with heap:=h,toks:=tk }:=by
 have ne:S≠I:=TJ y
 intro k
 induction k with
 | zero=>
  intro i h tk c l as Y X j g O p G B H lt
  refine WZ F.entry_extend_loop ?_
  rw [VZ F.plain_extend_loop _]
  refine S3 (m:=Yo (.ref I)) (DI (s:={ s with heap:=h,toks:=tk }) (A:=A.in1) T j g (Tp p) (fun e h' n=>?_) fun _ h' x=>Tg (U h' tk l c as (fun b o E u z=>x b o u (O b o E u z)) (x S _ ne p) (by omega) (H.stay fun b o q z=>x b o (Vi q) z) G))
  rw [Yk (by omega)] at n
  cases n
 | succ k ih=>
  intro i h tk c l as Y X j g O p G B H lt
  have sz:l.size=i:=by rw [<- WA,G,S6,B]
  refine WZ F.entry_extend_loop ?_
  rw [VZ F.plain_extend_loop _]
  refine S3 (m:=Yo (.ref I)) (DI (s:={ s with heap:=h,toks:=tk }) (A:=A.in1) T j g (Tp p) (fun e h' n j' N Z m=>?_) fun n=>?_)
  ·dsimp only at N Z m ⊢
   have v:=m S _ ne p
   have Q:S<h.objs.size:=Tp p
   have r:∀ b o,b≠S->h'.get? b=some o->(h'.update S (UQ (·.push (To h.objs.size)))).get? b=some o:=fun b o q z=>(Vp _ _ (U6 q)).trans z
   refine S3 (m:=a2D S (·.push (To h.objs.size))) (YG v rfl (Tg ⟨XN F.plain_extend_loop _,?_⟩) (by rw [sz];omega) (by show (l.push (To h.objs.size)).size<=Tj+1;rw [Array.size_push,sz];omega))
   refine ih (i+1) _ tk _ (l.push (To h.objs.size)) (as++[h.objs.size]) (by omega) (by omega) (j'.stay (U6 ne) r) (g.stay fun o z=>r d o L (m d o K z)) (fun b o E u z=>r b o E (m b o u (O b o E u z))) (Wf _ v rfl) (by rw [U8,G,UW];rfl) (by rw [Td,B];rfl) ?_ ?_
   ·exact ((H.stay fun b o q z=>r b o (Vi (W8 y q)) (m b o (Vi q) z))).snoc (fun a M=>H.lt M) lt (by rw [B];exact n) (r _ _ (Vi Q) N)
   ·exact W8 lt (Tp (r _ _ (Vi Q) N))
  ·rw [ZP (by omega)] at n
   cases n
theorem DJ {r:Addr}{res:S4}{c0:Nat}(L:A.handled=none)(u:s.heap.IsItemsView r d)(g:RawD s.heap d es ep)(Sr:S≠r)(z:d≠S)(E:s.heap.get? S=some { cls:=.type "list",data:=.seq #[] c0 }) (N:es.size<=Tj)
  (H:∀ (h':UA)(tk:Nat)(l:Array S4)(c:Nat)(as:List Addr),(∀ b o,b≠S->s.heap.get? b=some o->h'.get? b=some o)->h'.get? S=some { cls:=.type "list",dict:=none,data:=.seq l c,slots:=#[] }->as.length=es.size->PrsAt es s.heap.objs.size h' as->l.toList=as.map To->R (.ok (.ret res)) { s with heap:=h',toks:=tk }) :
  TH (TK P w) A.in1 (V7 (.ref S) (.ref r) res) (fun fin p=>match fin with|.done f=>R (.ok f) p|.again c'=>c'.quiet=true/\Yl (TK P w) A c' R p) (fun e p=>R (.error e) p) s:=by
 have y:S<s.heap.objs.size:=Tp E
 have G:d<s.heap.objs.size:=g.lt
 have run:∀ (h:UA)(q tk:Nat),(∀ b o,b≠S->(s.heap.push { cls:=.type "dict_itemiterator",data:=.fields #[.none,.bool false,.ref d,.int 0 0,.int es.size 0,.int ep 0,.none,.none] }).get? b=some o->h.get? b=some o)->h.get? S=some { cls:=.type "list",data:=.seq #[] q }->
   Yl (TK P w) A (.builtin "list.extend.loop" ⟨[.ref S,.ref s.heap.objs.size,res],[]⟩) R { s with heap:=h,toks:=tk }:=by
  intro h q tk v i
  have B:=v s.heap.objs.size _ (Vi y) (Tz _ rfl)
  exact NN (s:=s) (h1:=s.heap) (ep:=ep) L y z (TJ G) N res (fun h' x l c as Q T U X Y=>H h' x l c as (fun b o m e=>Q b o m (TJ (Tp e)) e) T U X Y) es.size 0 h tk q #[] [] (a0l _) (Uv _)
   ⟨.none,.none,.none,false,B,.inl rfl⟩ (g.stay fun o e=>v d o z (S9 _ e)) (fun b o m _ e=>v b o m (S9 _ e)) i rfl rfl ⟨Yt,fun _ K=>(by cases K),fun j a M=>(by simp at M)⟩ (Tp B)
 unfold V7
 refine S3 (a0W (T:="dict_items") u.typeIs ?_)
 simp only [show YZ (.ref S) (.ref r)=false by simp [YZ,Sr],show (Wo "dict_items" == Wo "list")=false by decide,show (Wo "dict_items" == Wo "tuple")=false by decide,a2n,Te,if_false]
 refine S3 (NM u g ?_)
 have i:=S9 { cls:=.type "dict_itemiterator",data:=.fields #[.none,.bool false,.ref d,.int 0 0,.int es.size 0,.int ep 0,.none,.none] } E
 refine S3 (UB (PySem.W.kdx_hint (let ⟨o,O,hc,_⟩:=u;⟨o,S9 _ O,hc⟩) ?_))
 refine wpAny_ite_split (fun _=>?_) (fun _=>Tg ⟨XN F.plain_extend_loop _,run _ c0 _ (fun b o _ e=>e) i⟩)
 refine S3 (W3 (S3 ?_))
 refine S3 (m:=a2D S (·.push .none)) (YG i rfl ?_)
 have n:=Wf (UQ (·.push UT)) i rfl
 refine YG (hz:=by seq_fits) n rfl (Tg ⟨XN F.plain_extend_loop _,run _ _ _ (fun b o m e=>?_) (Wf (UQ (·.pop)) n rfl)⟩)
 exact (Vp _ _ (U6 m)).trans ((Vp _ _ (U6 m)).trans e)
theorem NO {r:Addr}{E:S4->S5->Prop}{T:List S4->S5->Prop}(H:A.handled=none)(v:s.heap.IsItemsView r d)(g:RawD s.heap d es ep)(K:es.size<=Tj)
  (q:∀ (h':UA)(tk:Nat)(as:List Addr),(∀ b o,s.heap.get? b=some o->h'.get? b=some o)->as.length=es.size->PrsAt es s.heap.objs.size h' as->s.heap.objs.size<=h'.objs.size->T (as.map To) { s with heap:=h',toks:=tk }):TH (TK P w) A (collect (.ref r)) T E s:=by
 have L:r<s.heap.objs.size:=let ⟨_,p,_⟩:=v;Tp p
 unfold collect
 refine S3 (wpAny_runValue (WZ a3g ?_))
 rw [VZ F.plain_proto_collect _]
 refine S3 (m:=newList []) (U1 (Tg ⟨XN F.plain_list_iadd _,WZ a3h ?_⟩))
 rw [VZ F.plain_list_iadd _]
 have B:(s.heap.push { cls:=.type "list",data:=.seq ([]:List S4).toArray }).get? s.heap.objs.size=some { cls:=.type "list",data:=.seq #[] }:=Tz _ rfl
 have all:=DJ (A:=A) (s:={ s with heap:=s.heap.push { cls:=.type "list",data:=.seq ([]:List S4).toArray } }) (P:=P) (w:=w) (es:=es) (ep:=ep) (res:=.ref s.heap.objs.size) (c0:=0)
  (R:=fun (q:a1i)(u:S5)=>∃ (h':UA)(tk:Nat)(h:Array S4)(c:Nat)(as:List Addr),q=.ok (.ret (.ref s.heap.objs.size))/\u = { s with heap:=h',toks:=tk }/\(∀ b o,s.heap.get? b=some o->h'.get? b=some o)/\h'.get? s.heap.objs.size=some { cls:=.type "list",dict:=none,data:=.seq h c,slots:=#[] }/\as.length=es.size/\PrsAt es s.heap.objs.size h' as/\h.toList=as.map To)
  H (let ⟨o,p,x⟩:=v;⟨o,S9 _ p,x⟩) (g.stay fun o e=>S9 _ e) (Vi L) (TJ g.lt) B K
  (fun h' tk h c as l i m j n=>⟨h',tk,h,c,as,rfl,rfl,fun b o e=>l b o (TJ (Tp e)) (S9 _ e),i,m,⟨j.up,fun a G=>W8 (Yj _) (by have:=j.over a G;rw [XU] at this;exact this),j.prs⟩,n⟩)
 refine Uq all (fun fin u x=>?_) fun e u x=>?_
 ·cases fin with
  | done f=>
   obtain ⟨h',tk,h,c,as,e,rfl,l,i,m,j,n⟩:=x
   cases e
   refine S3 (m:=load s.heap.objs.size) (a0g i (Tg ?_))
   show T h.toList _
   rw [n]
   exact q h' tk as l m j (W9 (Tp i))
  | again M=>
   refine ⟨x.1,Zu x.2 fun y N x=>?_⟩
   obtain ⟨h',tk,h,c,as,rfl,rfl,l,i,m,j,n⟩:=x
   refine S3 (m:=load s.heap.objs.size) (a0g i (Tg ?_))
   show T h.toList _
   rw [n]
   exact q h' tk as l m j (W9 (Tp i))
 ·obtain ⟨_,_,_,_,_,z,_⟩:=x
  cases z
end
end L3
namespace L3
open PySem L2 PySem.W PyProof.Rows
section
variable {P:TC}{w:T7}{A:TR}{E:S4->S5->Prop}{s:S5}
theorem NP {v:S4}{Q:Bool->S5->Prop}(q:Q true s):TH (TK P w) A (eqBool v v) Q E s:=by
 unfold eqBool
 refine UB ?_
 rw [if_pos (by simp)]
 exact S3 (W3 (Tg q))
theorem DK:∀ k:List Int,HT.lexLt k k=false
 | []=>rfl
 | a::k=>by simp [HT.lexLt,DK k]
noncomputable def sN (P:TC)(w:T7)(h:UA)(b:Addr)(k:List Int):Prop:=Tb.IsT P w h k b/\∃ xs:List S4,a2z h b xs.toArray/\Wl xs k
theorem NQ {a g b h:Addr}{v l:S4}{k k':List Int}{C:Bool->S5->Prop}(j:A.units<Vg)(m:s.heap.get? a=some { cls:=.type "tuple",data:=.seq #[.ref b,v] }) (d:s.heap.get? g=some { cls:=.type "tuple",data:=.seq #[.ref h,l] })
  (i:sN P w s.heap b k)(c:sN P w s.heap h k')(n:k=k'->v=l)(q:C (HT.lexLt k k') s):TH (TK P w) A (a3C (tuples' false) (.ref a) (.ref g)) C (fun _ _=>False) s:=by
 refine kat_lt m rfl d rfl ?_
 refine kat_cons ((WD (X4 P w)).eqBool j i.1 c.1 ?_)
 by_cases e:k=k'
 ·obtain rfl:=n e
  subst e
  rw [decide_eq_true rfl]
  refine kat_yes (kat_cons (NP (kat_yes (kat_nil ?_))))
  rw [DK] at q
  exact q
 ·rw [decide_eq_false e]
  obtain ⟨x,r,o⟩:=i.2
  obtain ⟨y,u,p⟩:=c.2
  refine kat_no (kat_one _ _ (HT.lt_tupInts r u (by simpa using o) (by simpa using p) j ?_))
  exact q
noncomputable def kM (P:TC)(w:T7)(A:TR)(us:List S4)(an:Nat->Nat->Bool)(s:S5):Prop:=
 TH (TK P w) A (keyKind' us.toArray) (fun b a=>a=s/\∀ (i j:Nat)(C:Bool->S5->Prop),i<us.length->j<us.length->C (an i j) s->TH (TK P w) A (a3C b (us.getD i .none) (us.getD j .none)) C (fun _ _=>False) s) (fun _ _=>False) s
theorem NR {es:Array UD}{lo:Addr}{as bs:List Addr}{ks:List (List Int)}(hu:A.units<Vg)(p:PrsAt es lo s.heap as)(h0:0<as.length)(hl:as.length=es.size)(hk:ks.length=es.size)(hbl:bs.length=es.size)(key:∀ (j:Nat)(e:UD),es[j]? = some e->e.key=.ref (bs.getD j 0)/\sN P w s.heap (bs.getD j 0) (ks.getD j []))
  (N:ks.Nodup):kM P w A (as.map To) (fun i j=>HT.lexLt (ks.getD i []) (ks.getD j [])) s:=by
 have g:∀ i,i<as.length->∃ (e:UD),es[i]? = some e/\s.heap.get? (as.getD i 0)=some { cls:=.type "tuple",data:=.seq #[.ref (bs.getD i 0),e.val] }/\sN P w s.heap (bs.getD i 0) (ks.getD i []):=fun i d=>by
  have Q:as[i]? = some (as.getD i 0):=by simp [Ug,d]
  obtain ⟨e,u,q⟩:=p.prs i _ Q
  obtain ⟨k1,B⟩:=key i e u
  rw [k1] at q
  exact ⟨e,u,q,B⟩
 unfold kM
 have r:KatTups s.heap (as.map To) (bs.map To):=by
  have go:∀ (n:Nat)(a c:List Addr),a.length=n->c.length=n->(∀ i,i<n->∃ v:S4,s.heap.get? (a.getD i 0)=some { cls:=.type "tuple",data:=.seq #[.ref (c.getD i 0),v] })->KatTups s.heap (a.map To) (c.map To):=by
   intro n
   induction n with
   | zero=>
    intro a c l m _
    rw [Vk.mp l,Vk.mp m]
    exact .nil
   | succ n ih=>
    intro a c l m M
    match a,c,l,m with
    | x::a,y::c,l,m=>
     obtain ⟨v,K⟩:=M 0 (by omega)
     refine .cons K rfl rfl (by simp) (ih a c (by simpa using l) (by simpa using m) fun i d=>?_)
     have:=M (i+1) (by omega)
     simpa using this
  refine go as.length as bs rfl (by omega) fun i d=>?_
  obtain ⟨e,_,q,_⟩:=g i d
  exact ⟨_,q⟩
 refine kat_kind (T:=.type "tuple") r (by rw [S6];omega) (fun v K=>?_) (by decide) ⟨rfl,fun i j C d I Y=>?_⟩
 ·obtain ⟨b,Z,rfl⟩:=TQ.mp K
  obtain ⟨i,d⟩:=VS.mp Z
  have G:i<as.length:=by
   have:=(S2.mp d).1
   omega
  obtain ⟨e,_,_,B⟩:=g i G
  have:bs.getD i 0=b:=by simp [Ug,d]
  rw [this] at B
  obtain ⟨xs,⟨o,o1,o2,_⟩,_⟩:=B.2
  exact kitAt_ty _ _ ⟨o,o1,o2⟩
 ·rw [S6] at d I
  obtain ⟨e,u,q,O⟩:=g i d
  obtain ⟨e',L,R,T⟩:=g j I
  have U:(as.map To).getD i .none=.ref (as.getD i 0):=by simp [Ug,d]
  have X:(as.map To).getD j .none=.ref (as.getD j 0):=by simp [Ug,I]
  rw [U,X]
  refine NQ hu q R O T (fun z=>?_) Y
  have H:i=j:=by
   have l:ks.getD i []=ks[i]:=by simp [Ug,show i<ks.length by omega]
   have m:ks.getD j []=ks[j]:=by simp [Ug,show j<ks.length by omega]
   rw [l,m] at z
   rcases W7 i j with h|h|h
   ·exact absurd z ((Ub.mp N) i j (by omega) (by omega) h)
   ·exact h
   ·exact absurd z.symm ((Ub.mp N) j i (by omega) (by omega) h)
  subst H
  rw [u] at L
  cases L
  rfl
end
end L3
namespace L3
open PySem L2 PySem.W PyProof.Rows
section
variable {P:TC}{w:T7}{A:TR}{E:S4->S5->Prop}{s:S5}
end
end L3
namespace L3
open PySem L2 PySem.W PyProof.Rows
section
variable {P:TC}{w:T7}{A:TR}{E:S4->S5->Prop}{s:S5}
open Classical in
noncomputable def eJ (us:List S4)(v:S4):Nat:=if h:∃ i,us[i]? = some v then h.choose else 0
theorem sO {us:List S4}(l:us.Nodup){i:Nat}{v:S4}(h:us[i]? = some v):eJ us v=i:=by
 unfold eJ
 have b:∃ i,us[i]? = some v:=⟨i,h⟩
 rw [dif_pos b]
 have j:=b.choose_spec
 obtain ⟨e,c⟩:=S2.mp h
 obtain ⟨g,d⟩:=S2.mp j
 have:=Ub.mp l
 rcases W7 i b.choose with a|a|a
 ·exact absurd (c.trans d.symm) (this _ _ e g a)
 ·exact a.symm
 ·exact absurd (d.trans c.symm) (this _ _ g e a)
theorem xN {Z:Type}{lt:Z->Z->Bool}(O:Ord1 lt)(d:Z){ks:List Z}{c:Addr}{us:List S4}{z:Nat}{R:a2X->S5->Prop}(hk:ks.length=us.length)(nk:ks.Nodup)(Y:us.Nodup)(h2:2<=us.length)(hz:us.length<=Tj)(g:s.heap.get? c=some (UR "list" us.toArray z))
  (H:∀ X:UA,(∀ b o,b≠c->s.heap.get? b=some o->X.get? b=some o)->kM P w A us (fun i j=>lt (ks.getD i d) (ks.getD j d)) { s with heap:=X })
  (q:R (.done (.ret .none)) { s with heap:=YC s.heap c us ((bU (fun i j=>lt (ks.getD i d) (ks.getD j d)) us.length).map fun i=>us.getD i UT).toArray }):TH (TK P w) A (Builtin.«list.sort» ⟨[.ref c],[]⟩) R E s:=by
 have u:∀ i,i<us.length->ks.getD i d∈ks:=fun i l=>by
  rw [TL,S7 (by omega)]
  exact VN _
 have kn:∀ i j,i<us.length->j<us.length->i≠j->ks.getD i d≠ks.getD j d:=fun i j l G M=>by
  rw [TL,TL,S7 (by omega),S7 (by omega)]
  have:=Ub.mp nk
  rcases Nat.lt_or_gt_of_ne M with h|h
  ·exact this i j (by omega) (by omega) h
  ·exact (this j i (by omega) (by omega) h).symm
 have r:∀ v∈us,∃ i,i<us.length/\us[i]? = some v/\eJ us v=i:=fun v Q=>by
  obtain ⟨i,l⟩:=Ws Q
  exact ⟨i,(S2.mp l).1,l,sO Y l⟩
 refine MU (rk:=fun v=>iR lt ks (ks.getD (eJ us v) d)) ?_ h2 hz g (fun X kp=>?_) fun m o1 o2=>?_
 ·refine Ub.mpr fun i j l G M=>?_
  rw [sO Y (S7 l),sO Y (S7 G)]
  exact C3 O (u i l) (u j G) (kn i j l G (by omega))
 ·have a:=H X kp
  unfold kM at a
  unfold CG
  refine Uq a (fun κ s' hq=>?_) fun _ _ x=>x
  obtain ⟨e,hq⟩:=hq
  refine ⟨e,fun x y C hx hy hC=>?_⟩
  obtain ⟨i,B,U,L⟩:=r x hx
  obtain ⟨j,I,gj,ej⟩:=r y hy
  dsimp only at hC
  rw [L,ej,<- sF O (u i B) (u j I)] at hC
  have:=hq i j C B I hC
  have e1:us.getD i .none=x:=by rw [TL,U];rfl
  have K:us.getD j .none=y:=by rw [TL,gj];rfl
  rw [e1,K] at this
  exact this
 ·have N:∀ i∈bU (fun i j=>lt (ks.getD i d) (ks.getD j d)) us.length,i<us.length:=fun i l=>Ul.mp ((dW _ _).mem_iff.mp l)
  have hgd:∀ i,i<us.length->us[i]? = some (us.getD i .none):=fun i l=>by
   rw [TL,S7 l];rfl
  have e:m=(bU (fun i j=>lt (ks.getD i d) (ks.getD j d)) us.length).map fun i=>us.getD i UT:=by
   have hm:∀ v∈m,v∈us:=fun v Q=>o1.mem_iff.mp Q
      -- the places of what came m
   have p:m.map (eJ us)=bU (fun i j=>lt (ks.getD i d) (ks.getD j d)) us.length:=by
    have n:(m.map (eJ us)).Perm (Ui us.length):=by
     refine (o1.map (eJ us)).trans ?_
     have:us.map (eJ us)=Ui us.length:=by
      apply VA
      intro i
      rw [TB]
      by_cases l:i<us.length
      ·rw [S7 l,VH l]
       exact congrArg some (sO Y (S7 l))
      ·rw [Up (by omega),Up (by simp;omega)]
       rfl
     rw [this]
    have s1:(m.map (eJ us)).Pairwise fun i j=>lt (ks.getD i d) (ks.getD j d)=true:=by
     rw [Ur]
     have T:(m.map (eJ us)).Nodup:=n.nodup_iff.mpr Yg
     unfold XT at T
     rw [Ur] at T
     refine Wj (R:=fun x y=>iR lt ks (ks.getD (eJ us x) d)<=iR lt ks (ks.getD (eJ us y) d)/\eJ us x≠eJ us y) (fun {x y} hx hy h=>?_) (o2.and T)
     obtain ⟨i,B,U,L⟩:=r x (hm x hx)
     obtain ⟨j,I,gj,ej⟩:=r y (hm y hy)
     rw [L,ej] at h ⊢
     rw [sF O (u i B) (u j I),decide_eq_true_eq]
     have:=C3 O (u i B) (u j I) (kn i j B I h.2)
     have:=h.1
     omega
    have s2:(bU (fun i j=>lt (ks.getD i d) (ks.getD j d)) us.length).Pairwise fun i j=>lt (ks.getD i d) (ks.getD j d)=true:=by
     have a:=C5 (lt:=lt) O.ir O.tr (fun a b c h=>by
      cases e:lt a c with
      | true=>exact .inl rfl
      | false=>
       cases K:lt c b with
       | true=>exact .inr rfl
       | false=>
        cases e3:lt c a with
        | true=>rw [O.tr _ _ _ e3 h] at K;cases K
        | false=>rw [O.to _ _ e e3,K] at h;cases h) d ks (n:=us.length) (by omega)
     have T:(bU (fun i j=>lt (ks.getD i d) (ks.getD j d)) us.length).Nodup:=(dW _ _).nodup_iff.mpr Yg
     refine Wj (R:=fun i j=>lt (ks.getD j d) (ks.getD i d)=false/\i≠j) (fun {i j} l G h=>?_) (a.and T)
     cases e:lt (ks.getD i d) (ks.getD j d) with
     | true=>rfl
     | false=>exact absurd (O.to _ _ e h.1) (kn i j (N i l) (N j G) h.2)
    exact XS (le:=fun i j=>lt (ks.getD i d) (ks.getD j d)=true) (fun i j _ _ h1 h2=>by
     have:=O.tr _ _ _ h1 h2
     rw [O.ir] at this;cases this) s1 s2 (n.trans (dW _ _).symm)
   rw [<- p,Ud]
   symm
   conv=>rhs;rw [<- a2K m]
   refine UX fun v Q=>?_
   obtain ⟨i,B,U,L⟩:=r v (hm v Q)
   show us.getD (eJ us v) .none=v
   rw [L,TL,U]
   rfl
  rw [e]
  exact q
end
end L3
namespace L3
open PySem L2 PySem.W PyProof.Rows
section
variable {P:TC}{w:T7}{A:TR}{E:S4->S5->Prop}{s:S5}
theorem NS {B:Type}{lt:B->B->Bool}(O:Ord1 lt)(m:B){ks:List B}{an:Nat->Nat->Bool}(G:an=fun i j=>lt (ks.getD i m) (ks.getD j m)){r d:Addr}{es:Array UD}{ep:Nat}{Q:S4->S5->Prop}(Z:ks.length=es.size)(nk:ks.Nodup)(Y:A.handled=none)(hv:s.heap.IsItemsView r d)(g:RawD s.heap d es ep)(T:es.size<=Tj)
  (H:2<=es.size->∀ (l:UA)(tk:Nat)(as:List Addr),(∀ b o,s.heap.get? b=some o->l.get? b=some o)->as.length=es.size->PrsAt es s.heap.objs.size l as->kM P w A.in1.in1 (as.map To) an { s with heap:=l,toks:=tk })
  (q:∀ (l:UA)(tk:Nat)(as:List Addr)(L e:Nat),(∀ b o,s.heap.get? b=some o->l.get? b=some o)->as.length=es.size->PrsAt es s.heap.objs.size l as->s.heap.objs.size<=L->(∀ a∈as,a≠L)->l.get? L=some (UR "list" ((bU an es.size).map fun i=>To (as.getD i 0)).toArray e)->Q (.ref L) { s with heap:=l,toks:=tk }) :
  TH (TK P w) A (call (.builtin "sorted") [.ref r]) Q E s:=by
 refine XZ a1M a1b a1d (a1e _) ?_
 unfold YQ
 refine S3 (m:=a2i "sorted" 1 1 _) (Tg (S3 (NO (A:=A.in1) Y hv g (by omega) fun c tk as R y z u=>?_)))
 have M:(as.map To).length=es.size:=by rw [S6,y]
 refine S3 (Yn ?_ (by rw [M];omega))
 have nu:(as.map To).Nodup:=by
  unfold XT
  rw [Ur]
  exact z.up.imp fun h e=>by cases e;exact absurd h (Vn _)
 subst G
 have p:(c.push (UR "list" (as.map To).toArray 0)).get? c.objs.size=some (UR "list" (as.map To).toArray 0):=Tz _ rfl
 have fin:∀ n:List S4,n=((bU (fun i j=>lt (ks.getD i m) (ks.getD j m)) es.size).map fun i=>To (as.getD i 0))->Q (.ref c.objs.size) { s with heap:=YC (c.push (UR "list" (as.map To).toArray 0)) c.objs.size (as.map To) n.toArray,toks:=tk }:=by
  rintro n rfl
  obtain ⟨e,X⟩:=sortedHeap_at (h:=c.push (UR "list" (as.map To).toArray 0)) (out:=((bU (fun i j=>lt (ks.getD i m) (ks.getD j m)) es.size).map fun i=>To (as.getD i 0)).toArray) p
  have v:∀ b o,c.get? b=some o->(YC (c.push (UR "list" (as.map To).toArray 0)) c.objs.size (as.map To) ((bU (fun i j=>lt (ks.getD i m) (ks.getD j m)) es.size).map fun i=>To (as.getD i 0)).toArray).get? b=some o:=fun b o x=>by
   rw [a3v (TJ (Tp x)) (by rw [XU];exact Y7 (Tp x))]
   exact S9 _ x
  exact q _ tk as c.objs.size e (fun b o x=>v b o (R b o x)) y (z.stay fun b o _ x=>v b o x) u (fun a U=>TJ (z.lt U)) X
 by_cases I:2<=es.size
 ·refine S3 (UB (U9 Xj (s:={ s with heap:=c.push (UR "list" (as.map To).toArray 0),toks:=tk }) ⟨_,p,rfl⟩ WY (xN O m (by rw [M];exact Z) nk nu (by omega) (by omega) p (fun l N=>?_) ⟨_,rfl,?_⟩) (Xo _)))
  ·exact H I l tk as (fun b o e=>N b o (TJ (T1 (Tp e) u)) (S9 _ (R b o e))) y (z.stay fun b o hb e=>N b o (TJ (Tp e)) (S9 _ e))
  ·refine Tg ⟨_,rfl,fin _ ?_⟩
   rw [M]
   refine UX fun i K=>?_
   have K:i<as.length:=by
    have:=Ul.mp ((dW _ es.size).mem_iff.mp K)
    omega
   simp [Ug,K]
 ·refine S3 (UB (U9 Xj (s:={ s with heap:=c.push (UR "list" (as.map To).toArray 0),toks:=tk }) ⟨_,p,rfl⟩ WY (wZ (by omega) p ⟨_,rfl,?_⟩) (Xo _)))
  refine Tg ⟨_,rfl,fin (as.map To) ?_⟩
  match as,y with
  | [],e=>rw [<- e];show []=(bU _ 0).map _;rw [sC];rfl
  | [b],e=>rw [<- e];show [To b]=(bU _ 1).map _;rw [w4];rfl
  | _::_::_,e=>rw [<- e] at I;simp at I
end
end L3
namespace L3
open PySem L2
noncomputable def iV (ps:bK):bK:=(bU (fun i j=>HT.lexLt ((ps.map (·.1)).getD i []) ((ps.map (·.1)).getD j [])) ps.length).map fun i=>ps.getD i ([],0,.non)
theorem sortT_perm {ps:bK}:(iV ps).Perm ps:=by
 unfold iV
 have p:=(dW (fun i j=>HT.lexLt ((ps.map (·.1)).getD i []) ((ps.map (·.1)).getD j [])) ps.length).map fun i=>ps.getD i ([],0,.non)
 have e:(Ui ps.length).map (fun i=>ps.getD i ([],0,.non))=ps:=by
  refine a1G (by simp) fun i b a=>?_
  simp [Ug,a]
 rw [e] at p
 exact p
end L3
namespace L3
open PySem L2
section
variable {P:TC}{w:T7}
theorem DL (d:Addr)(hd:(d == U0)=false):MeetsIn P w (Builtin.«dict.items» ⟨[.ref d],[]⟩) (fun _ R s=>(∃ es ep,RawD s.heap d es ep) /\
   R (.ok (.ret (.ref s.heap.objs.size))) { s with heap:=s.heap.push { cls:=.type "dict_items",data:=.fields #[.ref d] } }):=
 .of_wp fun A R s ⟨⟨es,ep,g⟩,h⟩=>by
  unfold Builtin.«dict.items»
  refine S3 ?_
  unfold ZE
  refine S3 (XB g.ty ?_)
  show TH _ _ (pure d) _ _ s
  refine Tg ?_
  show TH _ _ (VF d >>= _) _ _ s
  unfold VF
  rw [if_neg (by rw [hd];exact Uc)]
  refine S3 (Tg ?_)
  exact S3 (U1 (Tg ⟨_,rfl,h⟩))
end
noncomputable def kN (kvs:List (List Int×D)):List (List Int×D):=(bU (fun i j=>HT.lexLt ((kvs.map (·.1)).getD i []) ((kvs.map (·.1)).getD j [])) kvs.length).map fun i=>kvs.getD i ([],.non)
theorem xO {b c:Type}{R:b->c->Prop}{as:List b}{bs:List c}(h:Vr R as bs)(d:b)(g:c):∀ i,i<as.length->R (as.getD i d) (bs.getD i g):=by
 induction h with
 | nil=>exact fun i a=>nomatch a
 | cons e t j=>
  intro i a
  cases i with
  | zero=>exact e
  | succ i=>exact j i (by simpa using a)
theorem xP {a b:Type}{R:a->b->Prop}{f:Nat->a}{g:Nat->b}:∀ {l:List Nat},(∀ i∈l,R (f i) (g i))->Vr R (l.map f) (l.map g)
 | [],_=>.nil
 | i::l,h=>.cons (h i (Tt ..)) (xP fun j c=>h j (Tw _ c))
theorem NT {K:S1}{π:Nat->Addr}{n:Nat}{H:Hp}{ps:bK}{kvs:List (List Int×D)}(h:IsTs K π n H ps kvs):ps.length=kvs.length/\IsTs K π n H (iV ps) (kN kvs):=by
 have a:=h.to.1
 have b:ps.length=kvs.length:=by
  have:=congrArg US a
  simpa using this
 refine ⟨b,?_⟩
 unfold iV kN
 rw [a,b]
 refine xP fun i c=>xO h _ _ i ?_
 have:=Ul.mp ((dW _ kvs.length).mem_iff.mp c)
 omega
end L3
namespace L3
open PySem L2
noncomputable def mE (mk b:ME):ME:=fun ρ a=>(mk ρ (a++[.dT []])).bind fun p=>(b ρ p.2).bind fun q=>match q.2[a.length]? with
 | some (.dT [])=>(dA p.1).map fun k=>(.loc a.length,q.2.set a.length (.dT [(k,q.1)]))
 | _=>none
section
variable {X:Cx}{k v:Expr}{mk mv:ME}{tk tv:TE}{pos:Vc}
noncomputable def NU (K:S1)(tk tv:TE):TE:=fun σ H Q=>∀ p,H p=none->tk σ (aN H p (bE p [])) fun x d=>tv σ d fun y a=>a p=some (bE p [])/\∃ b c,x=.ref b/\SqT K a b (c.map V.int)/\Q (.ref p) (aN a p (bE p [(c,b,y)]))
theorem NV (L:X.A.units+1<Vg)(n:PE X k tk)(w:PE X v tv):PE X (.Dict [some k] [v] pos) (NU X.K tk tv):=by
 intro a s c H Q I q
 have o:=I.hok.fresh (Th s.heap.objs.size)
 have h:=I.laid (a:=s.heap.objs.size) (o:=bE s.heap.objs.size []) (h':=s.heap.push { cls:=.type "dict",data:=.dict #[] }) (t':=s.toks) (fun _ _ q=>S9 _ q) (Th _) (xK s.heap I.big)
 refine wpAny_Dict_any rfl rfl (by simp) (by simp) (a1W (aR (n a _ c _ _ h (q _ o)) fun u G ⟨x,d,i,B,z⟩=>aR (w a G c d _ i z) fun R O ⟨y,K,j,E,e,b,M,l,m,A⟩=>a2e ?_))
 subst l
 obtain rfl:u=To b:=B
 unfold storeAll
 refine S3 (S3 (DC (by omega) j e (fun p r=>nomatch r) m (by rw [TY];simp) E fun N g _=>Tg (Tg ?_)))
 exact ⟨.ref s.heap.objs.size,_,g,rfl,A⟩
theorem NW {n:Nat}(hr:Room n X.A)(Y:QE X k mk)(hv:QE X v mv):QE X (.Dict [some k] [v] pos) (mE mk mv):=⟨cD (NV (e8 hr) Y.h hv.h) (by
 rintro σ H Q ⟨π,L,h,d,μ',R,E,a,kc⟩ p Z
 obtain ⟨⟨x,c⟩,O,a⟩:=S0.mp a
 obtain ⟨⟨y,e⟩,U,a⟩:=S0.mp a
 obtain ⟨q,N,q1⟩:=R.alloc (c:=.dT []) (o:=bE p []) Z ⟨[],rfl,rfl,.nil,.nil⟩
 refine ⟨_,L,_,x,c,N,E.mono q,O,fun z v1 H1 m R2 i1=>⟨z,L,c,y,e,R2,(E.mono q).mono m,U,fun g K M r A i2=>?_⟩⟩
 dsimp only at a
 split at a
 ·rename_i hc
  obtain ⟨l,u,a⟩:=S8.mp a
  cases a
  have i:h.length<e.length:=(S2.mp hc).1
  have w:(h++[C.dT []]).length<=c.length:=m.le
  have j:g h.length=p:=by rw [r.pi h.length (by simp at w;omega),m.pi h.length (by simp),q1]
  obtain ⟨ps,s,T⟩:=gY A hc
  cases T
  obtain ⟨b,rfl,I⟩:=nX (i1.mono r) u
  obtain ⟨G,B⟩:=A.put (a:=h.length) (c:=.dT [(l,y)]) (o:=bE _ [(l,b,K)]) i s (.inr (.inr ⟨_,rfl⟩)) (by
   have o:IsTs X.K g e.length M [(l,b,K)] [(l,y)]:=.cons ⟨rfl,I,i2⟩ .nil
   exact ⟨_,rfl,o.to.1,o.to.2.1,o.to.2.2⟩)
  rw [j] at s G B
  refine ⟨s,b,l,rfl,I,kc g _ _ (((q.trans m).trans r).trans G) B ?_⟩
  rw [<- j]
  exact .loc (by rw [Wc];exact i)
 ·cases a)⟩
end
end L3
namespace L3
open PySem L2 PySem.W PyProof.Rows
section
variable {P:TC}{w:T7}{A:TR}{E:S4->S5->Prop}{s:S5}
noncomputable def DM (h:UA)(b:Addr)(k:List Int):Prop:=∃ xs:List S4,a2z h b xs.toArray/\Wl xs k
theorem DN {bs:List Addr}{ks:List (List Int)}(K:0<bs.length)(r:ks.length=bs.length)(key:∀ (j:Nat)(b:Addr),bs[j]? = some b->DM s.heap b (ks.getD j [])/\ks.getD j []≠[]):kM P w A (bs.map To) (fun i j=>HT.lexLt (ks.getD i []) (ks.getD j [])) s:=by
 have l:∃ fs:List S4,fs.length=bs.length/\KatTups s.heap (bs.map To) fs/\∀ v∈fs,∃ i t,v=XO i t:=by
  clear K
  induction bs generalizing ks with
  | nil=>exact ⟨[],rfl,.nil,fun v a=>nomatch a⟩
  | cons b bs Q=>
   match ks,r with
   | k::ks,r=>
    obtain ⟨fs,u,m,p⟩:=Q (ks:=ks) (by simpa using r) fun j c hc=>by simpa using key (j+1) c (by simpa using hc)
    obtain ⟨⟨xs,⟨o,e,c,n,d⟩,g⟩,h⟩:=key 0 b rfl
    simp only [List.getD_cons_zero] at g h
    cases g with
    | nil=>exact absurd rfl h
    | @cons i x T R M=>
     refine ⟨XO i x::fs,by simp [u],.cons e c d (by simp) m,fun v a=>?_⟩
     rcases T5.mp a with rfl|a
     ·exact ⟨i,x,rfl⟩
     ·exact p v a
 obtain ⟨fs,u,m,p⟩:=l
 unfold kM
 refine kat_kind (T:=.type "int") m ?_ (fun v a=>?_) rfl ⟨rfl,fun i j C g q L=>?_⟩
 ·omega
 ·obtain ⟨i,t,rfl⟩:=p v a
  exact .now
 ·rw [S6] at g q
  obtain ⟨⟨xa,⟨oa,B,U,Y,y⟩,N⟩,_⟩:=key i bs[i] (S7 g)
  obtain ⟨⟨xb,⟨ob,G,X,Z,z⟩,O⟩,_⟩:=key j bs[j] (S7 q)
  have H:(bs.map To).getD i .none=.ref bs[i]:=by simp [Ug,g]
  have I:(bs.map To).getD j .none=.ref bs[j]:=by simp [Ug,q]
  rw [H,I]
  exact kat_lt B y G z (CB 0 N O L)
end
end L3
namespace L3
open PySem L2
noncomputable def n8 (b:Hm):D->Bool
 | .loc a=>match b[a]? with|some (.dT _)=>true|_=>false
 | _=>false
noncomputable def mF (f:D->List D->Hm->Option (D×Hm))(a:ME)(b:MA):ME:=fun ρ c=>(a ρ c).bind fun p=>match n8 p.2 p.1 with
 | true=>(b ρ p.2).bind fun q=>f p.1 q.1 q.2
 | false=>none
noncomputable def xQ (K:S1)(x:V)(H:Hp):Prop:=∃ a ps,x=.ref a/\H a=some (bE a ps)/\cN K H ps
theorem NX {K:S1}{π:Nat->Addr}{H:Hp}{b:Hm}{v:V}{x:D}(R:Rp K π H b)(h:IsD K π b.length H v x)(e:n8 b x=true):xQ K v H:=by
 cases h with
 | @loc a i=>
  simp only [n8] at e
  split at e
  ·rename_i j d
   obtain ⟨g,c,T⟩:=gY R d
   exact ⟨_,g,rfl,c,T.keys⟩
  ·cases e
 | _=>cases e
section
variable {X:Cx}{e o:Expr}{mo:ME}{to:TE}{t:TA}{apos cpos:Vc}{es:List Expr}{ms:MA}{n:Nat}{r:V->List V->Hp->VK->Prop}{f:D->List D->Hm->Option (D×Hm)}{name:Str}{id:String}
theorem NY (slot:a3G "dict" name id) (w:a0h (.builtin id)=pure (.type "method_descriptor")) (O:fT X id r)(R:PE X o to)(M:PA X (e::es) t)(i:V6 o name X.env (eval o X.env)=eval o X.env)
  (m:((Wa cpos (Uh (e::es) X.env)).all (fun x=>!x.1)&&(a0j cpos (YT [] X.env)).all (fun x=>x.1.isSome)&&decide ((e::es).length+([]:List WE).length+(if ([]:List WE).isEmpty then 0 else 1)<30))=true)
  (j:(apos.endLine == cpos.line)=true)(T:Uh (e::es) X.env=(false,eval e X.env)::Uh es X.env)(c:(Wa cpos (Uh es X.env)).any (·.1)=false) :
  PE X (.Call (.Attribute o name apos) (e::es) [] cpos) (fun l H Q=>to l H fun x p=>xQ X.K x p/\t l p fun q u=>r x q u Q):=by
 intro d s l H Q I h
 refine a0Z i m j rfl (aR (R d s l H _ I h) fun v s1 ⟨x,p,y,Z,ty,U⟩=>?_)
 obtain ⟨a,ps,rfl,G,N⟩:=ty
 obtain rfl:v=To a:=Z
 obtain ⟨lo,hl,q,ep,g,_⟩:=l8 y G N
 refine ⟨"dict",id,WC,slot,w,g.ty,fun b E=>?_,?_⟩
 ·cases E
  obtain ⟨z,K,L,_⟩:=g
  exact ⟨z,K,L.2.1⟩
 have A:=M cpos d s1 l p _ y U
 rw [T] at A ⊢
 refine VI (by show (false||(Wa cpos (Uh es X.env)).any (·.1))=false;rw [c]<;>rfl) (a0p ?_)
 exact aR A fun us s2 ⟨q,u,B,r2,Y⟩=>O d s2 l u (.ref a) q _ us Q B rfl r2 Y
theorem NZ {K:S1}(z:eH K f r):∀ σ H Q,tM K (mF f mo ms) σ H Q->tM K mo σ H fun x g=>xQ K x g/\d5 K ms σ g fun vs h=>r x vs h Q:=by
 rintro σ H Q ⟨L,v,I,d,i,R,E,a,k⟩
 obtain ⟨⟨x,b⟩,w,a⟩:=S0.mp a
 dsimp only at a
 split at a
 ·rename_i A
  obtain ⟨⟨u,c⟩,y,a⟩:=S0.mp a
  refine ⟨L,v,I,x,b,R,E,w,fun j G g p m s=>⟨NX m s A,j,v,b,u,c,m,E.mono p,y,fun l vs h q R2 B=>?_⟩⟩
  exact z l h c x u d i G vs Q R2 (s.mono q) B a (k.after (p.trans q))
 ·cases a
theorem N0 (slot:a3G "dict" name id) (c:a0h (.builtin id)=pure (.type "method_descriptor")) (i:fT X id r)(g:eH X.K f r)
  (l:QE X o mo)(d:QA X (e::es) ms n)(m:f9 o=true)(h:(apos.endLine == cpos.line)=true)(j:(e::es).length<30):QE X (.Call (.Attribute o name apos) (e::es) [] cpos) (mF f mo ms):=by
 have b:=d.s
 have a:=b
 rw [UE,Ti] at a
 exact ⟨cD (NY slot c i l.h d.h (iP m) (wY b j) h (f6 a.1) (j7 a.2)) (NZ g)⟩
end
noncomputable def kP:D->List D->Hm->Option (D×Hm)
 | .loc a,[y,z],μ=>match μ[a]? with
  | some (.dT kvs)=>(dA y).map fun k=>((cK kvs k).getD z,μ)
  | _=>none
 | _,_,_=>none
noncomputable def DO (K:S1):V->List V->Hp->VK->Prop:=fun x vs H Q=>∃ a b ps k z,x=.ref a/\vs=[.ref b,z]/\H a=some (bE a ps)/\cN K H ps/\SqT K H b (k.map V.int)/\Q ((dR ps k).getD z) H
theorem N1 {K:S1}:eH K kP (DO K):=by
 intro u H A x z d s v y Q R m c a k
 unfold kP at a
 split at a
 ·split at a
  ·rename_i p hc
   obtain ⟨h,j,a⟩:=S8.mp a
   cases a
   cases m
   cases c with
   | cons n t=>
    cases t with
    | cons o t=>
     cases t
     obtain ⟨q,i,T⟩:=gY R hc
     obtain ⟨b,rfl,l⟩:=nX n j
     refine ⟨_,b,q,h,_,rfl,rfl,i,T.keys,l,k u _ H .refl R ?_⟩
     rcases T.val h with ⟨e,g⟩|⟨v,w,e,g,r⟩
     ·rw [e,g];exact o
     ·rw [e,g];exact r
  ·cases a
 ·cases a
theorem N2 {X:Cx}(w:X.A.units+1<Vg):fT X "dict.get" (DO X.K):=by
 intro m s O H x M v L Q I E B h
 obtain ⟨a,b,g,k,z,rfl,rfl,e,o,n,q⟩:=h
 cases E
 obtain ⟨u,G,rfl,A,i⟩:=B.two
 obtain rfl:u=To b:=A
 obtain ⟨p,K,l,r,d⟩:=gX I (.of e) o
 refine YD Z3 d.typeIs PySem.F.entry_dict_get (PySem.F.args_dict_get_3 _ _ _) (meetsH_dict_get_default (WD (X4 X.prog X.w)) a b p G) ⟨pY w,k,_,kJ I n,d,?_⟩
 refine ⟨(dR g k).getD z,H,I.tok _,?_,q⟩
 have:=nW r k
 cases j:dR g k with
 | none=>
  rw [j] at this
  cases c:(X2 (bM g l) k).map (·.2) with
  | none=>exact i
  | some y=>rw [c] at this;exact this.elim
 | some N=>
  rw [j] at this
  cases c:(X2 (bM g l) k).map (·.2) with
  | none=>rw [c] at this;exact this.elim
  | some y=>rw [c] at this;exact this
end L3
namespace L3
open PySem L2
section
variable {P:TC}{w:T7}{K:Type} [DecidableEq K] {knd:HeapKind P w K}{A:TR}{E:S4->S5->Prop}{s:S5}{d a:Addr}{k:K}{xs:List (K×Addr×S4)}
end
end L3
namespace L3
open PySem L2
section
variable {P:TC}{w:T7}{A:TR}{E:S4->S5->Prop}{s:S5}
end
section
variable {X:Cx}
end
end L3
namespace L3
open PySem L2
noncomputable abbrev qB:=List (List Int×Addr×S4)
inductive Hits (A:TR)(s:S5)(ys:qB):qB->Bool->Prop
 | nil:Hits A s ys [] true
 | miss {x:List Int×Addr×S4}{r:qB}:X2 ys x.1=none->Hits A s ys (x::r) false
 | hit {x:List Int×Addr×S4}{p:Addr×S4}{r:qB}{e b:Bool}:X2 ys x.1=some p->Zw A s x.2.2 p.2 e->Hits A s ys r b->Hits A s ys (x::r) (e&&b)
section
variable {P:TC}{w:T7}{A:TR}{E:S4->S5->Prop}{s:S5}{a b:Addr}{xs ys:qB}{r:Bool}
end
section
variable {X:Cx}{a b:Expr}{ma mb:ME}{pos:Vc}{k:Nat}
end
end L3
namespace L3
open PySem L2
noncomputable abbrev xR (_:Nat):Prop:=True
section
variable {X:Cx}{a3L:List (Addr×VC)}{σ:St}{H H':Hp}{s:S5}{h':UA}
theorem DP {t':Nat}(I:Inv X a3L σ H s)(k:∀ b u,s.heap.get? b=some u->h'.get? b=some u)(d:∀ b,b<s.heap.objs.size->H' b=H b)(new:∀ b o,s.heap.objs.size<=b->H' b=some o->ObjOk X.prog X.w H' h' b o) :
  Inv X a3L σ H' { s with heap:=h',toks:=t' }:=by
 have lt:∀ b u,H b=some u->b<s.heap.objs.size:=fun b u e=>Nat.lt_of_not_le fun z=>by rw [I.hok.fresh z] at e;cases e
 have a:∀ b u,H b=some u->H' b=some u:=fun b u e=>by rw [d b (lt b u e)];exact e
 refine I.un ⟨fun b u q _ _ _=>k b u q,fun b u q _ _ _=>⟨u.slots,k b u q⟩,fun b u q n _=>by rw [d b (Tp q)];exact n,fun b u q _=>⟨u,k b u q⟩,fun b h q=>a b _ q,fun b u h q=>a b _ q,fun b i q=>⟨#[],by rw [a b _ q];simp⟩⟩ fun b u e=>?_
 by_cases g:b<s.heap.objs.size
 ·rw [d b g] at e
  exact (I.hok b u e).stay (fun c v _ q=>k c v q) (fun c q=>a c _ q) fun c h q=>a c _ q
 ·exact new b u (a1P g) e
noncomputable def c4 (H:Hp):List Addr->bK->Hp
 | a::as,p::ps=>c4 (aN H a (.tup [.ref p.2.1,p.2.2])) as ps
 | _,_=>H
theorem iW:∀ {as:List Addr}{ps:bK}{H:Hp}{b:Addr},b∉as->c4 H as ps b=H b
 | [],_,_,_,_=>by simp [c4]
 | a::as,[],_,_,_=>rfl
 | a::as,p::ps,H,b,h=>by
  rw [T5,not_or] at h
  show c4 (aN H a _) as ps b=H b
  rw [iW h.2,bS h.1]
theorem n9:∀ {as:List Addr}{ps:bK}{H:Hp}{i:Nat}{a:Addr}{p:List Int×Addr×V},as.Nodup->as[i]? = some a->ps[i]? = some p->c4 H as ps a=some (.tup [.ref p.2.1,p.2.2])
 | [],_,_,_,_,_,_,h,_=>by simp at h
 | _::_,[],_,_,_,_,_,_,h=>by simp at h
 | x::as,y::ps,H,0,a,p,nd,h1,h2=>by
  obtain rfl:x=a:=by simpa using h1
  obtain rfl:y=p:=by simpa using h2
  rw [Uy] at nd
  show c4 (aN H x _) as ps x=_
  rw [iW nd.1,cV]
 | x::as,y::ps,H,i+1,a,p,nd,h1,h2=>by
  rw [Uy] at nd
  exact n9 (as:=as) (ps:=ps) (i:=i) nd.2 (by simpa using h1) (by simpa using h2)
noncomputable def qC (ps:bK):List Nat:=bU (fun i j=>HT.lexLt ((ps.map (·.1)).getD i []) ((ps.map (·.1)).getD j [])) ps.length
noncomputable def dY (as:List Addr)(ps:bK):List V:=(qC ps).map fun i=>V.ref (as.getD i 0)
theorem N3 (hc:X.calm=true)(hun:X.A.units+64<Vg)(I:Inv X a3L σ H s){d r:Addr}{ps:bK}{Q:VK}(e:H d=some (bE d ps))(hk:cN X.K H ps)(h64:xR ps.length)(hv:s.heap.IsItemsView r d)
  (k:∀ (as:List Addr)(L l:Addr),as.length=ps.length->(l::L::as).Nodup->(∀ a∈l::L::as,H a=none)->Q (.ref l) (aN (aN (c4 H as ps) L (.lst (dY as ps))) l (.tup (dY as ps)))) :
  TH (TK X.prog X.w) X.A (call (.builtin "sorted") [.ref r]) (fun v s'=>TH (TK X.prog X.w) X.A (call (.type "tuple") [v]) (EP X a3L σ Q) X.xe s') X.xe s:=by
 obtain ⟨lo,hl,ws,rv,z,es,ep,z1,z2,z3,z4,z5,z6⟩:=gX I (.of e) hk
 have hwl:ws.length=ps.length:=by
  have:=rv.length
  rw [S6] at this
  exact this.symm
 have hxl:(bM ps ws).length=ps.length:=by unfold bM;rw [a0J,hwl,a2I]
 have m:es.size=ps.length:=by rw [<- WA,z4,S6,hxl]
 have nd:(ps.map (·.1)).Nodup:=by rw [lY rv] at z6;exact z6
 have M:∀ (j:Nat)(q:UD),es[j]? = some q->∃ p u,ps[j]? = some p/\ws[j]? = some u/\q.key=.ref p.2.1/\q.val=u:=fun j q h=>by
  rw [<- UY,z4,TB] at h
  obtain ⟨x,w,rfl⟩:=S8.mp h
  unfold bM at w
  rw [a0m] at w
  cases A:ps[j]? with
  | none=>rw [A] at w;simp at w
  | some p=>
   cases hw:ws[j]? with
   | none=>rw [A,hw] at w;simp at w
   | some u=>
    rw [A,hw] at w
    have:(p.1,p.2.1,u)=x:=by simpa using w
    subst this
    exact ⟨p,u,rfl,rfl,rfl,rfl⟩
 refine NS xE [] (ks:=ps.map (·.1)) (an:=fun i j=>HT.lexLt ((ps.map (·.1)).getD i []) ((ps.map (·.1)).getD j [])) rfl (by rw [S6,m]) nd (I.ok.hd hc) hv ⟨z,z1,z2,z3⟩ (by omega) (fun h22 Y K as kp U G=>?_) (fun Y K as L q kp U G hL nL gL=>?_)
 ·have I3:Inv X a3L σ H { s with heap:=Y,toks:=K }:=I.kept (t':=K) kp
  refine NR (A:=X.A.in1.in1) (s:={ s with heap:=Y,toks:=K }) (bs:=ps.map (·.2.1)) (ks:=ps.map (·.1)) (by show X.A.units+1+1<Vg;omega) G (by omega) U (by rw [S6,m]) (by rw [S6,m]) (fun j q y=>?_) nd
  obtain ⟨p,u,E,p2,p3,p4⟩:=M j q y
  have n:j<ps.length:=(S2.mp E).1
  have g:(ps.map (·.2.1)).getD j 0=p.2.1:=by simp [Ug,E]
  have ek:(ps.map (·.1)).getD j []=p.1:=by simp [Ug,E]
  rw [g,ek]
  have sq:=hk p (Ts E)
  refine ⟨p3,kJ I3 sq,?_⟩
  obtain ⟨xs,rx,t,_⟩:=I3.tuple sq
  exact ⟨xs,t,Mm rx⟩
 ·rw [m] at gL U
  have B:as.Nodup:=G.up.imp fun h=>TJ h
  have hin:∀ i∈qC ps,i<ps.length:=fun i hi=>Ul.mp ((dW _ _).mem_iff.mp hi)
  have T:(qC ps).length=ps.length:=by
   have:=(dW (fun i j=>HT.lexLt ((ps.map (·.1)).getD i []) ((ps.map (·.1)).getD j [])) ps.length).length_eq
   rw [X7] at this
   exact this
  have nLa:L∉as:=fun h=>nL L h rfl
  have I1:Inv X a3L σ (aN (c4 H as ps) L (.lst (dY as ps))) { s with heap:=Y,toks:=K }:=by
   refine DP (t':=K) I kp (fun b Z=>?_) fun b o Z g=>?_
   ·rw [bS (TJ (T1 Z hL)),iW fun h=>a2J Z (G.over b h)]
   ·by_cases O:b=L
    ·subst O
     rw [cV] at g
     cases g
     refine ⟨by unfold dY;rw [S6,T];exact hl,(qC ps).map fun i=>To (as.getD i 0),q,?_,gL⟩
     unfold dY
     exact xP fun i _=>rfl
    ·rw [bS O] at g
     by_cases R:b∈as
     ·obtain ⟨j,y⟩:=VS.mp R
      have n:j<ps.length:=by
       have:=(S2.mp y).1
       omega
      have A:ps[j]? = some ps[j]:=S7 n
      rw [n9 B y A] at g
      cases g
      obtain ⟨x,x1,x2⟩:=G.prs j _ y
      obtain ⟨p,u,E,p2,p3,p4⟩:=M j x x1
      rw [A] at E
      cases E
      obtain ⟨u',g1,g2⟩:=rv.get (i:=j) (x:=ps[j].2.2) (by rw [TB,A];rfl)
      rw [p2] at g1
      cases g1
      rw [p3,p4] at x2
      exact ⟨by show (2:Nat)<=Tj;decide,[.ref ps[j].2.1,u],.cons rfl (.cons g2 .nil),_,x2,rfl,0,rfl,rfl⟩
     ·rw [iW R,I.hok.fresh Z] at g
      cases g
  refine Bg a3L _ σ _ [.ref L] [.ref L] Q I1 (.cons rfl .nil) ⟨L,dY as ps,rfl,.inl ⟨.inl (.inl cV),fun l c=>?_⟩⟩
  have lL:l≠L:=fun h=>by rw [h,cV] at c;cases c
  rw [bS lL] at c
  have la:l∉as:=fun h=>by
   obtain ⟨j,y⟩:=VS.mp h
   have n:j<ps.length:=by
    have:=(S2.mp y).1
    omega
   rw [n9 B y (S7 n)] at c
   cases c
  rw [iW la] at c
  refine k as L l U ?_ fun a N=>?_
  ·rw [Uy,Uy]
   exact ⟨fun h=>(T5.mp h).elim lL la,nLa,B⟩
  ·rcases T5.mp N with rfl|N
   ·exact c
   rcases T5.mp N with rfl|N
   ·exact I.hok.fresh hL
   ·exact I.hok.fresh (W9 (G.over a N))
end
noncomputable def iX (k:List Int×D):D:=.tup [.tup (k.1.map D.int),k.2]
noncomputable def oA:D->Hm->Option (D×Hm)
 | .loc a,μ=>match μ[a]? with
  | some (.dT kvs)=>if xR kvs.length then some (.tup ((kN kvs).map iX),μ) else none
  | _=>none
 | _,_=>none
noncomputable def kR (m:ME):ME:=fun ρ a=>(m ρ a).bind fun r=>oA r.1 r.2
noncomputable def DQ (K:S1):V->Hp->VK->Prop:=fun x H Q=>∃ a ps,x=.ref a/\H a=some (bE a ps)/\cN K H ps/\xR ps.length /\
 ∀ (as:List Addr)(L l:Addr),as.length=ps.length->(l::L::as).Nodup->(∀ a∈l::L::as,H a=none)->Q (.ref l) (aN (aN (c4 H as ps) L (.lst (dY as ps))) l (.tup (dY as ps)))
section
variable {X:Cx}{o:Expr}{to:TE}{apos cpos p p2 pos pos2:Vc}
theorem N4 (hc:X.calm=true)(y:X.A.units+64<Vg)(u:X.mg "sorted" = none) (w:X.mg "tuple" = none) (n:Gl X "sorted") (r:Gl X "tuple") (T:PE X o to)
  (c:V6 o "items" X.env (eval o X.env)=eval o X.env) (d:(apos.endLine == cpos.line)=true) :
  PE X (.Call (.Name "tuple" p) [.Call (.Name "sorted" p2) [.Call (.Attribute o "items" apos) [] [] cpos] [] pos2] [] pos) (fun j H Q=>to j H fun x l=>DQ X.K x l Q):=by
 intro i s j H Q I h
 refine Vy (jA I r w WW ?_)
 refine Vu ?_ rfl rfl
 refine WG ?_
 refine Vy (jA I n u V1 ?_)
 refine WJ ?_ rfl rfl
 refine WG ?_
 refine Xb c d (aR (T i s j H _ I h) fun v A ⟨x,l,B,Z,a,ps,N,e,E,m,q⟩=>?_)
 subst N
 obtain rfl:v=To a:=Z
 obtain ⟨Y,hl,M,L,g,he⟩:=l8 B e E
 refine ⟨"dict","dict.items",WC,WB,ZH,g.ty,fun b K=>?_,VI rfl (XD ?_)⟩
 ·cases K
  obtain ⟨z,O,R,_⟩:=g
  exact ⟨z,O,R.2.1⟩
 refine YD WB g.ty Zy (Zm _) (DL a Y) ⟨⟨M,L,g⟩,?_⟩
 refine WX ?_
 have G:Inv X i j l { A with heap:=A.heap.push { cls:=.type "dict_items",data:=.fields #[.ref a] } }:=B.kept (t':=A.toks) fun b o e=>S9 _ e
 refine aR (N3 hc y G e E m ⟨_,Tz _ rfl,rfl,rfl⟩ q) fun v s' U=>WX U
end
theorem xS {K:S1}{π:Nat->Addr}{c:Hm}:∀ {as:List Addr}{ps:bK}{H:Hp},Rp K π H c->as.Nodup->(∀ a∈as,H a=none)->Ext π c.length H π c.length (c4 H as ps)/\Rp K π (c4 H as ps) c
 | [],_,H,R,_,_=>by simp only [c4];exact ⟨.refl,R⟩
 | a::as,[],H,R,_,_=>⟨.refl,R⟩
 | a::as,p::ps,H,R,nd,hf=>by
  rw [Uy] at nd
  obtain ⟨g,e⟩:=R.fresh (o:=.tup [.ref p.2.1,p.2.2]) (hf a (Tt ..))
  obtain ⟨h,R2⟩:=xS (as:=as) (ps:=ps) e nd.2 fun b d=>by
   rw [bS (fun w:b=a=>nd.1 (w ▸ d))]
   exact hf b (Tw _ d)
  exact ⟨g.trans h,R2⟩
theorem N5 {K:S1}{Y:ME}:∀ σ H Q,tM K (kR Y) σ H Q->tM K Y σ H fun x n=>DQ K x n Q:=by
 rintro σ H Q ⟨π,ρ,μ,d,o,R,E,g,k⟩
 obtain ⟨⟨x,B⟩,h1,g⟩:=S0.mp g
 refine ⟨π,ρ,μ,x,B,R,E,h1,fun h v1 n e1 G i1=>?_⟩
 have k1:=k.after e1
 dsimp only at g
 unfold oA at g
 split at g
 ·split at g
  ·rename_i b hc
   split at g
   ·rename_i hb
    cases g
    cases i1
    obtain ⟨c,e2,T⟩:=gY G hc
    have X:c.length=b.length:=by
     have:=congrArg US T.to.1
     simpa using this
    refine ⟨_,c,rfl,e2,T.keys,by rw [X];exact hb,fun e L l al m v=>?_⟩
    rw [Uy,Uy] at m
    obtain ⟨I,R3⟩:=xS (ps:=c) G m.2.2 fun a ha=>v a (Tw _ (Tw _ ha))
    have hL:c4 n e c L=none:=by rw [iW m.2.1];exact v L (Tw _ (Tt ..))
    obtain ⟨M,R4⟩:=R3.fresh (o:=.lst (dY e c)) hL
    have hl:aN (c4 n e c) L (.lst (dY e c)) l=none:=by
     rw [bS (fun w:l=L=>m.1 (by rw [w];exact Tt ..)),iW fun w=>m.1 (Tw _ w)]
     exact v l (Tt ..)
    obtain ⟨N,R5⟩:=R4.fresh (o:=.tup (dY e c)) hl
    refine k1 h _ _ ((I.trans M).trans N) R5 (.tup (.of cV) ?_)
    have z:c.map (·.1)=b.map (·.1):=T.to.1
    have A:∀ p:List Nat,(∀ i∈p,i<b.length)->IsDs K h o.length (aN (aN (c4 n e c) L (.lst (dY e c))) l (.tup (dY e c))) (p.map fun i=>V.ref (e.getD i 0)) (p.map (iX ∘ fun i=>b.getD i ([],.non))):=fun p r=>by
     induction p with
     | nil=>exact .nil
     | cons i p ih=>
      have s:=r i (Tt ..)
      have q:e[i]? = some (e.getD i 0):=by simp [Ug,show i<e.length by omega]
      have y:c[i]? = some c[i]:=S7 (by omega)
      have hik:b[i]? = some b[i]:=S7 s
      have O:b.getD i ([],.non)=b[i]:=by simp [Ug,s]
      have ep:c.getD i ([],0,.non)=c[i]:=by simp [Ug,show i<c.length by omega]
      have Z:=xO T ([],0,.non) ([],.non) i (by omega)
      rw [ep,O] at Z
      obtain ⟨q1,q2,q3⟩:=Z
      refine .cons ?_ (ih fun j hj=>r j (Tw _ hj))
      have u:aN (aN (c4 n e c) L (.lst (dY e c))) l (.tup (dY e c)) (e.getD i 0)=some (.tup [.ref c[i].2.1,c[i].2.2]):=by
       have g:=Ts q
       rw [bS (fun w:e.getD i 0=l=>m.1 (by rw [<- w];exact Tw _ g)),bS (fun w:e.getD i 0=L=>m.2.1 (by rw [<- w];exact g))]
       exact n9 m.2.2 q y
      show IsD K h o.length _ (.ref (e.getD i 0)) (iX (b.getD i ([],.non)))
      rw [O]
      have U:=(I.trans M).trans N
      have ik:IsD K h o.length n (.ref c[i].2.1) (.tup (b[i].1.map D.int)):=by
       rw [<- q1]
       exact .tup q2 (sE _)
      exact .tup (.of u) (.cons (ik.mono U) (.cons (q3.mono U) .nil))
    have ey:dY e c=(bU (fun i j=>HT.lexLt ((b.map (·.1)).getD i []) ((b.map (·.1)).getD j [])) b.length).map fun i=>V.ref (e.getD i 0):=by
     unfold dY qC
     rw [z,X]
    have fin:=A (bU (fun i j=>HT.lexLt ((b.map (·.1)).getD i []) ((b.map (·.1)).getD j [])) b.length) fun i s=>Ul.mp ((dW _ _).mem_iff.mp s)
    rw [<- ey] at fin
    unfold kN
    rw [Ud]
    exact fin
   ·cases g
  ·cases g
 ·cases g
theorem N6 {X:Cx}{o:Expr}{j:ME}{a b p q pos c:Vc}(hc:X.calm=true)(i:X.A.units+64<Vg)(g:X.mg "sorted" = none) (h:X.mg "tuple" = none) (d:Gl X "sorted") (e:Gl X "tuple") (m:QE X o j)(n:f9 o=true)(l:(a.endLine == b.line)=true) :
  QE X (.Call (.Name "tuple" p) [.Call (.Name "sorted" q) [.Call (.Attribute o "items" a) [] [] b] [] c] [] pos) (kR j):=
 ⟨cD (N4 hc i g h d e m.h (iP n) l) N5⟩
end L3
namespace L3
open PySem L2 PySem.W PyProof.Rows
section
variable {P:TC}{w:T7}{A:TR}{E:S4->S5->Prop}{s:S5}
theorem N7 {h:Type}{lt:h->h->Bool}(O:Ord1 lt)(d:h){ks:List h}{l:Addr}{us:List S4}{Q:S4->S5->Prop}(m:ks.length=us.length)(r:ks.Nodup)(u:us.Nodup)(hz:us.length<=Tj)(n:s.heap.IsList l us.toArray)
  (H:2<=us.length->∀ c:UA,(∀ b o,s.heap.get? b=some o->c.get? b=some o)->kM P w A.in1.in1 us (fun i j=>lt (ks.getD i d) (ks.getD j d)) { s with heap:=c })
  (q:Q (.ref (s.heap.objs.size+1)) { s with heap:=sortedAll s.heap us ((bU (fun i j=>lt (ks.getD i d) (ks.getD j d)) us.length).map fun i=>us.getD i UT).toArray }):TH (TK P w) A (call (.builtin "sorted") [.ref l]) Q E s:=by
 refine XZ a1M a1b a1d (a1e _) ?_
 unfold YQ
 refine S3 (m:=a2i "sorted" 1 1 _) (Tg (S3 (collect_list n (S3 (Yn ?_ (by omega))) (by omega))))
 have z:((s.heap.push (UR "list" #[] 0)).update s.heap.objs.size (UQ (·++us.toArray))).objs.size=s.heap.objs.size+1:=by rw [a1J,size_push']
 have g:(((s.heap.push (UR "list" #[] 0)).update s.heap.objs.size (UQ (·++us.toArray))).push (UR "list" us.toArray 0)).get? (s.heap.objs.size+1)=some (UR "list" us.toArray 0):=z ▸ Tz _ rfl
 show TH _ _ _ _ _ ⟨((s.heap.push (UR "list" #[] 0)).update s.heap.objs.size (UQ (·++us.toArray))).push (UR "list" us.toArray 0),s.gens,s.drawn,s.toks,s.os⟩
 rw [z]
 by_cases a:2<=us.length
 ·refine S3 (UB (U9 Xj ⟨_,g,rfl⟩ WY (xN O d m r u a hz g (fun c p=>H a c fun b o e=>p b o ?_ ?_) ⟨_,rfl,?_⟩) (Xo _)))
  ·exact TJ (Y7 (Tp e))
  ·exact S9 _ ((Vp _ _ (Vi (Tp e))).trans (S9 _ e))
  ·exact Tg ⟨_,rfl,q⟩
 ·refine S3 (UB (U9 Xj ⟨_,g,rfl⟩ WY (wZ (us:=us) (by omega) g ⟨_,rfl,?_⟩) (Xo _)))
  refine Tg ⟨_,rfl,?_⟩
  match us,a,q with
  | [],_,q=>rw [Vh,sC] at q;exact q
  | [b],_,q=>rw [VT,w4] at q;exact q
  | _::_::_,a,_=>simp at a
end
noncomputable def qD:List D->Option (List (List Int))
 | []=>some []
 | .tup [x,_]::r=>(dA x).bind fun k=>(qD r).map (k::·)
 | _=>none
noncomputable abbrev PrsV (K:S1)(H:Hp):List V->List (List Int)->Prop:=Vr fun v t=>∃ a b y,v=V.ref a/\SqT K H a [V.ref b,y]/\SqT K H b (t.map V.int)
theorem PrsV.get {K:S1}{H:Hp}:∀ {vs:List V}{c:List (List Int)}{i:Nat},PrsV K H vs c->i<vs.length->∃ a b y,vs[i]? = some (V.ref a)/\SqT K H a [V.ref b,y]/\SqT K H b ((c.getD i []).map V.int)
 | _,_,_,.nil,h=>by simp at h
 | _,_,0,.cons ⟨a,b,y,e,q,q2⟩ _,_=>⟨a,b,y,by rw [e];rfl,q,q2⟩
 | _,_,i+1,.cons _ t,h=>by
  obtain ⟨a,b,y,e,q⟩:=PrsV.get (i:=i) t (by simpa using h)
  exact ⟨a,b,y,by simpa using e,q⟩
theorem N8:∀ {xs:List D}{ks:List (List Int)},qD xs=some ks->ks.length=xs.length
 | [],ks,h=>by cases h;rfl
 | x::xs,ks,h=>by
  unfold qD at h
  split at h
  ·rename_i a;cases a
  ·rename_i a
   cases a
   obtain ⟨k,e,h⟩:=S0.mp h
   obtain ⟨d,b,c⟩:=S8.mp h
   subst c
   rw [TF,TF,N8 b]
  ·cases h
theorem N9 {K:S1}{π:Nat->Addr}{n:Nat}{H:Hp}:∀ {xs:List D}{vs:List V}{ks:List (List Int)},IsDs K π n H vs xs->qD xs=some ks->PrsV K H vs ks
 | [],_,ks,h,e=>by cases h;cases e;exact .nil
 | x::xs,_,ks,h,e=>by
  cases h with
  | cons h t=>
   unfold qD at e
   split at e
   ·rename_i a;cases a
   ·rename_i a
    cases a
    obtain ⟨k,l,e⟩:=S0.mp e
    obtain ⟨r,m,o⟩:=S8.mp e
    subst o
    cases h with
    | @tup p u ds q hd=>
     cases hd with
     | cons d g=>
      cases g with
      | cons g i=>
       cases i
       rw [w6 l] at d
       cases d with
       | @tup s v j c b=>
        have:=ints_of' b
        subst this
        exact .cons ⟨p,s,_,rfl,q,c⟩ (N9 t m)
   ·cases e
end L3
namespace L3
open PySem L2 PySem.Builtin PySem.Builtin.Str
noncomputable def oB:D->List D->Hm->Option (D×Hm)
 | .str x,[.str y],μ=>if (y.length == 0)=false/\x.length+2<=Tj then some (.loc μ.length,μ++[.lst ((Xp x y).map D.str)]) else none
 | _,_,_=>none
noncomputable def DR:V->List V->Hp->VK->Prop:=fun x vs H Q=>∃ (a b:Str),x=.str a/\vs=[.str b]/\(b.length == 0)=false/\a.length+2<=Tj/\∀ l,H l=none->Q (.ref l) (aN H l (.lst ((Xp a b).map V.str)))
theorem isStrs' {K:S1}{π:Nat->Addr}{n:Nat}{H:Hp}:∀ (k:List Str),IsDs K π n H (k.map V.str) (k.map D.str)
 | []=>.nil
 | x::k=>.cons (.str x) (isStrs' k)
theorem Oa {K:S1}:eH K oB DR:=by
 intro p H o x n d j v m Q R h b a k
 unfold oB at a
 split at a
 ·split at a
  ·rename_i c
   cases a
   cases h
   cases b with
   | cons i t=>
    cases i
    cases t
    refine ⟨_,_,rfl,rfl,c.1,c.2,fun l g=>?_⟩
    obtain ⟨e,R2,_⟩:=R.alloc (c:=.lst ((Xp _ _).map D.str)) (o:=.lst ((Xp _ _).map V.str)) g (isStrs' _)
    exact k _ _ _ e R2 gQ
  ·cases a
 ·cases a
theorem DS:∀ l:List (Str×a1f),Vals ((l.map (·.1)).map V.str) (a0P l)
 | []=>.nil
 | p::l=>.cons ⟨p.2,rfl⟩ (DS l)
theorem Ob {X:Cx}:fT X "str.split" DR:=by
 intro g s o H x K v G Q I A y h
 obtain ⟨a,b,rfl,rfl,n,r,q⟩:=h
 obtain ⟨t,rfl⟩:=A
 obtain ⟨u,rfl,w⟩:=y.one
 obtain ⟨j,rfl⟩:=w
 have fin:∀ (l:List (Str×a1f))(tk:Nat),l.map (·.1)=Xp a b->l.length<=Tj->EP X g o Q (.ref s.heap.objs.size) { s with heap:=s.heap.push { cls:=.type "list",data:=.seq (a0P l).toArray },toks:=tk }:=fun l tk e p=>by
  refine ⟨.ref s.heap.objs.size,_,I.laid (t':=tk) (a:=s.heap.objs.size) (o:=.lst ((Xp a b).map V.str)) (fun c E z=>S9 _ z) (Th _) ?_,rfl,q _ (I.hok.fresh (Th _))⟩
  rw [<- e]
  exact ⟨by rw [S6,S6];exact p,a0P l,0,DS l,Tz _ rfl⟩
 have m:(partsBetween a (occurrences a b 0 a.length (a.length+1)) b.length).length<=Tj:=by
  have B:=StrLaws.occ_length_le a b 0 a.length (a.length+1)
  rw [length_partsBetween];omega
 have one:(1:Nat)<=Tj:=by rw [TY];decide
 cases d:(decide (a.length<b.length)||decide (strKind a<strKind b))
 ·cases i:(occurrences a b 0 a.length (a.length+1)).isEmpty
  ·refine W4 F.slot_str_split (Yd _ _ _) F.entry_str_split (F.args_str_split_2 _ _) (meets_str_split_sep a b t j d n i (by omega) m) ?_
   show wants (EP X g o Q) X.xe _ { s with toks:=_,heap:=s.heap.push { cls:=.type "list",data:=.seq (strsFrom s.toks (partsBetween a (occurrences a b 0 a.length (a.length+1)) b.length)).toArray } }
   rw [strsFrom_eq]
   refine fin (numbered s.toks _) _ ((a3z _ _).trans ((if_neg (ne_true_of_eq_false d)).trans (if_neg (ne_true_of_eq_false i))).symm) ?_
   have:=congrArg US (a3z s.toks (partsBetween a (occurrences a b 0 a.length (a.length+1)) b.length))
   rw [S6] at this
   rw [this]
   exact m
  ·exact W4 F.slot_str_split (Yd _ _ _) F.entry_str_split (F.args_str_split_2 _ _) (meets_str_split_not_found a b t j d n i) (fin [(a,t)] s.toks ((if_neg (ne_true_of_eq_false d)).trans (if_pos i)).symm one)
 ·exact W4 F.slot_str_split (Yd _ _ _) F.entry_str_split (F.args_str_split_2 _ _) (meets_str_split_cannot_occur a b t j d) (fin [(a,t)] s.toks (if_pos d).symm one)
end L3
namespace L3
open PySem L2 PySem.W PyProof.Rows
section
variable {P:TC}{w:T7}{A:TR}{E:S4->S5->Prop}{s:S5}
theorem Oc {T:String}{r d:Addr}{H:UA->Prop}{es:Array UD}{Q:S4->S5->Prop}{bs:List Addr}{ks:List (List Int)}(K:KdlSrc P w T r d es.size (fun i v=>∃ e,es[i]? = some e/\v=e.key) H)(X:A.handled=none)(z:H s.heap)(I:es.toList.map (·.key)=bs.map To)(hz:es.size<=Tj)(M:ks.length=bs.length)(nd:ks.Nodup)(B:bs.Nodup)
  (key:∀ (j:Nat)(b:Addr),bs[j]? = some b->DM s.heap b (ks.getD j [])/\ks.getD j []≠[])
  (q:∀ (h' u:UA)(tk:Nat)(e:Nat),(∀ b o,s.heap.get? b=some o->h'.get? b=some o)->(∀ b o,h'.get? b=some o->u.get? b=some o)->u.get? h'.objs.size=some (UR "list" ((bU (fun i j=>HT.lexLt (ks.getD i []) (ks.getD j [])) es.size).map fun i=>To (bs.getD i 0)).toArray e)->Q (.ref h'.objs.size) { s with heap:=u,toks:=tk }) :
  TH (TK P w) A (call (.builtin "sorted") [.ref r]) Q E s:=by
 have g:bs.length=es.size:=by
  have:=congrArg US I
  simpa using this.symm
 refine XZ a1M a1b a1d (a1e _) ?_
 unfold YQ
 refine S3 (m:=a2i "sorted" 1 1 _) (Tg (S3 (kdu_collect (A:=A.in1) K X z hz fun h' tk c O a=>?_)))
 have R:c.toList=bs.map To:=by
  rw [<- I]
  refine VA fun i=>?_
  rw [TB,UY,UY]
  cases N:c[i]? with
  | some v=>
   obtain ⟨e,z1,z2⟩:=a.2 i v N
   rw [z1,z2];rfl
  | none=>
   have:c.size<=i:=by simpa using N
   rw [Yk (by rw [<- a.1];exact this)];rfl
 rw [R]
 have G:(bs.map To).length=es.size:=by rw [S6,g]
 refine S3 (Yn ?_ (by rw [G];omega))
 have nu:(bs.map To).Nodup:=by
  unfold XT
  rw [Ur]
  exact B.imp fun h e=>h (by cases e;rfl)
 have m:(h'.push (UR "list" (bs.map To).toArray 0)).get? h'.objs.size=some (UR "list" (bs.map To).toArray 0):=Tz _ rfl
 have fin:∀ l:List S4,l=((bU (fun i j=>HT.lexLt (ks.getD i []) (ks.getD j [])) es.size).map fun i=>To (bs.getD i 0))->Q (.ref h'.objs.size) { s with heap:=YC (h'.push (UR "list" (bs.map To).toArray 0)) h'.objs.size (bs.map To) l.toArray,toks:=tk }:=by
  rintro l rfl
  obtain ⟨e,U⟩:=sortedHeap_at (h:=h'.push (UR "list" (bs.map To).toArray 0)) (out:=((bU (fun i j=>HT.lexLt (ks.getD i []) (ks.getD j [])) es.size).map fun i=>To (bs.getD i 0)).toArray) m
  refine q h' _ tk e O (fun b o x=>?_) U
  rw [a3v (TJ (Tp x)) (by rw [XU];exact Y7 (Tp x))]
  exact S9 _ x
 by_cases L:2<=es.size
 ·refine S3 (UB (U9 Xj (s:={ s with heap:=h'.push (UR "list" (bs.map To).toArray 0),toks:=tk }) ⟨_,m,rfl⟩ WY (xN xE [] (ks:=ks) (by rw [G,M,g]) nd nu (by omega) (by omega) m (fun u Z=>?_) ⟨_,rfl,?_⟩) (Xo _)))
  ·refine DN (by omega) M fun j b Y=>?_
   obtain ⟨⟨xs,⟨o,o1,o2⟩,n⟩,y⟩:=key j b Y
   have p:=O _ _ o1
   exact ⟨⟨xs,⟨o,Z b o (TJ (Tp p)) (S9 _ p),o2⟩,n⟩,y⟩
  ·refine Tg ⟨_,rfl,fin _ ?_⟩
   rw [G]
   refine UX fun i n=>?_
   have n:i<bs.length:=by
    have:=Ul.mp ((dW _ es.size).mem_iff.mp n)
    omega
   simp [Ug,n]
 ·refine S3 (UB (U9 Xj (s:={ s with heap:=h'.push (UR "list" (bs.map To).toArray 0),toks:=tk }) ⟨_,m,rfl⟩ WY (wZ (by omega) m ⟨_,rfl,?_⟩) (Xo _)))
  refine Tg ⟨_,rfl,fin (bs.map To) ?_⟩
  match bs,g with
  | [],e=>rw [<- e];show []=(bU _ 0).map _;rw [sC];rfl
  | [b],e=>rw [<- e];show [To b]=(bU _ 1).map _;rw [w4];rfl
  | _::_::_,e=>rw [<- e] at L;simp at L
theorem Od (d:Addr)(hd:(d == U0)=false):MeetsIn P w (Builtin.«dict.keys» ⟨[.ref d],[]⟩) (fun _ R s=>(∃ es ep,RawD s.heap d es ep) /\
   R (.ok (.ret (.ref s.heap.objs.size))) { s with heap:=s.heap.push { cls:=.type "dict_keys",data:=.fields #[.ref d] } }):=
 .of_wp fun A R s ⟨⟨es,ep,g⟩,h⟩=>by
  unfold Builtin.«dict.keys»
  refine S3 ?_
  unfold ZE
  refine S3 (XB g.ty ?_)
  show TH _ _ (pure d) _ _ s
  refine Tg ?_
  show TH _ _ (VF d >>= _) _ _ s
  unfold VF
  rw [if_neg (by rw [hd];exact Uc)]
  refine S3 (Tg ?_)
  exact S3 (U1 (Tg ⟨_,rfl,h⟩))
theorem Oe {v d:Addr}{es:Array UD}{ep:Nat}{Q:S4->S5->Prop}(h:KdlKeysView s.heap v d)(g:RawD s.heap d es ep)
  (j:Q (.ref s.heap.objs.size) { s with heap:=s.heap.push { cls:=.type "dict_keyiterator",data:=.fields #[.ref d,.int 0 0,.int es.size 0,.int ep 0] } }) :
  TH (TK P w) A (ZQ (.ref v)) Q E s:=by
 obtain ⟨m,e,l,c⟩:=id h
 obtain ⟨o,i,hc,a⟩:=id g
 refine Zr h.typeIs a2f (U9 a2f h.typeIs kdl_entry_keys_iter ?_ (kdl_args_keys_iter _))
 unfold Builtin.«dict_keys.__iter__»
 refine S3 (Tg ?_)
 refine S3 ?_
 unfold Yz
 refine S3 (XQ e c (x:=.ref d) rfl (Tg ?_))
 refine S3 ?_
 unfold Yi
 refine S3 (Wu i a ?_)
 refine S3 (XW i a ?_)
 have b:VY "dict_keyiterator" = false:=by decide
 simp only [b,Te,if_false]
 refine U1 (Tg ⟨_,rfl,"dict_keyiterator",_,⟨_,Tz _ rfl,rfl⟩,PySem.F.slot_dict_keyiterator_next.lookup,?_⟩)
 simpa [WO] using j
theorem Of {r d:Addr}{es:Array UD}{ep:Nat}:KdlSrc P w "dict_keys" r d es.size (fun i v=>∃ e,es[i]? = some e/\v=e.key) (fun h=>KdlKeysView h r d/\RawD h d es ep) where
 type:=fun _ g=>g.1.typeIs
 there:=fun _ g=>⟨let ⟨_,a,_⟩:=g.1;Tp a,g.2.lt⟩
 keep:=fun _ _ g c=>⟨let ⟨o,a,x⟩:=g.1;⟨o,c r (.inl rfl) o a,x⟩,g.2.stay fun o e=>c d (.inr rfl) o e⟩
 notList:=by decide
 notTuple:=by decide
 hint:=fun _ _ _ _ g b=>kdl_hint_keys g.1.typeIs b
 iter:=fun _ _ j g=>⟨_,_,(fun _ _ b=>Oe g.1 g.2 b),Ds j (TJ g.2.lt) es ep,⟨⟨_,Tz _ rfl,rfl,rfl⟩,g.2.stay fun o e=>S9 _ e⟩⟩
theorem Og {r d:Addr}{es:Array UD}{ep:Nat}{Q:S4->S5->Prop}(L:A.handled=none)(v:s.heap.IsItemsView r d)(g:RawD s.heap d es ep)(M:es.size<=Tj)
  (H:∀ (h':UA)(tk c:Nat)(as:List Addr),(∀ b o,s.heap.get? b=some o->h'.get? b=some o)->h'.get? s.heap.objs.size=some (UR "list" (as.map To).toArray c)->as.length=es.size->PrsAt es s.heap.objs.size h' as->Q (.ref s.heap.objs.size) { s with heap:=h',toks:=tk }) :
  TH (TK P w) A (call (.type "list") [.ref r]) Q E s:=by
 refine a3F (Q₁:=fun m i=>m=.ref s.heap.objs.size/\i = { s with heap:=s.heap.push { cls:=.type "list",data:=.seq #[] } }) PySem.F.called_list (PySem.F.typeCall_list_1 _) PySem.F.entry_list_init
  (code_list_new _ ⟨rfl,rfl⟩) fun m i l=>?_
 obtain ⟨rfl,rfl⟩:=l
 have n:(s.heap.push { cls:=.type "list",data:=.seq #[] }).get? s.heap.objs.size=some { cls:=.type "list",data:=.seq #[] }:=Tz _ rfl
 have N:r<s.heap.objs.size:=let ⟨_,p,_⟩:=v;Tp p
 have z:=g.lt
 refine ⟨⟨_,n,rfl⟩,PySem.F.args_list_init_2 _ _,?_⟩
 show TH _ _ (do let h <- Zd (.ref s.heap.objs.size);a3o (.ref s.heap.objs.size) (fun _=>#[]);letGo h.toList.reverse;V7 (.ref s.heap.objs.size) (.ref r) .none) _ _ _
 refine S3 ?_
 unfold Zd
 refine S3 (wpAny_seqItems n rfl (Tg ?_))
 show TH _ _ (a2D s.heap.objs.size (fun _=>#[]) >>= fun _=>letGo (#[]:Array S4).toList.reverse >>= fun _=>V7 (.ref s.heap.objs.size) (.ref r) .none) _ _ _
 refine S3 (YG n rfl ?_)
 have j:=Wf (UQ (fun _=>(#[]:Array S4))) n rfl
 have eW:∀ b o,b≠s.heap.objs.size->(s.heap.push { cls:=.type "list",data:=.seq #[] }).get? b=some o->((s.heap.push { cls:=.type "list",data:=.seq #[] }).update s.heap.objs.size (UQ (fun _=>(#[]:Array S4)))).get? b=some o:=
  fun b o K e=>(Vp _ _ (U6 K)).trans e
 have h:∀ b o,s.heap.get? b=some o->((s.heap.push { cls:=.type "list",data:=.seq #[] }).update s.heap.objs.size (UQ (fun _=>(#[]:Array S4)))).get? b=some o:=fun b o e=>eW b o (TJ (Tp e)) (S9 _ e)
 have q:((s.heap.push { cls:=.type "list",data:=.seq #[] }).update s.heap.objs.size (UQ (fun _=>(#[]:Array S4)))).objs.size=s.heap.objs.size+1:=by rw [a1J,XU]
 refine S3 (wpAny_letGo ?_)
 refine DJ (A:=A.in1) (s:={ s with heap:=(s.heap.push { cls:=.type "list",data:=.seq #[] }).update s.heap.objs.size (UQ (fun _=>(#[]:Array S4))) }) L (let ⟨o,p,x⟩:=v;⟨o,h _ _ p,x⟩) (g.stay fun o e=>h _ _ e) (Vi N) (TJ z) j M (fun h' tk y c as O R T u U=>?_)
 refine ⟨rfl,H h' tk c as (fun b o e=>O b o (TJ (Tp e)) (h b o e)) ?_ T ⟨u.up,fun a I=>?_,u.prs⟩⟩
 ·rw [R,<- U,Array.toArray_toList]
 ·have B:_<a:=u.over a I
  have G:s.heap.objs.size+1<a:=q ▸ B
  exact a1B G
end
section
variable {X:Cx}{a3L:List (Addr×VC)}{σ:L2.St}{H:Hp}{s:S5}
noncomputable def sP (K:S1):List V->Hp->VK->Prop:=fun xs H Q=>∃ a ps,xs=[V.ref a]/\H a=some (bE a ps)/\cN K H ps/\(∀ p∈ps,p.1≠[])/\∀ l,H l=none->Q (.ref l) (aN H l (.lst ((iV ps).map fun p=>V.ref p.2.1)))
theorem DT (I:L2.Inv X a3L σ H s){a:Addr}{ps:bK}(e:H a=some (bE a ps))(c:cN X.K H ps):(ps.map (·.1)).Nodup/\(ps.map (·.2.1)).Nodup:=by
 obtain ⟨p,o,q,l,z,n,m,r,u,v,w,A,g⟩:=gX I (.of e) c
 have b:(ps.map (·.1)).Nodup:=by rw [lY l] at g;exact g
 refine ⟨b,?_⟩
 unfold XT at b ⊢
 rw [Ur] at b ⊢
 refine Wj (fun {x y} i j h e=>h ?_) b
 have d:=c x i
 rw [e] at d
 exact CH I d (c y j)
theorem DU {T:String}{r a:Addr}{z:UA->Prop}{es:Array UD}{ps:bK}{Q:VK}(hc:X.calm=true)(I:L2.Inv X a3L σ H s)(g:ps.length<=Tj)(A:es.toList.map (·.key)=ps.map fun p=>To p.2.1)(K:KdlSrc X.prog X.w T r a es.size (fun i v=>∃ e,es[i]? = some e/\v=e.key) z)(u:z s.heap)
  (O:cN X.K H ps)(E:(ps.map (·.1)).Nodup/\(ps.map (·.2.1)).Nodup)(o:∀ p∈ps,p.1≠[])(q:∀ l,H l=none->Q (.ref l) (aN H l (.lst ((iV ps).map fun p=>V.ref p.2.1)))):TH (TK X.prog X.w) X.A (call (.builtin "sorted") [.ref r]) (EP X a3L σ Q) X.xe s:=by
 have R:es.size=ps.length:=by
  have:=congrArg US A
  simpa using this
 have M:∀ {j:Nat}{b:Addr},(ps.map (·.2.1))[j]? = some b->∃ p∈ps,ps[j]? = some p/\p.2.1=b:=fun {j b} c=>by
  rw [TB] at c
  obtain ⟨p,d,L⟩:=S8.mp c
  exact ⟨p,Ts d,d,L⟩
 refine Oc (bs:=ps.map (·.2.1)) (ks:=ps.map (·.1)) K (I.ok.hd hc) u (by rw [A,Ud];rfl) (by omega) (by simp) E.1 E.2 (fun j b c=>?_) fun h N x e Y Z k3=>?_
 ·obtain ⟨p,B,d,rfl⟩:=M c
  have G:(ps.map (·.1)).getD j []=p.1:=by simp [Ug,d]
  rw [G]
  obtain ⟨w,rx,t,_⟩:=I.tuple (O p B)
  exact ⟨⟨w,t,vF rx⟩,o p B⟩
 ·have y:Inv X a3L σ H { s with heap:=h,toks:=x }:=I.kept (t':=x) Y
  refine ⟨.ref h.objs.size,_,y.laid (t':=x) (h':=N) (a:=h.objs.size) (o:=.lst ((iV ps).map fun p=>V.ref p.2.1)) Z (Th _) ?_,rfl,q _ (y.hok.fresh (Th _))⟩
  have n:(iV ps).length=ps.length:=sortT_perm.length_eq
  refine ⟨by rw [S6,n];exact g,_,e,?_,k3⟩
  unfold iV
  rw [R,Ud]
  have:∀ l:List Nat,(∀ i∈l,i<ps.length)->Vals (l.map ((fun p:List Int×Addr×V=>V.ref p.2.1) ∘ fun i=>ps.getD i ([],0,.non))) (l.map fun i=>To ((ps.map (·.2.1)).getD i 0)):=fun l g=>by
   induction l with
   | nil=>exact .nil
   | cons i l U=>
    refine .cons ?_ (U fun j c=>g j (Tw _ c))
    have m:=g i (Tt ..)
    show To _=To _
    simp [Ug,m]
  exact this _ fun i m=>Ul.mp ((dW _ ps.length).mem_iff.mp m)
theorem Oh (hc:X.calm=true):CallR X (.builtin "sorted") (sP X.K):=by
 intro a3L s σ H v p Q I r h
 obtain ⟨a,o,rfl,d,b,c,q⟩:=h
 obtain ⟨u,rfl,l⟩:=gK r
 cases l
 obtain ⟨j,i,n,m,g,e⟩:=l8 I d b
 exact DU hc I i e (Dt j) g b (DT I d b) c q
noncomputable def kS:MF:=fun ds b=>match ds with
 | [.loc a]=>match b[a]? with
  | some (.dT kvs)=>if (∀ p∈kvs,p.1≠[]) then some (.loc b.length,b++[.lst ((kN kvs).map fun k=>D.tup (k.1.map D.int))]) else none
  | _=>none
 | _=>none
theorem DV {K:S1}:d8 K kS (sP K):=by
 intro B H A y d v x Q R i a k
 unfold kS at a
 split at a
 ·split at a
  ·rename_i b u
   split at a
   ·rename_i m
    cases a
    cases i with
    | cons i t=>
     cases t
     cases i
     obtain ⟨c,j,T⟩:=gY R u
     obtain ⟨w,g⟩:=NT T
     refine ⟨_,c,rfl,j,T.keys,fun p o z=>?_,fun l n=>?_⟩
     ·have:p.1∈b.map (·.1):=by rw [<- T.to.1];exact TQ.mpr ⟨p,o,rfl⟩
      obtain ⟨q,r,e⟩:=TQ.mp this
      exact m q r (e.trans z)
     ·obtain ⟨h,R2,_⟩:=R.alloc (c:=.lst ((kN b).map fun k:List Int×D=>D.tup (k.1.map D.int))) (o:=.lst ((iV c).map fun p:List Int×Addr×V=>V.ref p.2.1)) n g.to.2.1
      exact k _ _ _ h R2 gQ
   ·cases a
  ·cases a
 ·cases a
noncomputable def oC (m:ME):ME:=fun ρ a=>(m ρ a).bind fun r=>kS [r.1] r.2
theorem Oi {o:Expr}{to:TE}{c d p pos:Vc}(hc:X.calm=true)(u:X.mg "sorted" = none) (n:Gl X "sorted") (R:PE X o to)
  (i:V6 o "keys" X.env (eval o X.env)=eval o X.env) (j:(c.endLine == d.line)=true) :
  PE X (.Call (.Name "sorted" p) [.Call (.Attribute o "keys" c) [] [] d] [] pos) (fun σ H Q=>to σ H fun x l=>sP X.K [x] l Q):=by
 intro a3L s σ H Q I h
 refine Vy (jA I n u V1 ?_)
 refine WJ ?_ rfl rfl
 refine WG ?_
 refine Xb i j (aR (R a3L s σ H _ I h) fun v y ⟨x,l,m,U,a,Y,K,e,r,w,q⟩=>?_)
 cases K
 obtain rfl:v=To a:=U
 obtain ⟨T,O,G,A,g,N⟩:=l8 m e r
 refine ⟨"dict","dict.keys",WC,ZU,PySem.F.type_dict_keys,g.ty,fun b E=>?_,VI rfl (XD ?_)⟩
 ·cases E
  obtain ⟨z,L,M,_⟩:=g
  exact ⟨z,L,M.2.1⟩
 refine YD ZU g.ty PySem.F.entry_dict_keys (PySem.F.args_dict_keys_1 _) (Od a T) ⟨⟨G,A,g⟩,?_⟩
 refine WX ?_
 have B:Inv X a3L σ l { y with heap:=y.heap.push { cls:=.type "dict_keys",data:=.fields #[.ref a] } }:=m.kept (t':=y.toks) fun b o e=>S9 _ e
 exact DU hc B O N (Of (ep:=A)) ⟨⟨_,Tz _ rfl,rfl,rfl⟩,g.stay fun o e=>S9 _ e⟩ r (DT m e r) w q
theorem Oj {K:S1}{h:ME}:∀ σ H Q,tM K (oC h) σ H Q->tM K h σ H fun x b=>sP K [x] b Q:=by
 rintro σ H Q ⟨p,q,o,d,e,R,E,c,k⟩
 obtain ⟨⟨x,a⟩,l,c⟩:=S0.mp c
 refine ⟨p,q,o,x,a,R,E,l,fun g n b j i m=>?_⟩
 exact DV g b a [x] d e [n] Q i (.cons m .nil) c (k.after j)
theorem Ol {o:Expr}{e:ME}{a b p pos:Vc}(hc:X.calm=true)(d:X.mg "sorted" = none) (c:Gl X "sorted") (h:QE X o e)(i:f9 o=true)(g:(a.endLine == b.line)=true) :
  QE X (.Call (.Name "sorted" p) [.Call (.Attribute o "keys" a) [] [] b] [] pos) (oC e):=
 ⟨cD (Oi hc d c h.h (iP i) g) Oj⟩
noncomputable def sQ:D->Hm->Option (D×Hm)
 | .loc a,μ=>match μ[a]? with
  | some (.dT kvs)=>some (.loc μ.length,μ++[.lst (kvs.map iX)])
  | _=>none
 | _,_=>none
noncomputable def oD (m:ME):ME:=fun ρ a=>(m ρ a).bind fun r=>sQ r.1 r.2
noncomputable def DW (K:S1):V->Hp->VK->Prop:=fun x H Q=>∃ a ps,x=.ref a/\H a=some (bE a ps)/\cN K H ps /\
 ∀ (as:List Addr)(L:Addr),as.length=ps.length->(L::as).Nodup->(∀ a∈L::as,H a=none)->Q (.ref L) (aN (c4 H as ps) L (.lst (as.map V.ref)))
theorem DX:∀ as:List Addr,Vals (as.map V.ref) (as.map To)
 | []=>.nil
 | a::as=>.cons rfl (DX as)
theorem Om {d r:Addr}{ps:bK}{Q:VK}(hc:X.calm=true)(I:L2.Inv X a3L σ H s)(e:H d=some (bE d ps))(hk:cN X.K H ps)(hv:s.heap.IsItemsView r d)
  (k:∀ (as:List Addr)(L:Addr),as.length=ps.length->(L::as).Nodup->(∀ a∈L::as,H a=none)->Q (.ref L) (aN (c4 H as ps) L (.lst (as.map V.ref)))) :
  TH (TK X.prog X.w) X.A (call (.type "list") [.ref r]) (EP X a3L σ Q) X.xe s:=by
 obtain ⟨lo,hl,y,Z,z,T,ep,z1,z2,z3,z4,z5,z6⟩:=gX I (.of e) hk
 have N:y.length=ps.length:=by
  have:=Z.length
  rw [S6] at this
  exact this.symm
 have O:(bM ps y).length=ps.length:=by unfold bM;rw [a0J,N,a2I]
 have G:T.size=ps.length:=by rw [<- WA,z4,S6,O]
 have B:∀ (j:Nat)(l:UD),T[j]? = some l->∃ p u,ps[j]? = some p/\y[j]? = some u/\l.key=.ref p.2.1/\l.val=u:=fun j l h=>by
  rw [<- UY,z4,TB] at h
  obtain ⟨x,c,rfl⟩:=S8.mp h
  unfold bM at c
  rw [a0m] at c
  cases i:ps[j]? with
  | none=>rw [i] at c;simp at c
  | some p=>
   cases hw:y[j]? with
   | none=>rw [i,hw] at c;simp at c
   | some u=>
    rw [i,hw] at c
    have:(p.1,p.2.1,u)=x:=by simpa using c
    subst this
    exact ⟨p,u,rfl,rfl,rfl,rfl⟩
 refine Og (I.ok.hd hc) hv ⟨z,z1,z2,z3⟩ (by omega) fun h3 tk l as kp gL A v=>?_
 rw [G] at A
 have q:as.Nodup:=v.up.imp fun h=>TJ h
 have R:s.heap.objs.size∉as:=fun h=>Vn _ (v.over _ h)
 have hf:∀ a∈s.heap.objs.size::as,H a=none:=fun a E=>by
  rcases T5.mp E with rfl|E
  ·exact I.hok.fresh (Th _)
  ·exact I.hok.fresh (W9 (v.over a E))
 refine ⟨.ref s.heap.objs.size,_,?_,rfl,k as s.heap.objs.size A (Uy.mpr ⟨R,q⟩) hf⟩
 refine DP (t':=tk) I kp (fun b w=>?_) fun b o w g=>?_
 ·rw [bS (TJ w),iW fun h=>a2J w (v.over b h)]
 ·by_cases m:b=s.heap.objs.size
  ·subst m
   rw [cV] at g
   cases g
   exact ⟨by rw [S6,A];exact hl,as.map To,l,DX as,gL⟩
  ·rw [bS m] at g
   by_cases n:b∈as
   ·obtain ⟨j,K⟩:=VS.mp n
    have M:j<ps.length:=by
     have:=(S2.mp K).1
     omega
    have i:ps[j]? = some ps[j]:=S7 M
    rw [n9 q K i] at g
    cases g
    obtain ⟨x,x1,x2⟩:=v.prs j _ K
    obtain ⟨p,u,Y,p2,p3,p4⟩:=B j x x1
    rw [i] at Y
    cases Y
    obtain ⟨u',U,g2⟩:=Z.get (i:=j) (x:=ps[j].2.2) (by rw [TB,i];rfl)
    rw [p2] at U
    cases U
    rw [p3,p4] at x2
    exact ⟨by show (2:Nat)<=Tj;decide,[.ref ps[j].2.1,u],.cons rfl (.cons g2 .nil),_,x2,rfl,0,rfl,rfl⟩
   ·rw [iW n,I.hok.fresh w] at g
    cases g
theorem Oo {o:Expr}{to:TE}{c d p pos:Vc}(hc:X.calm=true)(n:X.mg "list" = none) (m:Gl X "list") (M:PE X o to)
  (i:V6 o "items" X.env (eval o X.env)=eval o X.env) (j:(c.endLine == d.line)=true) :
  PE X (.Call (.Name "list" p) [.Call (.Attribute o "items" c) [] [] d] [] pos) (fun σ H Q=>to σ H fun x l=>DW X.K x l Q):=by
 intro a3L s σ H Q I h
 refine Vy (jA I m n W5 ?_)
 refine Vu ?_ rfl rfl
 refine WG ?_
 refine Xb i j (aR (M a3L s σ H _ I h) fun v r ⟨x,l,u,O,a,U,G,e,w,q⟩=>?_)
 subst G
 obtain rfl:v=To a:=O
 obtain ⟨N,T,E,B,g,R⟩:=l8 u e w
 refine ⟨"dict","dict.items",WC,WB,ZH,g.ty,fun b A=>?_,VI rfl (XD ?_)⟩
 ·cases A
  obtain ⟨z,K,L,_⟩:=g
  exact ⟨z,K,L.2.1⟩
 refine YD WB g.ty Zy (Zm _) (DL a N) ⟨⟨E,B,g⟩,?_⟩
 refine WX ?_
 have y:Inv X a3L σ l { r with heap:=r.heap.push { cls:=.type "dict_items",data:=.fields #[.ref a] } }:=u.kept (t':=r.toks) fun b o e=>S9 _ e
 exact Om hc y e w ⟨_,Tz _ rfl,rfl,rfl⟩ q
theorem Oq {K:S1}{G:ME}:∀ σ H Q,tM K (oD G) σ H Q->tM K G σ H fun x n=>DW K x n Q:=by
 rintro σ H Q ⟨π,ρ,μ,d,μ',R,E,l,k⟩
 obtain ⟨⟨x,g⟩,h1,l⟩:=S0.mp l
 refine ⟨π,ρ,μ,x,g,R,E,h1,fun m v1 n O z i1=>?_⟩
 have k1:=k.after O
 dsimp only at l
 unfold sQ at l
 split at l
 ·split at l
  ·rename_i b hc
   cases l
   cases i1
   obtain ⟨e,U,T⟩:=gY z hc
   have el:e.length=b.length:=by
    have:=congrArg US T.to.1
    simpa using this
   refine ⟨_,e,rfl,U,T.keys,fun c L al r B=>?_⟩
   rw [Uy] at r
   obtain ⟨u,M⟩:=xS (ps:=e) z r.2 fun a ha=>B a (Tw _ ha)
   have hL:c4 n c e L=none:=by rw [iW r.1];exact B L (Tt ..)
   have p:IsDs K m g.length (c4 n c e) (c.map V.ref) (b.map iX):=by
    have y:∀ o:List Nat,(∀ i∈o,i<b.length)->IsDs K m g.length (c4 n c e) (o.map fun i=>V.ref (c.getD i 0)) (o.map fun i=>iX (b.getD i ([],.non))):=fun o q=>by
     induction o with
     | nil=>exact .nil
     | cons i o ih=>
      have h:=q i (Tt ..)
      have v:c[i]? = some (c.getD i 0):=by simp [Ug,show i<c.length by omega]
      have w:e[i]? = some e[i]:=S7 (by omega)
      have A:b.getD i ([],.non)=b[i]:=by simp [Ug,h]
      have ep:e.getD i ([],0,.non)=e[i]:=by simp [Ug,show i<e.length by omega]
      have I:=xO T ([],0,.non) ([],.non) i (by omega)
      rw [ep,A] at I
      obtain ⟨q1,q2,q3⟩:=I
      refine .cons ?_ (ih fun j hj=>q j (Tw _ hj))
      show IsD K m g.length _ (.ref (c.getD i 0)) (iX (b.getD i ([],.non)))
      rw [A]
      have ik:IsD K m g.length n (.ref e[i].2.1) (.tup (b[i].1.map D.int)):=by
       rw [<- q1]
       exact .tup q2 (sE _)
      exact .tup (.of (n9 r.2 v w)) (.cons (ik.mono u) (.cons (q3.mono u) .nil))
    have:=y (Ui b.length) fun i h=>Ul.mp h
    have Z:(Ui b.length).map (fun i=>V.ref (c.getD i 0))=c.map V.ref:=by
     apply VA
     intro i
     rw [TB,TB]
     by_cases h:i<b.length
     ·rw [VH h,S7 (show i<c.length by omega)]
      simp [Ug,show i<c.length by omega]
     ·rw [Up (by simp;omega),Up (by omega)]
      rfl
    have e6:(Ui b.length).map (fun i=>iX (b.getD i ([],.non)))=b.map iX:=by
     apply VA
     intro i
     rw [TB,TB]
     by_cases h:i<b.length
     ·rw [VH h,S7 h]
      simp [Ug,h]
     ·rw [Up (by simp;omega),Up (by omega)]
      rfl
    rw [Z,e6] at this
    exact this
   obtain ⟨Y,N,_⟩:=M.alloc (c:=.lst (b.map iX)) (o:=.lst (c.map V.ref)) hL p
   exact k1 _ _ _ (u.trans Y) N gQ
  ·cases l
 ·cases l
theorem Ot {o:Expr}{e:ME}{a b p pos:Vc}(hc:X.calm=true)(d:X.mg "list" = none) (c:Gl X "list") (h:QE X o e)(i:f9 o=true)(g:(a.endLine == b.line)=true) :
  QE X (.Call (.Name "list" p) [.Call (.Attribute o "items" a) [] [] b] [] pos) (oD e):=
 ⟨cD (Oo hc d c h.h (iP i) g) Oq⟩
noncomputable def kT:MF:=fun ds b=>match ds with
 | [x]=>(nO b x).bind fun c=>(pR c).bind fun a=>if a.Nodup/\∀ t∈a,t≠[] then some (.loc b.length,b++[.lst ((bU (kK a) a.length).map fun i=>c.getD i .non)]) else none
 | _=>none
noncomputable def DY (K:S1):List V->Hp->VK->Prop:=fun xs H Q=>∃ q ws ks,xs=[V.ref q]/\SqL K H q ws/\TupsV K H ws ks/\ks.Nodup/\(∀ t∈ks,t≠[])/\∀ l,H l=none->Q (.ref l) (aN H l (.lst ((bU (kK ks) ws.length).map fun i=>ws.getD i .non)))
theorem Ou {K:S1}:d8 K kT (DY K):=by
 intro y H x w d u v Q R i a k
 unfold kT at a
 split at a
 ·obtain ⟨r,m,a⟩:=S0.mp a
  obtain ⟨c,n,a⟩:=S0.mp a
  split at a
  ·rename_i h
   cases a
   cases i with
   | cons i t=>
    cases t
    obtain ⟨p,e,rfl,q,hd⟩:=CK R i m
    have b:=hd
    rw [CJ n] at b
    have o:e.length=c.length:=by
     have:=b.length
     rw [S6] at this
     exact this
    refine ⟨p,e,c,rfl,q,CM b,h.1,h.2,fun l g=>?_⟩
    obtain ⟨j,R2,_⟩:=R.alloc (c:=.lst ((bU (kK c) c.length).map fun i=>r.getD i .non)) (o:=.lst ((bU (kK c) e.length).map fun i=>e.getD i .non)) g (by
     show IsDs _ _ _ _ _ _
     rw [o]
     exact CO hd _)
    exact k _ _ _ j R2 gQ
  ·cases a
 ·cases a
theorem Ov:CallR X (.builtin "sorted") (DY X.K):=by
 intro a3L s σ H xs us Q I r h
 obtain ⟨q,m,g,rfl,hq,T,v,x,k⟩:=h
 obtain ⟨u,rfl,ru⟩:=gK r
 cases ru
 obtain ⟨c,A,pl,hz⟩:=I.list hq
 have o:=A.length
 have R:g.length=m.length:=T.length.symm
 have y:∃ d:List Addr,c=d.map To:=by
  clear hz pl v x k hq I o R
  induction T generalizing c with
  | nil=>cases A;exact ⟨[],rfl⟩
  | cons h _ U=>
   cases A with
   | cons r1 r2=>
    obtain ⟨d,e⟩:=U _ r2
    obtain ⟨a,rfl,_⟩:=h
    cases r1
    exact ⟨a::d,by rw [e];rfl⟩
 obtain ⟨d,B⟩:=y
 have hal:d.length=c.length:=by rw [B,S6]
 have pr:∀ i,i<d.length->SqT X.K H (d.getD i 0) ((g.getD i []).map V.int):=fun i n=>by
  obtain ⟨a,ea,sa⟩:=Mq A T (S7 (show i<c.length by omega))
  have:d.getD i 0=a:=by
   subst B
   simp only [List.getElem_map] at ea
   cases ea
   simp [Ug,n]
  rw [this]
  exact sa
 have Y:d.Nodup:=by
  refine Ub.mpr fun i j n p M e=>?_
  have h1:=pr i n
  have f1:=pr j p
  have E:d.getD i 0=d[i]:=by simp [Ug,n]
  have G:d.getD j 0=d[j]:=by simp [Ug,p]
  rw [E] at h1
  rw [G,<- e] at f1
  have hk:=CH I h1 f1
  have K:g.getD i []=g[i]:=by simp [Ug,show i<g.length by omega]
  have L:g.getD j []=g[j]:=by simp [Ug,show j<g.length by omega]
  rw [K,L] at hk
  exact (Ub.mp v) i j (by omega) (by omega) M hk
 have Z:c.Nodup:=by
  rw [B]
  unfold XT
  rw [Ur]
  exact Y.imp fun h e=>h (by cases e;rfl)
 refine N7 xE [] (ks:=g) (by omega) v Z (by omega) pl.isList (fun h22 h3 kp=>?_) ?_
 ·have I3:Inv X a3L σ H { s with heap:=h3,toks:=s.toks }:=I.kept (t':=s.toks) kp
  rw [B]
  refine DN (A:=X.A.in1.in1) (s:={ s with heap:=h3 }) (by omega) (by omega) fun j b p=>?_
  have O:j<d.length:=(S2.mp p).1
  have eb:d.getD j 0=b:=by simp [Ug,p]
  have:=pr j O
  rw [eb] at this
  obtain ⟨xs,rx,t,_⟩:=I3.tuple this
  refine ⟨⟨xs,t,vF rx⟩,x _ ?_⟩
  rw [TL,S7 (show j<g.length by omega)]
  exact VN _
 ·obtain ⟨e,he⟩:=a3b s.heap c ((bU (fun i j=>HT.lexLt (g.getD i []) (g.getD j [])) c.length).map fun i=>c.getD i UT).toArray
  refine ⟨.ref (s.heap.objs.size+1),_,I.laid (t':=s.toks) (a:=s.heap.objs.size+1) (o:=.lst ((bU (kK g) m.length).map fun i=>m.getD i .non)) (fun b ob z=>a3a z) (YF _) ?_,rfl,k _ (I.hok.fresh (YF _))⟩
  refine ⟨?_,_,e,?_,he⟩
  ·rw [S6,(dW _ _).length_eq,X7]
   exact hz
  ·rw [<- o]
   have N:∀ i∈bU (kK g) m.length,i<m.length:=fun i n=>Ul.mp ((dW _ _).mem_iff.mp n)
   have w:∀ l:List Nat,(∀ i∈l,i<m.length)->Vals (l.map fun i=>m.getD i .non) (l.map fun i=>c.getD i UT):=fun l=>by
    induction l with
    | nil=>intro _;exact .nil
    | cons i l U=>
     intro hl
     refine .cons ?_ (U fun j p=>hl j (Tw _ p))
     have n:=hl i (Tt ..)
     obtain ⟨u,K,L⟩:=A.get (S7 n)
     have E:m.getD i .non=m[i]:=by simp [Ug,n]
     have G:c.getD i UT=u:=by simp [Ug,K]
     show RelV (m.getD i .non) (c.getD i UT)
     rw [E,G]
     exact L
   exact w _ N
end
end L3
namespace L3
open PySem L2
structure Sig where
 fn:List (Str×Nat)
 con:List (Str×D)
 tab:List (Str×List (aG×D))
 no:List Str
 dIt:List Str
 dEq:List Str
 dMe:List Str
structure Cs where
 N:List Str
 ks:List (Str×V3)
noncomputable def mG (x:Str):List Str->Option Nat
 | []=>none
 | y::r=>if x=y then some 0 else (mG x r).map (·+1)
theorem qE {x:Str}:∀ {N:List Str}{i:Nat},mG x N=some i->N[i]? = some x
 | [],_,h=>by cases h
 | y::r,i,h=>by
  unfold mG at h
  split at h
  ·rename_i e;cases h;subst e;rfl
  ·obtain ⟨j,a,b⟩:=S8.mp h
   subst b
   have:=qE a
   simpa using this
noncomputable def glob (c:Cs)(x:Str):Bool:=decide (c.ks.lookup x=some .globalImplicit)&&!(x == ("__debug__":Str))
noncomputable def lI (c:Cs)(x:Str):Bool:=(decide (c.ks.lookup x=some .local)||decide (c.ks.lookup x=some .cell)||decide (c.ks.lookup x=some .free))&&!(x == ("__debug__":Str))&&!(x == ("__classdict__":Str))
noncomputable def mH (c:Cs)(x:Str):Bool:=decide (c.ks.lookup x=some .local)||decide (c.ks.lookup x=some .cell)
noncomputable def xT (x:Str):Option String:=
 if x = "int" then some "int" else if x = "bool" then some "bool" else if x = "str" then some "str" else if x = "list" then some "list" else if x = "tuple" then some "tuple" else if x = "dict" then some "dict" else none
theorem Ox {x:Str}{n:String}(h:xT x=some n):Va x=some (.type n)/\x ≠ "__name__":=by
 unfold xT at h
 split at h
 ·rename_i e;subst e;cases h;exact ⟨a1n,by decide⟩
 split at h
 ·rename_i e;subst e;cases h;exact ⟨a1o,by decide⟩
 split at h
 ·rename_i e;subst e;cases h;exact ⟨a1k,by decide⟩
 split at h
 ·rename_i e;subst e;cases h;exact ⟨W5,by decide⟩
 split at h
 ·rename_i e;subst e;cases h;exact ⟨WW,by decide⟩
 split at h
 ·rename_i e;subst e;cases h;exact ⟨Yy,by decide⟩
 ·cases h
noncomputable def xU (S:Sig)(c:Cs)(x:Str):ME:=
 if lI c x=true then (match mG x c.N with|some i=>aA i|none=>bT)
 else if glob c x=true then (match S.con.lookup x with
  | some d=>mC d
  | none=>if S.no.contains x=true then (match xT x with|some n=>mC (.ty n)|none=>bT) else bT)
 else bT
noncomputable def fD (r:Expr->ME):List Expr->MA
 | []=>aD
 | e::es=>aC (r e) (fD r es)
noncomputable def sR (op:BoolOp):List ME->ME
 | []=>bT
 | [m]=>m
 | m::r=>match op with
  | .And=>cS m (sR op r)
  | .Or=>vQ m (sR op r)
noncomputable def sS (op:BoolOp):List MT->MT
 | []=>lT
 | [m]=>m
 | m::r=>match op with
  | .And=>gO m (sS op r)
  | .Or=>gP m (sS op r)
noncomputable def DZ (op:a0k)(a b:ME):ME:=match op with
 | .Add=>aB cM a b
 | .Sub=>aB c7 a b
 | .Mult=>aB cF a b
 | .FloorDiv=>aB dP a b
 | .Mod=>aB bN a b
 | _=>bT
noncomputable def kU (op:XF)(ns:Bool)(a b:ME):ME:=match op with
 | .Eq=>aB (a8 false) a b
 | .NotEq=>aB (a8 true) a b
 | .Lt=>aB dQ a b
 | .LtE=>aB m8 a b
 | .Gt=>aB wB a b
 | .GtE=>aB wC a b
 | .In=>if ns=true then aB (b9 false) a b else bT
 | .NotIn=>if ns=true then aB (b9 true) a b else bT
 | .Is=>aB (iT false) a b
 | .IsNot=>aB (iT true) a b
noncomputable def xV (r:Expr->ME):List (Option Expr)->List Expr->Option (List (ME×ME))
 | [],[]=>some []
 | some k::ks,v::vs=>(xV r ks vs).map fun t=>(r k,r v)::t
 | _,_=>none
noncomputable def xW (r:Expr->ME):Option Expr->MO
 | none=>pG
 | some e=>iL (r e)
noncomputable def cX:MF:=fun ds b=>match ds with
 | [.loc a]=>match b[a]? with
  | some (.lst xs)=>some (.int xs.length,b)
  | some (.dK kvs)=>some (.int kvs.length,b)
  | some (.st ks)=>some (.int ks.length,b)
  | some (.dT kvs)=>some (.int kvs.length,b)
  | _=>none
 | _=>pJ ds b
noncomputable def oE:MF:=fun ds a=>match ds with
 | [x]=>(bP a x).map fun b=>(.tup b,a)
 | _=>none
theorem Oy {K:S1}:d8 K oE (fun xs H Q=>∃ p ys,xs=[.ref p]/\((SqL K H p ys/\∀ l,H l=none->Q (.ref l) (aN H l (.tup ys)))\/(SqT K H p ys/\Q (.ref p) H))):=by
 intro e H o xs d m n Q R i a k
 unfold oE at a
 split at a
 ·obtain ⟨ys,g,h⟩:=S8.mp a
  cases h
  cases i with
  | cons i t=>
   cases t
   obtain ⟨p,c,rfl,q,hd⟩:=pK R i g
   refine ⟨p,c,rfl,?_⟩
   rcases q with q|q
   ·refine .inl ⟨q,fun l j=>?_⟩
    obtain ⟨b,R2⟩:=R.fresh (o:=.tup c) j
    exact k e _ _ b R2 (.tup (.of cV) (hd.mono b))
   ·exact .inr ⟨q,k e _ H .refl R (.tup q hd)⟩
 ·cases a
noncomputable def mI:MF:=fun ds b=>match ds with
 | [.loc a]=>match b[a]? with
  | some (.dT kvs)=>some (.loc b.length,b++[.lst (kvs.map fun k=>D.tup (k.1.map D.int))])
  | _=>pL [.loc a] b
 | ds=>pL ds b
theorem Oz {K:S1}:d8 K mI (fun xs H Q=>(∃ p ys,xs=[.ref p]/\(SqL K H p ys\/SqT K H p ys)/\∀ l,H l=none->Q (.ref l) (aN H l (.lst ys)))\/Dx K xs H Q):=by
 intro m H j xs d c h Q R i b k
 unfold mI at b
 split at b
 ·rename_i a
  split at b
  ·rename_i e r
   cases b
   cases i with
   | cons i t=>
    cases t
    cases i
    obtain ⟨g,o,T⟩:=gY R r
    refine .inr ⟨_,g,rfl,o,T.keys,fun l q=>?_⟩
    obtain ⟨n,R2,_⟩:=R.alloc (c:=.lst (e.map fun k:List Int×D=>D.tup (k.1.map D.int))) (o:=.lst (g.map fun p:List Int×Addr×V=>V.ref p.2.1)) q T.to.2.1
    exact k _ _ _ n R2 gQ
  ·exact .inl (B7 m H j _ d c h Q R i b k)
 ·exact .inl (B7 m H j _ d c h Q R i b k)
noncomputable def xX (x:Str):Option MF:=
 if x = "len" then some cX
 else if x = "isinstance" then some c8
 else if x = "list" then some mI
 else if x = "tuple" then some oE
 else none
noncomputable def OA (K:S1):List V->Hp->VK->Prop:=fun xs H Q=>wH K xs H Q\/(∃ a kvs,xs=[V.ref a]/\H a=some (.dK kvs)/\Q (.int kvs.length) H)\/(∃ a L,xs=[V.ref a]/\H a=some (rK a L)/\Q (.int L.length) H)\/Dw K xs H Q
theorem OB {K:S1}:d8 K cX (OA K):=by
 intro j H n r d h m Q R i b k
 unfold cX at b
 split at b
 ·rename_i a
  split at b
  ·rename_i s c
   refine .inl (B6 j H n _ d h m Q R i ?_ k)
   simp only [pJ,bP,c]
   exact b
  ·rename_i g c
   cases b
   cases i with
   | cons i t=>
    cases t
    cases i
    obtain ⟨q,e,l,_⟩:=R.dK a g c
    refine .inr (.inl ⟨_,q,rfl,e,?_⟩)
    have:=congrArg US l
    rw [S6,S6] at this
    rw [this]
    exact k j _ H .refl R (.int _)
  ·rename_i o c
   cases b
   cases i with
   | cons i t=>
    cases t
    cases i
    obtain ⟨L,e,l,_⟩:=R.st a o c
    have:=congrArg US l
    rw [S6] at this
    refine .inr (.inr (.inl ⟨_,L,rfl,e,?_⟩))
    rw [this]
    exact k j _ H .refl R (.int _)
  ·rename_i g c
   cases b
   cases i with
   | cons i t=>
    cases t
    cases i
    obtain ⟨p,e,T⟩:=gY R c
    have:=congrArg US T.to.1
    rw [S6,S6] at this
    refine .inr (.inr (.inr ⟨_,p,rfl,e,T.keys,?_⟩))
    rw [this]
    exact k j _ H .refl R (.int _)
  ·cases b
 ·exact .inl (B6 j H n _ d h m Q R i b k)
theorem OC {X:Cx}{x:Str}{f:MF}(a:X.calm=true)(b:X.A.units+64<Vg)(h:xX x=some f):∃ v r,Va x=some v/\((∃ id,v=.builtin id)\/∃ T,v=.type T)/\CallR X v r/\d8 X.K f r/\x ≠ "__name__":=by
 unfold xX at h
 split at h
 ·rename_i e;subst e;cases h;exact ⟨_,_,a1l,.inl ⟨_,rfl⟩,call_lenM.or (call_lenD.or (call_lenT.or Nv)),OB,by decide⟩
 split at h
 ·rename_i e;subst e;cases h;exact ⟨_,_,a1m,.inl ⟨_,rfl⟩,Kt,Ks,by decide⟩
 split at h
 ·rename_i e;subst e;cases h;exact ⟨_,_,W5,.inr ⟨_,rfl⟩,call_list_of.or (Nw a),Oz,by decide⟩
 split at h
 ·rename_i e;subst e;cases h;exact ⟨_,_,WW,.inr ⟨_,rfl⟩,Bg,Oy,by decide⟩
 ·cases h
noncomputable def xY (x:Str):Option MF:=
 if x = "dict" then some mD else
 xX x
theorem OD {X:Cx}{x:Str}{f:MF}(a:X.calm=true)(b:X.A.units+64<Vg)(h:xY x=some f):∃ v r,Va x=some v/\((∃ id,v=.builtin id)\/∃ T,v=.type T)/\CallR X v r/\d8 X.K f r/\x ≠ "__name__":=by
 unfold xY at h
 split at h
 ·rename_i e;subst e;cases h;exact ⟨_,_,Yy,.inr ⟨_,rfl⟩,NK a b,NL,by decide⟩
 exact OC a b h
noncomputable def D0 (m:Str)(n:Nat):Option (D->List D->Hm->Option (D×Hm)):=
 if n=1 then (if m = "append" then some fN
  else if m = "extend" then some nJ
  else none)
 else if n=0 then (
  if m = "clear" then some nM else
  if m = "pop" then some kH else
  none)
 else none
noncomputable def D1 (S:Sig)(o:Expr)(m:Str)(n:Nat):Option (D->List D->Hm->Option (D×Hm)):=
 if m = "get"/\n=2 then some kP else
 none
noncomputable def xZ (S:Sig)(F:Str->MF)(r:Expr->ME)(c:Cs)(f:Expr)(args:List Expr)(a:Vc):ME:=match f with
 | .Name x _=>if glob c x&&args.all c9 then (match S.fn.lookup x with
   | some n=>if args.length=n then aI (F x) (fD r args) else bT
   | none=>if S.no.contains x&&!args.isEmpty then (match xY x with|some g=>aI g (fD r args)|none=>bT) else bT)
  else bT
 | .Attribute o m apos=>if f9 o&&(apos.endLine == a.line)&&args.all c9 then (
   match D1 S o m args.length with
   | some g=>mF g (r o) (fD r args)
   | none=>
   if m = "split" then (match args with|[b]=>gW oB (r o) (fD r [b])|_=>bT) else
   match D0 m args.length with
   | some g=>dF g (r o) (fD r args)
   | none=>
    if m = "join" then (match args with|[b]=>gW iU (r o) (fD r [b])|_=>bT) else
    bT)
  else bT
 | _=>bT
noncomputable def yA:Expr->Option (Expr×List Expr)
 | .Call f as [] _=>some (f,as)
 | _=>none
theorem OE {e f:Expr}{as:List Expr}(h:yA e=some (f,as)):∃ pos,e=.Call f as [] pos:=by
 unfold yA at h
 split at h
 ·cases h;exact ⟨_,rfl⟩
 ·cases h
noncomputable def oF:Expr->Option Str
 | .Name x _=>some x
 | _=>none
theorem yB {e:Expr}{x:Str}(h:oF e=some x):∃ p,e=.Name x p:=by
 unfold oF at h
 split at h
 ·cases h;exact ⟨_,rfl⟩
 ·cases h
noncomputable def o1:List Expr->Option Expr
 | [e]=>some e
 | _=>none
theorem yC {l:List Expr}{e:Expr}(h:o1 l=some e):l=[e]:=by
 unfold o1 at h
 split at h
 ·cases h;rfl
 ·cases h
noncomputable def D2 (f:Expr)(args:List Expr):Option (Str×Str×Expr):=(oF f).bind fun x=>(o1 args).bind fun a=>(yA a).bind fun g=>(oF g.1).bind fun y=>(o1 g.2).map fun e=>(x,y,e)
theorem OF {f:Expr}{args:List Expr}{x y:Str}{e:Expr}(h:D2 f args=some (x,y,e)):∃ p c pos,f=.Name x p/\args=[.Call (.Name y c) [e] [] pos]:=by
 obtain ⟨n,d,h⟩:=S0.mp h
 obtain ⟨a,i,h⟩:=S0.mp h
 obtain ⟨g,j,h⟩:=S0.mp h
 obtain ⟨o,b,h⟩:=S0.mp h
 obtain ⟨m,l,h⟩:=S8.mp h
 cases h
 obtain ⟨p,rfl⟩:=yB d
 obtain ⟨pos,rfl⟩:=OE j
 obtain ⟨c,b⟩:=yB b
 exact ⟨p,c,pos,rfl,by rw [yC i,b,yC l]⟩
noncomputable def yD (S:Sig)(F:Str->MF)(r:Expr->ME)(c:Cs)(f:Expr)(args:List Expr)(a:Vc):ME:=
 xZ S F r c f args a
noncomputable def sT:Expr->Option (Expr×Vc×Vc)
 | .Call g [] [] cpos=>match g with
  | .Attribute o m apos=>if m = "items" then some (o,apos,cpos) else none
  | _=>none
 | _=>none
theorem D3 {e o:Expr}{a b:Vc}(h:sT e=some (o,a,b)):e=.Call (.Attribute o "items" a) [] [] b:=by
 unfold sT at h
 split at h
 ·split at h
  ·split at h
   ·rename_i c;cases h;rw [c]
   ·cases h
  ·cases h
 ·cases h
noncomputable def OG (f:Expr)(args:List Expr):Option (Expr×Vc×Vc):=(D2 f args).bind fun t=>if t.1 = "tuple"/\t.2.1 = "sorted" then sT t.2.2 else none
noncomputable def yE:Expr->Option (Expr×Vc×Vc)
 | .Call g [] [] cpos=>match g with
  | .Attribute o m apos=>if m = "keys" then some (o,apos,cpos) else none
  | _=>none
 | _=>none
theorem OH {e o:Expr}{a b:Vc}(h:yE e=some (o,a,b)):e=.Call (.Attribute o "keys" a) [] [] b:=by
 unfold yE at h
 split at h
 ·split at h
  ·split at h
   ·rename_i c;cases h;rw [c]
   ·cases h
  ·cases h
 ·cases h
noncomputable def sU (f:Expr)(args:List Expr):Option (Str×Expr):=(oF f).bind fun x=>(o1 args).map fun e=>(x,e)
theorem yF {f:Expr}{args:List Expr}{x:Str}{e:Expr}(h:sU f args=some (x,e)):∃ p,f=.Name x p/\args=[e]:=by
 obtain ⟨d,b,h⟩:=S0.mp h
 obtain ⟨a,c,h⟩:=S8.mp h
 cases h
 obtain ⟨p,rfl⟩:=yB b
 exact ⟨p,rfl,yC c⟩
noncomputable def OI (f:Expr)(args:List Expr):Option (Expr×Vc×Vc):=(sU f args).bind fun t=>if t.1 = "sorted" then yE t.2 else none
noncomputable def OJ (f:Expr)(args:List Expr):Option (Expr×Vc×Vc):=(sU f args).bind fun t=>if t.1 = "list" then sT t.2 else none
noncomputable def OL (S:Sig)(f:Expr)(args:List Expr):Option (Bool×Expr):=(sU f args).bind fun t=>if t.1 = "sorted"/\S.dMe.contains "#T" = true then some ((match oF t.2 with|some y=>S.dMe.contains y|none=>false),t.2) else none
noncomputable def yG (S:Sig)(F:Str->MF)(r:Expr->ME)(c:Cs)(f:Expr)(args:List Expr)(a:Vc):ME:=
 match OG f args with
 | some q=>if glob c "sorted" && glob c "tuple" && S.no.contains "sorted" && S.no.contains "tuple" && f9 q.1&&(q.2.1.endLine == q.2.2.line) then kR (r q.1) else bT
 | none=>
 match OI f args with
 | some q=>if glob c "sorted" && S.no.contains "sorted" && f9 q.1&&(q.2.1.endLine == q.2.2.line) then oC (r q.1) else bT
 | none=>
 match OJ f args with
 | some q=>if glob c "list" && S.no.contains "list" && f9 q.1&&(q.2.1.endLine == q.2.2.line) then oD (r q.1) else bT
 | none=>
 match OL S f args with
 | some q=>if glob c "sorted" && S.no.contains "sorted" && c9 q.2 then (match q.1 with|true=>aI kS (fD r [q.2])|false=>aI kT (fD r [q.2])) else bT
 | none=>
 yD S F r c f args a
noncomputable def qF (c:Cs)(scope:Wb)(xs:List Str):Bool:=
 (scope.names.all fun y=>decide (y.2≠.cell))&&decide (scope.kind=.function)&&(scope.names.all fun y=>decide (y.2≠.local)||decide (scope.names.lookup y.1=some .local)) &&
 (xs.all fun x=>decide (scope.names.lookup x=some .local))&&decide xs.Nodup&&(scope.names.all fun y=>decide (y.2≠.free)||decide (c.ks.lookup y.1=some .cell)||decide (c.ks.lookup y.1=some .free)) &&
 (scope.names.all fun y=>decide (y.2≠.local)||!(bI xs c.N).contains y.1)&&decide (bI xs c.N).Nodup&&(c.N.all fun y=>!xs.contains y||decide (scope.names.lookup (m9 y)=none))
noncomputable def qG (c:Cs)(scope:Wb)(xs:List Str):Cs:=
 ⟨bI xs c.N++xs,scope.names.map fun (n,k)=>if (k == VE&&c.ks.lookup n == some .cell) then (n,VX) else (n,k)⟩
noncomputable def D4 (r:Expr->MT):List Expr->MT
 | []=>eZ
 | [t]=>r t
 | _=>lT
noncomputable def yH (S:Sig)(c:Cs):Expr->Option (List Expr)
 | .Call (.Name x _) args [] _=>if x = "range" then (if glob c x&&S.no.contains x&&args.all c9 then some args else none) else none
 | _=>none
noncomputable def sV (S:Sig)(r:Expr->ME)(c:Cs)(e:Expr):MI:=match yH S c e with
 | some [a]=>iN (fD r [a])
 | some [a,b]=>kB (fD r [a,b])
 | some _=>wQ
 | none=>cG (r e)
noncomputable def yI (S:Sig)(c:Cs):Expr->Option Expr
 | .Call (.Name x _) [a] [] _=>if x = "enumerate" then (if glob c x&&S.no.contains x&&c9 a then some a else none) else none
 | _=>none
noncomputable def yJ (S:Sig)(r:Expr->ME)(c:Cs)(e:Expr):MI:=match yI S c e with
 | some _=>wQ
 | none=>sV S r c e
noncomputable def yK (S:Sig)(r:Expr->ME)(c:Cs)(e:Expr):MI:=yJ S r c e
noncomputable def yL:Expr->Option (List Str)
 | .Name x _=>some [x]
 | .Tuple es _ _=>es.mapM fun e=>match e with|.Name x _=>some x|_=>none
 | _=>none
noncomputable def yM:Expr->Nat->BD
 | .Tuple ..,n=>B4 n
 | _,_=>pI
noncomputable def sW (S:Sig)(r:Expr->ME)(c:Cs)(tg e:Expr):MI:=match tg with
 | .Tuple ..=>yK S r c e
 | _=>sV S r c e
noncomputable def qH (b:MI)(d:Cs->Expr->ME)(e:Cs->Expr->MT)(c:Cs)(elt tg iter:Expr)(ifs:List Expr)(scope:Wb):ME:=match yL tg with
 | some a=>if qF c scope a&&eF iter then kC (yM tg a.length) b (D4 (e (qG c scope a)) ifs) (d (qG c scope a) elt) else bT
 | none=>bT
noncomputable def sX (S:Sig)(a:Cs->Expr->ME)(b:Cs->Expr->MT)(c:Cs)(elt tg iter:Expr)(ifs:List Expr)(scope:Wb):ME:=
 qH (sW S (a c) c tg iter) a b c elt tg iter ifs scope
noncomputable def D5:Const->ME
 | .int i=>mC (.int i)
 | .bool b=>mC (.bl b)
 | .str s=>mC (.str s)
 | .none=>mC .non
 | _=>bT
noncomputable def D6 (m:ME):UnaryOp->ME
 | .USub=>pO m
 | .Not=>lM m
 | _=>bT
noncomputable def yN (S:Sig)(r:Expr->ME)(a:Expr):List XF->List Expr->ME
 | [op],[b]=>kU op (eF b) (r a) (r b)
 | [op,op'],[b,b']=>(match jO op,jO op' with
  | some p,some q=>iS (eY p) (eY q) (r a) (r b) (r b')
  | _,_=>bT)
 | _,_=>bT
noncomputable def yO (r:Expr->ME)(keys:List (Option Expr))(a:List Expr):ME:=match xV r keys a with
 | some b=>if !keys.isEmpty&&decide (keys.length<=15) then lR b else bT
 | none=>bT
noncomputable def yP (r:Expr->ME):List (Option Expr)->List Expr->ME
 | [],[]=>lZ
 | [some k],[v]=>mE (r k) (r v)
 | keys,values=>yO r keys values
noncomputable def yQ (S:Sig)(r:Expr->ME)(c:Cs)(a b:Expr):ME:=match b with
 | .Slice lo hi none _=>iM (r a) (xW r lo) (xW r hi)
 | b=>if lS b then aB aJ (r a) (r b) else bT
noncomputable def yR (r:Expr->ME)(es:List Expr):ME:=if es.all c9 then cC (fD r es) else bT
noncomputable def yS (r:Expr->ME)(es:List Expr):ME:=if es.all c9 then c6 (fD r es) else bT
noncomputable def yT (S:Sig)(F:Str->MF)(r:Expr->ME)(c:Cs)(f:Expr)(args:List Expr)(a:Vc):List WE->ME
 | []=>yG S F r c f args a
 | _=>bT
noncomputable def yU (S:Sig)(a:Cs->Expr->ME)(b:Cs->Expr->MT)(c:Cs)(elt:Expr)(scope:Wb):List Comprehension->ME
 | [⟨tg,iter,ifs,0⟩]=>sX S a b c elt tg iter ifs scope
 | _=>bT
noncomputable def D7 (S:Sig)(F:Str->MF)(d:Cs->Expr->ME)(e:Cs->Expr->MT)(c:Cs):Expr->ME
 | .Name x _=>xU S c x
 | .Constant v _ _=>D5 v
 | .BinOp a op b _=>DZ op (d c a) (d c b)
 | .UnaryOp op a _=>D6 (d c a) op
 | .Compare a ops bs _=>yN S (d c) a ops bs
 | .BoolOp op vs _=>sR op (vs.map (d c))
 | .IfExp t a b _=>iJ (e c t) (d c a) (d c b)
 | .Tuple es _ _=>yR (d c) es
 | .List es _=>yS (d c) es
 | .Dict keys values _=>yP (d c) keys values
 | .Subscript a b _=>yQ S (d c) c a b
 | .Call f args kws cpos=>yT S F (d c) c f args cpos kws
 | .ListComp elt gs scope _=>yU S d e c elt scope gs
 | _=>bT
noncomputable def qI (r:Expr->ME)(e:Expr):MT:=if wL e then cH (r e) else lT
noncomputable def yV (S:Sig)(r:Expr->ME)(a:Expr)(ops:List XF)(bs:List Expr)(p:Vc):MT:=match ops,bs with
 | [op],[b]=>aW (kU op (eF b) (r a) (r b))
 | [op,op'],[b,b']=>(match jO op,jO op' with
  | some p,some q=>aW (iS (eY p) (eY q) (r a) (r b) (r b'))
  | _,_=>lT)
 | ops,bs=>qI r (.Compare a ops bs p)
noncomputable def OM (r:Expr->ME)(t:MT)(a:Expr)(p:Vc):UnaryOp->MT
 | .Not=>t
 | op=>qI r (.UnaryOp op a p)
noncomputable def D8 (S:Sig)(b:Cs->Expr->ME)(d:Cs->Expr->MT)(c:Cs):Expr->MT
 | .BoolOp op vs _=>sS op (vs.map (d c))
 | .UnaryOp op a p=>OM (b c) (dO (d c a)) a p op
 | .Compare a ops bs p=>yV S (b c) a ops bs p
 | e=>qI (b c) e
noncomputable def tr (S:Sig)(F:Str->MF):Nat->(Cs->Expr->ME)×(Cs->Expr->MT)
 | 0=>(fun _ _=>bT,fun _ _=>lT)
 | n+1=>(D7 S F (tr S F n).1 (tr S F n).2,D8 S (tr S F n).1 (tr S F n).2)
structure Okx (S:Sig)(F:Str->MF)(k:Nat)(c:Cs)(X:Cx):Prop where
 N:X.N=c.N
 nd:X.N.Nodup
 ks:X.env.scope.names=c.ks
 kind:X.env.scope.kind=.function
 calm:X.calm=true
 room:Room k X.A
 never:ZV (TK X.prog X.w) X.A X.env X.xe
 fn:∀ x n,S.fn.lookup x=some n->∃ (f:Addr)(fd:VO)(ps:List Str),FnOk X.prog X.w X.K X.mg X.base eX k f fd ps (iH X.K n (F x))/\X.mg x=some (.ref f)/\Vl X.K (.ref f)=true/\Binds X.K fd ps []
 con:∀ x d,S.con.lookup x=some d->∃ v u,X.mg x=some u/\RelV v u/\∀ π n H,IsD X.K π n H v d
 tab:∀ x kvs,S.tab.lookup x=some kvs->TabOk X x kvs
 no:∀ x,S.no.contains x=true->X.mg x=none
section
variable {S:Sig}{F:Str->MF}{k:Nat}{c:Cs}{X:Cx}
theorem Okx.gl (O:Okx S F k c X){x:Str}(h:glob c x=true):Gl X x/\(x == ("__debug__":Str))=false:=by
 unfold glob at h
 rw [Ti] at h
 refine ⟨?_,by simpa using h.2⟩
 show X.env.scope.names.lookup x=_
 rw [O.ks]
 exact of_decide_eq_true h.1
theorem Okx.vis (O:Okx S F k c X){x:Str}(h:lI c x=true):oV X.env.scope x/\(x == ("__debug__":Str))=false/\(x == ("__classdict__":Str))=false:=by
 unfold lI at h
 rw [Ti,Ti,WH,WH] at h
 obtain ⟨⟨a,b⟩,d⟩:=h
 refine ⟨?_,by simpa using b,by simpa using d⟩
 unfold oV
 rw [O.ks]
 rcases a with (a|a)|a
 ·exact .inl (of_decide_eq_true a)
 ·exact .inr (.inl (of_decide_eq_true a))
 ·exact .inr (.inr (of_decide_eq_true a))
theorem ON (O:Okx S F k c X)(x:Str)(pos:Vc):QE X (.Name x pos) (xU S c x):=by
 unfold xU
 split
 ·rename_i h
  obtain ⟨a,b,j⟩:=O.vis h
  split
  ·rename_i i l
   exact KG i (by rw [O.N];exact qE l) a b j
  ·exact bX
 split
 ·rename_i h
  obtain ⟨a,b⟩:=O.gl h
  split
  ·rename_i d hd
   obtain ⟨v,u,m,r,i⟩:=O.con x d hd
   exact ⟨mY (Gs a m r b) i⟩
  ·split
   ·rename_i o
    split
    ·rename_i n p
     obtain ⟨e,g⟩:=Ox p
     exact Li (O.no x o) e a g b
    ·exact bX
   ·exact bX
 ·exact bX
theorem jP {r:Expr->ME}(a:∀ e,QE X e (r e)):∀ (es:List Expr),es.all c9=true->QA X es (fD r es) es.length
 | [],_=>K7
 | e::es,h=>by
  rw [UE,Ti] at h
  exact K8 (a e) (jP a es h.2) h.1
theorem D9 {r:Expr->ME}(a:∀ e,QE X e (r e))(op:BoolOp)(pos:Vc):∀ (vs:List Expr),QE X (.BoolOp op vs pos) (sR op (vs.map r))
 | []=>bX
 | [e]=>K3 (a e)
 | e::d::es=>by
  have b:=D9 a op pos (d::es)
  cases op with
  | And=>exact K4 (a e) b
  | Or=>exact K5 (a e) b
theorem Ea {r:Expr->MT}(a:∀ e,QT X e (r e))(op:BoolOp)(pos:Vc):∀ (vs:List Expr),QW X (.BoolOp op vs pos) (sS op (vs.map r))
 | []=>L1
 | [e]=>by
  cases op with
  | And=>exact Ly (a e)
  | Or=>exact Lz (a e)
 | e::d::es=>by
  have b:=Ea a op pos (d::es)
  cases op with
  | And=>exact LA (a e) b
  | Or=>exact LB (a e) b
theorem OO {a b:Expr}{g h:ME}(d:QE X a g)(e:QE X b h)(op:a0k)(pos:Vc):QE X (.BinOp a op b pos) (DZ op g h):=by
 cases op with
 | Add=>exact KN d e
 | Sub=>exact KO d e
 | Mult=>exact KP d e
 | FloorDiv=>exact KQ d e
 | Mod=>exact KR d e
 | _=>exact bX
theorem OP (O:Okx S F k c X){a b:Expr}{g i:ME}(d:QE X a g)(e:QE X b i)(op:XF)(pos:Vc):QE X (.Compare a [op] [b] pos) (kU op (eF b) g i):=by
 cases op with
 | Eq=>exact KW O.room d e
 | NotEq=>exact KY O.room d e
 | Lt=>exact KZ d e
 | LtE=>exact K0 d e
 | Gt=>exact K1 d e
 | GtE=>exact K2 d e
 | In=>
  simp only [kU]
  split
  ·rename_i h;exact Ny O.room d e h
  ·exact bX
 | NotIn=>
  simp only [kU]
  split
  ·rename_i h;exact Nz O.room d e h
  ·exact bX
 | Is=>exact MY d e
 | IsNot=>exact MZ d e
theorem Eb {e:Expr}:QT X e (aW bT):=⟨fun a3L s σ H Q I h=>by
 obtain ⟨i,j,g,d,b,R,E,a,k⟩:=h
 cases a⟩
theorem OQ (O:Okx S F k c X){a b:Expr}{g i:ME}(d:QE X a g)(e:QE X b i)(op:XF)(pos:Vc):QT X (.Compare a [op] [b] pos) (aW (kU op (eF b) g i)):=by
 cases op with
 | Eq=>exact Ln O.room d e
 | NotEq=>exact Lo O.room d e
 | Lt=>exact Lp d e
 | LtE=>exact Lq d e
 | Gt=>exact Lr d e
 | GtE=>exact Lu d e
 | In=>
  simp only [kU]
  split
  ·rename_i h;exact NA O.room d e h
  ·exact Eb
 | NotIn=>
  simp only [kU]
  split
  ·rename_i h;exact NC O.room d e h
  ·exact Eb
 | Is=>exact M0 d e
 | IsNot=>exact M3 d e
theorem Ec {r:Expr->ME}(b:∀ e,QE X e (r e))(pos:Vc):∀ (ks:List (Option Expr))(vs:List Expr)(a:List (ME×ME)),xV r ks vs=some a->QP X pos ks vs a
 | [],[],a,h=>by cases h;exact Lj
 | some k::ks,v::vs,a,h=>by
  obtain ⟨t,d,g⟩:=S8.mp h
  subst g
  exact Ll (b k) (b v) (Ec b pos ks vs t d)
 | none::ks,vs,a,h=>by cases vs<;>cases h
 | some k::ks,[],a,h=>by cases h
 | [],v::vs,a,h=>by cases h
theorem Ed {r:Expr->ME}(a:∀ e,QE X e (r e)):∀ o:Option Expr,QO X o (xW r o)
 | none=>Ld
 | some e=>Le (a e)
theorem OR (O:Okx S F k c X){r:Expr->ME}(j:∀ e,QE X e (r e))(f:Expr)(args:List Expr)(l:Vc):QE X (.Call f args [] l) (xZ S F r c f args l):=by
 unfold xZ
 split
 ·rename_i x p
  split
  ·rename_i u
   rw [Ti] at u
   obtain ⟨y,z⟩:=O.gl u.1
   have h:=jP j args u.2
   split
   ·rename_i n B
    split
    ·rename_i d
     obtain ⟨R,U,Y,E,a,M,A⟩:=O.fn x n B
     subst d
     cases args with
     | nil=>exact Mh E O.room a M A y z
     | cons e w=>exact Lg E O.room a M A h y z
    ·exact bX
   ·split
    ·rename_i i
     rw [Ti] at i
     split
     ·rename_i g A
      obtain ⟨v,Z,H,N,I,K,L⟩:=OD (X:=X) O.calm O.room.units A
      cases args with
      | nil=>exact absurd i.2 (by simp)
      | cons e w=>
       rcases N with ⟨id,rfl⟩|⟨T,rfl⟩
       ·exact wK I K (O.no x i.1) H h y L z
       ·exact Lh I K (O.no x i.1) H h y L z
     ·exact bX
    ·exact bX
  ·exact bX
 ·rename_i o m G
  split
  ·rename_i u
   rw [Ti,Ti] at u
   obtain ⟨⟨q,s⟩,Q⟩:=u
   have h:=jP j args Q
   split
   ·rename_i g a
    unfold D1 at a
    split at a
    ·rename_i d
     obtain ⟨rfl,d⟩:=d
     cases a
     cases args with
     | nil=>cases d
     | cons e w=>exact N0 Z3 PySem.F.type_dict_get (N2 (by have:=O.room.units;omega)) N1 (j o) h q s (by rw [d];decide)
    cases a
   split
   ·rename_i b
    subst b
    split
    ·exact De PySem.F.slot_str_split PySem.F.type_str_split Ob Oa (j o) h q s (by show 1<30;decide)
    ·exact bX
   split
   ·rename_i g a
    unfold D0 at a
    split at a
    ·rename_i d
     cases args with
     | nil=>cases d
     | cons e w=>
      have B:(e::w).length<30:=by rw [d];decide
      split at a
      ·rename_i b;subst b;cases a
       exact Cz PySem.F.slot_list_append PySem.F.type_list_append Bl Mb (j o) h q s B
      split at a
      ·rename_i b;subst b;cases a
       exact Cz PySem.F.slot_list_extend PySem.F.type_list_extend IK Mc (j o) h q s B
      ·cases a
    split at a
    ·rename_i d
     cases args with
     | cons e w=>cases d
     | nil=>
      split at a
      ·rename_i b;subst b;cases a
       exact CA PySem.F.slot_list_clear PySem.F.type_list_clear IM Md (j o) q s
      split at a
      ·rename_i b;subst b;cases a
       exact CA PySem.F.slot_list_pop PySem.F.type_list_pop IL Me (j o) q s
      cases a
    ·cases a
   ·skip
    split
    ·rename_i b
     subst b
     split
     ·exact De PySem.F.slot_str_join PySem.F.type_str_join M8 M7 (j o) h q s (by show 1<30;decide)
     ·exact bX
    ·exact bX
  ·exact bX
 ·exact bX
theorem OS (O:Okx S F k c X){r:Expr->ME}(b:∀ e,QE X e (r e))(f:Expr)(args:List Expr)(a:Vc):QE X (.Call f args [] a) (yD S F r c f args a):=by
 unfold yD
 exact OR O b f args a
theorem sY (O:Okx S F k c X){scope:Wb}{xs:List Str}(h:qF c scope xs=true):CompSt X.env.scope X.N scope xs/\xs.Nodup:=by
 unfold qF at h
 rw [Ti,Ti] at h
 obtain ⟨⟨h,b⟩,p⟩:=h
 have b:=of_decide_eq_true b
 have d:∀ y∈c.N,xs.contains y=true->scope.names.lookup (m9 y)=none:=fun y a hc=>by
  have:=Ww.mp p y a
  rw [hc] at this
  simpa using this
 simp only [Ti,Ww,decide_eq_true_eq,WH,X9,List.contains_eq_mem,decide_eq_false_iff_not] at h
 obtain ⟨⟨⟨⟨⟨⟨g,i⟩,j⟩,l⟩,o⟩,m⟩,n⟩:=h
 refine ⟨⟨g,i,fun y a e=>(j y a).resolve_left (fun z=>z e),l,fun y a q=>?_,fun y a e=>?_,O.nd,by rw [O.N];exact b,by rw [O.N];exact d⟩,o⟩
 ·rw [O.ks]
  rcases m y a with (z|z)|z
  ·exact absurd q z
  ·exact .inl z
  ·exact .inr z
 ·rw [O.N]
  have:=(n y a).resolve_left (fun z=>z e)
  exact this
theorem Ee {N xs:List Str}(h:N.Nodup)(d:xs.Nodup)(g:∀ x∈xs,x∉N):(N++xs).Nodup:=by
 rw [Wi]
 exact ⟨h,d,fun a i b j e=>by subst e;exact g _ j i⟩
theorem Okx.comp (O:Okx S F k c X){scope:Wb}{xs:List Str}(h:qF c scope xs=true){d:List (Str×Addr)}{C:Addr}{s₀:S5}{H₀:Hp}{e:List Addr}:Okx S F k (qG c scope xs) (cO X scope d C (bI xs X.N++xs) s₀ H₀ e):=by
 obtain ⟨St,a⟩:=sY O h
 refine ⟨show bI xs X.N++xs=bI xs c.N++xs by rw [O.N],?_,?_,?_,O.calm,O.room,a0v,O.fn,O.con,fun y b q=>⟨(O.tab y b q).ex⟩,O.no
  ⟩
 ·show (bI xs X.N++xs).Nodup
  exact Ee St.hnd a fun x g=>St.own (x,.local) (UL (St.here x g)) rfl
 ·show (a2u scope X.env).names=(qG c scope xs).ks
  unfold a2u qG
  dsimp only
  refine UX fun y _=>?_
  obtain ⟨n,i⟩:=y
  dsimp only
  have:(X.env.scope.kind == ScopeKind.function)=true:=by rw [O.kind];rfl
  rw [this,Z5]
  show (if (i == VE&&X.env.scope.names.lookup n == some VX)=true then _ else _)=_
  rw [O.ks]
 ·show (a2u scope X.env).kind=.function
  exact St.kind
theorem Ef {r:Expr->MT}(j:∀ e,QT X e (r e)):∀ es:List Expr,QI X es (D4 r es)
 | []=>LD
 | [t]=>LF (j t)
 | a::b::es=>⟨fun g s p H Q I h=>by
   obtain ⟨n,o,m,d,l,R,E,i,k⟩:=h
   cases i⟩
theorem Eg (O:Okx S F k c X){e:Expr}{args:List Expr}(h:yH S c e=some args):∃ p pos,e=.Call (.Name "range" p) args [] pos/\Gl X "range"/\X.mg "range" = none/\args.all c9=true:=by
 unfold yH at h
 split at h
 ·split at h
  ·rename_i b
   subst b
   split at h
   ·rename_i a
    cases h
    rw [Ti,Ti] at a
    exact ⟨_,_,rfl,(O.gl a.1.1).1,O.no _ a.1.2,a.2⟩
   ·cases h
  ·cases h
 ·cases h
theorem Eh (O:Okx S F k c X){r:Expr->ME}(j:∀ e,QE X e (r e))(e:Expr):QJ X e (sV S r c e):=by
 unfold sV
 split
 ·rename_i a h
  obtain ⟨p,pos,rfl,d,g,i⟩:=Eg O h
  exact LU d g (jP j [a] i)
 ·rename_i a b h
  obtain ⟨p,pos,rfl,d,g,i⟩:=Eg O h
  exact LV d g (jP j [a,b] i)
 ·exact j_bad
 ·exact LS (j e)
theorem OT (O:Okx S F k c X){e a:Expr}(h:yI S c e=some a):∃ p pos,e=.Call (.Name "enumerate" p) [a] [] pos/\Gl X "enumerate"/\X.mg "enumerate" = none/\c9 a=true:=by
 unfold yI at h
 split at h
 ·split at h
  ·rename_i d
   subst d
   split at h
   ·rename_i b
    cases h
    rw [Ti,Ti] at b
    exact ⟨_,_,rfl,(O.gl b.1.1).1,O.no _ b.1.2,b.2⟩
   ·cases h
  ·cases h
 ·cases h
theorem OU (O:Okx S F k c X){r:Expr->ME}(b:∀ e,QE X e (r e))(e:Expr):QJT X e (yJ S r c e):=by
 unfold yJ
 split
 ·rename_i a h
  obtain ⟨p,pos,rfl,d,g,i⟩:=OT O h
  exact j_bad.t
 ·exact (Eh O b e).t
theorem OV (O:Okx S F k c X){r:Expr->ME}(a:∀ e,QE X e (r e))(e:Expr):QJT X e (yK S r c e):=by
 unfold yK
 exact OU O a e
theorem yW (O:Okx S F k c X){r:Expr->ME}(a:∀ e,QE X e (r e))(tg e:Expr):PI X tg e (jI X.K (sW S r c tg e)):=by
 unfold sW
 split
 ·exact (OV O a e).h _ _ _
 ·exact (Eh O a e).h _
theorem Ei {iter:Expr}{env:YY}(h:eF iter=true):∀ x,Xm iter env x=pure x:=by
 intro z
 cases iter<;>first|rfl|cases h
end
theorem Ej {X:Cx}(c:X.N.Nodup):∀ (es:List Expr)(xs:List Str)(n:Nat),(es.mapM fun e=>match e with|.Name x _=>some x|_=>none)=some xs->(∀ j x,xs[j]? = some x->X.N[n+j]? = some x/\X.env.scope.names.lookup x=some .local)->QGs X es (X6 n xs.length)
 | [],xs,n,h,hx=>by
  cases h
  exact Cf
 | e::es,xs,n,h,hx=>by
  rw [List.mapM_cons] at h
  obtain ⟨x,b,h⟩:=S0.mp h
  obtain ⟨i,d,h⟩:=S0.mp h
  cases h
  cases e with
  | Name y p=>
   cases b
   rw [TF,Zc]
   have a:=hx 0 x rfl
   refine Cg n c (Ej c es i (n+1) d fun j z g=>?_) (by simpa using a.1) (.inl a.2) (.inr a.2)
   have:=hx (j+1) z (by simpa using g)
   rw [show n+1+j=n+(j+1) by omega]
   exact this
  | _=>cases b
theorem sZ {S:Sig}{F:Str->MF}{k:Nat}{c:Cs}{X:Cx}(O:Okx S F k c X){scope:Wb}{tg:Expr}{xs:List Str}(b:yL tg=some xs)(h:qF c scope xs=true)(e:List (Str×Addr))(C:Addr)(s₀:S5)(H₀:Hp)(g:List Addr) :
  PG (cO X scope e C (bI xs X.N++xs) s₀ H₀ g) tg (fJ X.K (gB X.N.length (yM tg xs.length)))/\∀ d n z,yM tg xs.length d n=some z->z.length=xs.length:=by
 obtain ⟨St,l⟩:=sY O h
 have o:(bI xs X.N++xs).Nodup:=Ee St.hnd l fun x b=>St.own (x,.local) (UL (St.here x b)) rfl
 have a:∀ x∈xs,(a2u scope X.env).names.lookup x=some .local:=fun x b=>lookup_relabel_local (St.here x b)
 unfold yL at b
 split at b
 ·rename_i x p
  cases b
  refine ⟨LW (X:=cO X scope e C (bI [x] X.N++[x]) s₀ H₀ g) (by show (bI [x] X.N++[x]).length=_;rw [Td,lN];rfl) (B1 (X:=cO X scope e C (bI [x] X.N++[x]) s₀ H₀ g) o (by show (bI [x] X.N++[x])[X.N.length]? = _;rw [<- lN [x] X.N];simp) (.inl (a x (by simp))) (.inr (a x (by simp)))),fun d n z m=>?_⟩
  cases m
  rfl
 ·rename_i r v pt
  refine ⟨LX (X:=cO X scope e C (bI xs X.N++xs) s₀ H₀ g) (by show (bI xs X.N++xs).length=_;rw [Td,lN]) (wN (X:=cO X scope e C (bI xs X.N++xs) s₀ H₀ g) (Ej (X:=cO X scope e C (bI xs X.N++xs) s₀ H₀ g) o r xs X.N.length b fun j x q=>⟨?_,a x (Ts q)⟩) O.calm).h,fun d n z m=>?_⟩
  ·show (bI xs X.N++xs)[X.N.length+j]? = some x
   rw [Tx (by rw [lN];omega),lN,show X.N.length+j - X.N.length=j by omega]
   exact q
  ·obtain ⟨w,u,i⟩:=S0.mp m
   split at i
   ·rename_i s
    cases i
    rw [S6];exact s
   ·cases i
 ·cases b
theorem OW (O:Okx S F k c X){r:Expr->ME}(l:∀ e,QE X e (r e))(f:Expr)(args:List Expr)(g:Vc):QE X (.Call f args [] g) (yG S F r c f args g):=by
 unfold yG
 split
 ·rename_i q h
  split
  ·rename_i b
   rw [Ti,Ti,Ti,Ti,Ti] at b
   obtain ⟨⟨⟨⟨⟨d,u⟩,i⟩,v⟩,st⟩,o⟩:=b
   obtain ⟨t,j,a⟩:=S0.mp h
   split at a
   ·rename_i n
    obtain ⟨p,w,pos,rfl,rfl⟩:=OF j
    rw [n.1,n.2,D3 a]
    exact N6 O.calm O.room.units (O.no _ i) (O.no _ v) (O.gl d).1 (O.gl u).1 (l _) st o
   ·cases a
  ·exact bX
 split
 ·rename_i q h
  split
  ·rename_i b
   rw [Ti,Ti,Ti] at b
   obtain ⟨⟨⟨d,i⟩,st⟩,o⟩:=b
   obtain ⟨t,j,a⟩:=S0.mp h
   split at a
   ·rename_i m
    obtain ⟨p,rfl,rfl⟩:=yF j
    rw [m,OH a]
    exact Ol O.calm (O.no _ i) (O.gl d).1 (l _) st o
   ·cases a
  ·exact bX
 split
 ·rename_i q h
  split
  ·rename_i b
   rw [Ti,Ti,Ti] at b
   obtain ⟨⟨⟨d,i⟩,st⟩,o⟩:=b
   obtain ⟨t,j,a⟩:=S0.mp h
   split at a
   ·rename_i m
    obtain ⟨p,rfl,rfl⟩:=yF j
    rw [m,D3 a]
    exact Ot O.calm (O.no _ i) (O.gl d).1 (l _) st o
   ·cases a
  ·exact bX
 split
 ·rename_i q h
  split
  ·rename_i b
   rw [Ti,Ti] at b
   obtain ⟨⟨d,i⟩,st⟩:=b
   obtain ⟨t,j,a⟩:=S0.mp h
   split at a
   ·rename_i m
    obtain ⟨p,rfl,rfl⟩:=yF j
    cases a
    rw [m.1]
    have s:([t.2]:List Expr).all c9=true:=by rw [UE,List.all_nil,Z5];exact st
    split
    ·exact wK (Oh O.calm) DV (O.no _ i) V1 (jP l _ s) (O.gl d).1 (by decide) (O.gl d).2
    ·exact wK Ov Ou (O.no _ i) V1 (jP l _ s) (O.gl d).1 (by decide) (O.gl d).2
   ·cases a
  ·exact bX
 exact OS O l _ _ _
theorem Ek {S:Sig}{F:Str->MF}{k:Nat}{m:Cs->Expr->ME}{n:Cs->Expr->MT}(o:∀ c X,Okx S F k c X->∀ e,QE X e (m c e))(p:∀ c X,Okx S F k c X->∀ e,QT X e (n c e))(c:Cs)(X:Cx)(O:Okx S F k c X)
  (elt tg iter:Expr)(ifs:List Expr)(scope:Wb)(pos:Vc){l:MI}(r:PI X tg iter (jI X.K l)):QE X (.ListComp elt [⟨tg,iter,ifs,0⟩] scope pos) (qH l m n c elt tg iter ifs scope):=by
 unfold qH
 split
 ·rename_i w j
  split
  ·rename_i h
   rw [Ti] at h
   refine ⟨fun g s v H Q I q=>?_⟩
   exact LZ ((sY O h.1).1.ok I.ok) O.calm r (fun d u z=>(sZ O j h.1 [] 0 s H []).2 d u z) (fun C b a i=>(sZ O j h.1 _ C b a i).1) (fun C b a i=>(Ef (p _ _ (O.comp h.1)) _).h) (fun C b a i=>(o _ _ (O.comp h.1) _).h) (Ei h.2) g s v H Q I q
  ·exact bX
 ·exact bX
theorem OX {S:Sig}{F:Str->MF}{k:Nat}{b:Cs->Expr->ME}{d:Cs->Expr->MT}(a:∀ c X,Okx S F k c X->∀ e,QE X e (b c e))(g:∀ c X,Okx S F k c X->∀ e,QT X e (d c e))(c:Cs)(X:Cx)(O:Okx S F k c X)
  (elt tg iter:Expr)(ifs:List Expr)(scope:Wb)(pos:Vc):QE X (.ListComp elt [⟨tg,iter,ifs,0⟩] scope pos) (sX S b d c elt tg iter ifs scope):=by
 unfold sX
 exact Ek a g c X O elt tg iter ifs scope pos (yW O (a c X O) tg iter)
theorem OY {X:Cx}{pos:Vc}{keys:List (Option Expr)}{a:List Expr}{b:List (ME×ME)}(h:QP X pos keys a b)(d:(!keys.isEmpty)=true)(c:keys.length<=15):QE X (.Dict keys a pos) (lR b):=by
 cases keys with
 | nil=>exact absurd d (by simp)
 | cons e g=>exact Lm h c
section
variable {S:Sig}{F:Str->MF}{k:Nat}{c:Cs}{X:Cx}{r:Expr->ME}
theorem OZ (v:Const)(n:Nat)(p:Vc):QE X (.Constant v n p) (D5 v):=by
 cases v<;>first|exact KH|exact KI|exact KJ|exact KL|exact bX
theorem O0 (b:∀ e,QE X e (r e))(op:UnaryOp)(a:Expr)(p:Vc):QE X (.UnaryOp op a p) (D6 (r a) op):=by
 cases op<;>first|exact KS (b _)|exact KU (b _)|exact bX
theorem O1 (O:Okx S F k c X)(b:∀ e,QE X e (r e))(a:Expr)(ops:List XF)(bs:List Expr)(p:Vc):QE X (.Compare a ops bs p) (yN S r a ops bs):=by
 unfold yN
 split
 ·exact OP O (b _) (b _) _ _
 ·split
  ·rename_i d g
   exact MW d g (b _) (b _) (b _)
  ·exact bX
 ·exact bX
theorem O2 (b:∀ e,QE X e (r e))(ks:List (Option Expr))(vs:List Expr)(p:Vc):QE X (.Dict ks vs p) (yO r ks vs):=by
 unfold yO
 split
 ·rename_i d h
  split
  ·rename_i a
   rw [Ti] at a
   exact OY (Ec b _ _ _ _ h) a.1 (of_decide_eq_true a.2)
  ·exact bX
 ·exact bX
theorem O3 (O:Okx S F k c X)(a:∀ e,QE X e (r e))(ks:List (Option Expr))(vs:List Expr)(p:Vc):QE X (.Dict ks vs p) (yP r ks vs):=by
 unfold yP
 try split
 ·exact Nj
 ·exact NW O.room (a _) (a _)
 ·exact O2 a _ _ _
theorem O4 (O:Okx S F k c X)(d:∀ e,QE X e (r e))(a b:Expr)(p:Vc):QE X (.Subscript a b p) (yQ S r c a b):=by
 unfold yQ
 split
 ·exact Lf (d _) (Ed d _) (Ed d _)
 ·split
  ·rename_i h
   ·exact Nx O.room (d _) (d _) h
  ·exact bX
theorem yX (a:∀ e,QE X e (r e))(e:Expr):QT X e (qI r e):=by
 unfold qI
 split
 ·rename_i h;exact Mg (a _) h
 ·exact wR
theorem O5 (O:Okx S F k c X)(b:∀ e,QE X e (r e))(a:Expr)(ops:List XF)(bs:List Expr)(p:Vc):QT X (.Compare a ops bs p) (yV S r a ops bs p):=by
 unfold yV
 split
 ·exact OQ O (b _) (b _) _ _
 ·split
  ·rename_i d g
   exact MX d g (b _) (b _) (b _)
  ·exact wR
 ·exact yX b _
theorem O6 (a:∀ e,QE X e (r e))(es:List Expr)(n:Nat)(p:Vc):QE X (.Tuple es n p) (yR r es):=by
 unfold yR
 split
 ·rename_i h;exact K9 (jP a _ h)
 ·exact bX
theorem O7 (a:∀ e,QE X e (r e))(es:List Expr)(p:Vc):QE X (.List es p) (yS r es):=by
 unfold yS
 split
 ·rename_i h;exact La (jP a _ h)
 ·exact bX
theorem O8 (O:Okx S F k c X)(b:∀ e,QE X e (r e))(f:Expr)(args:List Expr)(a:List WE)(p:Vc):QE X (.Call f args a p) (yT S F r c f args p a):=by
 unfold yT
 split
 ·exact OW O b _ _ _
 ·exact bX
end
theorem Em {S:Sig}{F:Str->MF}{k:Nat}{m:Cs->Expr->ME}{o:Cs->Expr->MT}(y:∀ c X,Okx S F k c X->∀ e,QE X e (m c e))(z:∀ c X,Okx S F k c X->∀ e,QT X e (o c e))(c:Cs)(X:Cx)(O:Okx S F k c X) :
  (∀ e,QE X e (D7 S F m o c e))/\∀ e,QT X e (D8 S m o c e):=by
 have d:=y c X O
 have s:=z c X O
 constructor
 ·intro e
  cases e with
  | Name x p=>exact ON O _ _
  | Constant v n p=>exact OZ v n p
  | BinOp a i b p=>exact OO (d _) (d _) _ _
  | UnaryOp i a p=>exact O0 d i a p
  | Compare a g bs p=>exact O1 O d a g bs p
  | BoolOp i w p=>exact D9 d _ _ _
  | IfExp t a b p=>exact K6 (s _) (d _) (d _)
  | Tuple r n p=>exact O6 d r n p
  | List r p=>exact O7 d r p
  | Dict B w p=>exact O3 O d B w p
  | Subscript a b p=>exact O4 O d a b p
  | Call f j u l=>exact O8 O d f j u l
  | ListComp q A h p=>
   show QE X _ (yU S m o c q h A)
   unfold yU
   split
   ·exact OX y z c X O _ _ _ _ _ _
   ·exact bX
  | _=>exact bX
 ·intro e
  cases e with
  | BoolOp i w p=>exact LC (Ea s _ _ _)
  | UnaryOp i a p=>
   cases i
   case Not=>exact Lx (s _)
   all_goals exact yX d _
  | Compare a g bs p=>exact O5 O d a g bs p
  | _=>exact yX d _
theorem yY {S:Sig}{F:Str->MF}{k:Nat}:∀ (n:Nat),(∀ c X,Okx S F k c X->∀ e,QE X e ((tr S F n).1 c e))/\∀ c X,Okx S F k c X->∀ e,QT X e ((tr S F n).2 c e)
 | 0=>⟨fun c X O e=>bX,fun c X O e=>wR⟩
 | n+1=>by
  have a:=yY (S:=S) (F:=F) (k:=k) n
  exact ⟨fun c X O e=>(Em a.1 a.2 c X O).1 e,fun c X O e=>(Em a.1 a.2 c X O).2 e⟩
end L3
namespace L3
open PySem L2
noncomputable def tB:MG:=fun _ _ _=>none
noncomputable def qJ (c:Cs):List Expr->Option (List Nat)
 | []=>some []
 | .Name x _::r=>if mH c x then (mG x c.N).bind fun i=>(qJ c r).map (i::·) else none
 | _=>none
noncomputable def yZ (c:Cs):Expr->MG
 | .Name x _=>if mH c x then (match mG x c.N with|some i=>cT i|none=>tB) else tB
 | .Tuple es _ _=>match qJ c es with|some is=>fL is|none=>tB
 | _=>tB
noncomputable def mJ (r:Stmt->MS):List Stmt->MS
 | []=>bG
 | [s]=>r s
 | s::t=>aL (r s) (mJ r t)
noncomputable def zA (S:Sig)(E:Cs->Expr->ME)(T:Cs->Expr->MT)(c:Cs)(i:Nat):Expr->MS
 | .ListComp elt [⟨tg,iter,ifs,0⟩] scope _=>bC i (sX S E T c elt tg iter ifs scope)
 | _=>c3
noncomputable def zB (S:Sig)(E:Cs->Expr->ME)(T:Cs->Expr->MT)(c:Cs)(tg e:Expr):MS:=match tg with
 | .Name y _=>if mH c y then (match mG y c.N with
   | some i=>if jH e then bC i (E c e) else zA S E T c i e
   | none=>c3) else c3
 | .Tuple es _ _=>if wO e then (match qJ c es with|some is=>lP (E c e) (fL is)|none=>c3)
   else c3
 | .Subscript o i _=>if jH e&&lS i then dX (E c o) (E c i) (E c e) else c3
 | _=>c3
noncomputable def oG:Nat:=1000000000
noncomputable def Eo (S:Sig)(E:Cs->Expr->ME)(T:Cs->Expr->MT)(c:Cs)(r:Stmt->MS):Stmt->MS
 | .Return (some e) _=>aS (E c e)
 | .Return none _=>aS (mC .non)
 | .If t a b _=>bH (T c t) (mJ r a) (mJ r b)
 | .Assign [tg] e _=>zB S E T c tg e
 | .Expr e _=>if jH e then d9 (E c e) else c3
 | .For tg iter body [] _=>if eF iter then dE (sW S (E c) c tg iter) (yZ c tg) (mJ r body) else c3
 | .While t body [] _=>nN oG (T c t) (mJ r body)
 | .Pass _=>bG
 | _=>c3
noncomputable def zC (S:Sig)(F:Str->MF)(m:Nat)(c:Cs):Nat->Stmt->MS
 | 0=>fun _=>c3
 | n+1=>Eo S (tr S F m).1 (tr S F m).2 c (zC S F m c n)
section
variable {S:Sig}{F:Str->MF}{k:Nat}{c:Cs}{X:Cx}
theorem Okx.own (O:Okx S F k c X){x:Str}(h:mH c x=true):L2.Loc X.env.scope x:=by
 unfold mH at h
 rw [WH] at h
 unfold L2.Loc
 rw [O.ks]
 exact h.imp of_decide_eq_true of_decide_eq_true
theorem zD (O:Okx S F k c X)(a:∀ x,X.fn x=true):∀ (es:List Expr)(is:List Nat),qJ c es=some is->QGs X es is
 | [],is,h=>by cases h;exact Cf
 | e::es,is,h=>by
  cases e with
  | Name x p=>
   unfold qJ at h
   split at h
   ·rename_i g
    obtain ⟨i,b,h⟩:=S0.mp h
    obtain ⟨j,d,h⟩:=S8.mp h
    subst h
    exact Cg i O.nd (zD O a es j d) (by rw [O.N];exact qE b) (O.own g) (.inl (a x))
   ·cases h
  | _=>cases h
theorem O9 (O:Okx S F k c X)(b:∀ x,X.fn x=true)(e:Expr):QG X e (yZ c e):=by
 unfold yZ
 split
 ·split
  ·rename_i d
   split
   ·rename_i i a
    exact LO i O.nd (by rw [O.N];exact qE a) (O.own d) (.inl (b _))
   ·exact rZ fun _ _ _=>rfl
  ·exact rZ fun _ _ _=>rfl
 ·split
  ·rename_i is a
   exact wN (zD O b _ is a) O.calm
  ·exact rZ fun _ _ _=>rfl
 ·exact rZ fun _ _ _=>rfl
theorem oH {r:Stmt->MS}(a:∀ s,QS X s (r s)):∀ ss:List Stmt,QB X ss (mJ r ss)
 | []=>LG
 | [s]=>LI (a s)
 | s::t::ts=>LH (a s) (oH a (t::ts))
theorem Pa {elt tg iter:Expr}{ifs:List Expr}{scope:Wb}{pos py:Vc}{y:Str}{n:Nat}{env:YY} :
  ∃ b:Bool,Yb (.ListComp elt [⟨tg,iter,ifs,0⟩] scope pos) (some (.Name y py)) n env=pure b/\(b=true->env.kindOf y=some .local):=by
 refine ⟨env.blockKind == .function&&env.kindOf y == some .local&&py.line == pos.line&&!(scope.names.any fun (n,k)=>n == y&&(k == .local||k == .cell)),rfl,fun h=>?_⟩
 simp only [Ti,beq_iff_eq] at h
 exact h.1.1.2
theorem Pb (O:Okx S F k c X)(B:∀ x,X.fn x=true){E:Cs->Expr->ME}{T:Cs->Expr->MT}(r:∀ c X,Okx S F k c X->∀ e,QE X e (E c e))(u:∀ c X,Okx S F k c X->∀ e,QT X e (T c e))
  {i:Nat}{y:Str}{py j:Vc}(v:X.N[i]? = some y)(G:mH c y=true)(elt tg iter:Expr)(ifs:List Expr)(scope:Wb)(pos:Vc){A:MI}(m:PI X tg iter (jI X.K A)):QS X (.Assign [.Name y py] (.ListComp elt [⟨tg,iter,ifs,0⟩] scope pos) j) (bC i (qH A E T c elt tg iter ifs scope)):=by
  obtain ⟨b,l,p⟩:=Pa (elt:=elt) (tg:=tg) (iter:=iter) (ifs:=ifs) (scope:=scope) (pos:=pos) (py:=py) (y:=y) (n:=j.line) (env:=X.env)
  cases b with
  | false=>exact ⟨BM O.nd v (O.own G) (Ek r u c X O elt tg iter ifs scope pos m).h l (.inl (B y))⟩
  | true=>
   unfold qH
   split
   ·rename_i M w
    split
    ·rename_i h
     rw [Ti] at h
     refine ⟨fun n s L H D I q=>?_⟩
     exact L0 ((sY O h.1).1.ok I.ok) O.nd O.calm m (fun d K z=>(sZ O w h.1 [] 0 s H []).2 d K z) (fun C g a o=>(sZ O w h.1 _ C g a o).1) (fun C g a o=>(Ef (u _ _ (O.comp h.1)) _).h) (fun C g a o=>(r _ _ (O.comp h.1) _).h) (Ei h.2) v (p rfl) l n s L H D I q
    ·exact Dc
   ·exact Dc
theorem Pc (O:Okx S F k c X)(g:∀ x,X.fn x=true){E:Cs->Expr->ME}{T:Cs->Expr->MT}(b:∀ c X,Okx S F k c X->∀ e,QE X e (E c e))(d:∀ c X,Okx S F k c X->∀ e,QT X e (T c e))
  {i:Nat}{y:Str}{py a:Vc}(h:X.N[i]? = some y)(j:mH c y=true)(e:Expr):QS X (.Assign [.Name y py] e a) (zA S E T c i e):=by
 unfold zA
 split
 ·exact Pb O g b d h j _ _ _ _ _ _ (yW O (b c X O) _ _)
 ·exact eG
theorem Pd (O:Okx S F k c X)(d:∀ x,X.fn x=true){E:Cs->Expr->ME}{T:Cs->Expr->MT}(b:∀ c X,Okx S F k c X->∀ e,QE X e (E c e))(m:∀ c X,Okx S F k c X->∀ e,QT X e (T c e))(tg e:Expr)(pos:Vc) :
  QS X (.Assign [tg] e pos) (zB S E T c tg e):=by
 unfold zB
 split
 ·split
  ·rename_i l
   split
   ·rename_i i g
    have a:=qE g
    rw [<- O.N] at a
    split
    ·rename_i j
     exact LN i O.nd (b c X O e) j a (O.own l) (.inl (d _))
    ·exact Pc O d b m a l e
   ·exact eG
  ·exact eG
 ·split
  ·rename_i j
   split
   ·rename_i is g
    exact LQ (b c X O e) (wN (zD O d _ is g) O.calm) j
   ·exact eG
  ·exact eG
 ·split
  ·rename_i h
   rw [Ti] at h
   exact ND O.room (b c X O _) (b c X O _) (b c X O _) h.1
  ·exact eG
 ·exact eG
theorem Pe (O:Okx S F k c X)(q:∀ x,X.fn x=true){E:Cs->Expr->ME}{T:Cs->Expr->MT}(j:∀ c X,Okx S F k c X->∀ e,QE X e (E c e))(m:∀ c X,Okx S F k c X->∀ e,QT X e (T c e)){r:Stmt->MS}(l:∀ s,QS X s (r s))(st:Stmt) :
  QS X st (Eo S E T c r st):=by
 cases st with
 | Return o p=>
  cases o with
  | none=>exact Mj
  | some e=>exact LK (j c X O _)
 | If t a b p=>exact LM (m c X O _) (oH l _) (oH l _)
 | Assign n e p=>
  cases n with
  | nil=>exact eG
  | cons u v=>
   cases v with
   | nil=>exact Pd O q j m _ _ _
   | cons _ _=>exact eG
 | Expr e p=>
  show QS X _ (if jH e then d9 (E c e) else c3)
  split
  ·rename_i h;exact LL (j c X O _) h
  ·exact eG
 | For u i g d p=>
  cases d with
  | cons _ _=>exact eG
  | nil=>
   show QS X _ (if eF i then _ else c3)
   split
   ·rename_i h
    exact M4 (yW O (j c X O) _ _) (O9 O q _) (oH l _) O.never O.calm h
   ·exact eG
 | While t g d p=>
  cases d with
  | nil=>exact Mi _ (m c X O _) (oH l _) O.never
  | cons _ _=>exact eG
 | Pass p=>exact LJ
 | _=>exact eG
theorem Ep (O:Okx S F k c X)(a:∀ x,X.fn x=true)(m:Nat):∀ (n:Nat)(st:Stmt),QS X st (zC S F m c n st)
 | 0,_=>eG
 | n+1,st=>Pe O a (yY m).1 (yY m).2 (Ep O a m n) st
end
noncomputable def dC (st:Stmt):List Str:=(jD st).args.map (·.arg)
noncomputable def kW (st:Stmt):List Str:=dC st++(cI st).names.filterMap fun y=>if (y.2 == NameKind.local||y.2 == VX)&&!(dC st).contains y.1 then some y.1 else none
noncomputable def mL (st:Stmt):Bool:=
 decide ((cI st).kind=.function)&&!(cI st).isCoroutine&&!(cI st).isGenerator&&decide (kW st).Nodup &&
 ((dC st).all fun x=>decide ((cI st).names.lookup x=some .local)||decide ((cI st).names.lookup x=some .cell))&&((cI st).names.all fun y=>decide (y.2≠.free))
theorem Pf {st:Stmt}(h:mL st=true):FnScope (kW st) (dC st) (cI st):=by
 unfold mL at h
 simp only [Ti,decide_eq_true_eq,X9,Ww,WH] at h
 obtain ⟨⟨⟨⟨⟨a,b⟩,c⟩,d⟩,e⟩,g⟩:=h
 exact ⟨a,b,c,d,by unfold kW;simp,e,g⟩
noncomputable def Er:Nat:=40
noncomputable def Es:Nat:=40
noncomputable def zE (S:Sig)(F:Str->MF)(st:Stmt):MF:=vT (kW st).length (mJ (zC S F Er ⟨kW st,(cI st).names⟩ Es) (fI st))
noncomputable def iY (S:Sig)(ds:List (Str×Stmt)):Nat->Str->MF
 | 0,_=>fun _ _=>none
 | k+1,x=>match ds.lookup x with
  | none=>fun _ _=>none
  | some st=>zE S (iY S ds k) st
structure DefAt (K:S1)(mg:Str->Option S4)(x:Str)(st:Stmt):Prop where
 ex:∃ f fd,Fun K x x st f fd/\mg x=some (.ref f)/\Binds K fd (dC st) []
structure TxtOk (P:TC)(w:T7)(K:S1)(mg:Str->Option S4)(S:Sig)(ds:List (Str×Stmt)):Prop where
 fns:∀ x n,S.fn.lookup x=some n->∃ st,ds.lookup x=some st/\(dC st).length=n
 defs:∀ x st,ds.lookup x=some st->DefAt K mg x st/\mL st=true
 con:∀ x d,S.con.lookup x=some d->∃ v u,mg x=some u/\RelV v u/\∀ π n H,IsD K π n H v d
 tab:∀ x kvs,S.tab.lookup x=some kvs->∃ (p:Addr)(vs:List (aG×V))(ws:List (aG×S4)),mg x=some (.ref p)/\(∀ h:UA,K.In h->h.DictOf (dD P w) p ws)/\KV vs ws/\∀ π n H,IsKs K π n H vs kvs
 no:∀ x,S.no.contains x=true->mg x=none
theorem Et {P:TC}{w:T7}{K:S1}{mg:Str->Option S4}{base:UA}{S:Sig}{ds:List (Str×Stmt)}(T:TxtOk P w K mg S ds):∀ (k:Nat)(x:Str)(st:Stmt)(f:Addr)(c:VO),ds.lookup x=some st->Fun K x x st f c->
  FnOk P w K mg base eX k f c (dC st) (iH K (dC st).length (iY S ds k x))
 | 0,x,st,f,c,hl,hF=>⟨fun U H Q E h=>h.1,fun A outer s H o us U Q E u Z Y hv I=>by
   obtain ⟨_,π,z,μ,d,X,R,i,G,kc⟩:=I
   cases G⟩
 | k+1,x,st,f,c,hl,hF=>by
  have M:=Et (base:=base) T k
  have e:iY S ds (k+1) x=zE S (iY S ds k) st:=by
   show (match ds.lookup x with|none=>fun _ _=>none|some st=>zE S (iY S ds k) st)=_
   rw [hl]
  rw [e]
  have g:=Pf (T.defs x st hl).2
  refine LR hF g (by unfold kW;simp) rfl fun j A outer s H E u=>?_
  have O:Okx S (iY S ds k) k ⟨kW st,(cI st).names⟩ (jB eX P w K mg base (kW st) x (cI st) f j A outer s H E).nox:=by
   refine ⟨rfl,g.nd,rfl,g.kind,rfl,u,a0v,fun y n L=>?_,T.con,fun y l q=>⟨T.tab y l q⟩,T.no⟩
   obtain ⟨a,r,B⟩:=T.fns y n L
   obtain ⟨p,b,m,N,v⟩:=(T.defs y a r).1.ex
   subst B
   exact ⟨p,b,dC a,M y a p b r m,N,m.kp,v⟩
  exact oH (Ep O (fun _=>rfl) Er Es) (fI st)
theorem Eu:∀ {ns:List Int}{b:Nat},XI (ns.map Xv)<=b->∀ n∈ns,Ua n<=b
 | [],_,_,n,a=>nomatch a
 | m::ns,b,h,n,a=>by
  have e:XI ((m::ns).map Xv)=Zg (.int m)+1+XI (ns.map Xv):=rfl
  have c:Zg (.int m)=Ua m:=rfl
  rw [e,c] at h
  rcases T5.mp a with rfl|a
  ·omega
  ·exact Eu (b:=b) (by omega) n a
section
open PySem PySem.W PySem.Calls PyProof.Rows
theorem Pg {l:a0T}{n:Nat}{q:TC}{loose:List Str}{XP:(Str->Option S4)->UA->Prop}{YP:T7->UA->Prop}{d:DefRec}
  (X:l.most=some n)(y:d.params.defaults=[])
  (call:∀ (w:T7)(s₀ b:S5)(mg B:Str->Option S4)(g:Addr)(o:VC)(E s c:S4)(a:Addr)(vs:List S4)(ns:List Int),
   Ground q loose [] XP w s₀ mg B b.heap->YP w b.heap->
   b.heap.get? g=some o->o.data=.func (docDef d.name d.params d.body d.scope E s c)->b.heap.CodeRec s d.name->mg d.name=some (.ref g)->
   b.heap.get? a=some { cls:=.type "list",data:=.seq vs.toArray }->Wl vs ns->ns.length<=n->(∀ m∈ns,Ua m<=2 ^ 20)->b.gens = #[]->
   Yl (TK l.prog w) Zv (.call (.ref g) ⟨[.ref a],[]⟩) (fun r u=>r=.ok (.ret (.bool true))/\OldK b.heap u.heap/\u.os=b.os/\Y0 u.gens) b) :
  a1z q loose XP YP l.row.toRowW d [] (fun f vs=>a2G f vs):=by
 intro w s₀ b mg B G Y g o E s c L kV Z hd x I z R H K as p h hrd A T
 obtain rfl:L=.none:=Dflts.none I y
 obtain rfl:kV=.none:=Dflts.noKw I
 obtain ⟨a,vs,ns,rfl,rfl,j,e,i⟩:=Att.script_of X p A
 have Q:∀ m∈ns,Ua m<=2 ^ 20:=by
  have v:Zb (.list (ns.map Xv))=true:=by
   have:=h
   unfold a2H at this
   simpa using this
  unfold Zb at v
  rw [Ti] at v
  exact Eu (of_decide_eq_true v.2)
 refine enter_call (Zu (call w s₀ b mg B g o E s c a vs ns G Y Z (fd_plain hd) x z j e i Q R) fun r u hq=>?_)
 obtain ⟨rfl,M,N,O⟩:=hq
 exact ⟨.inl ⟨.bool true,.bool true,[],rfl,fun _=>rfl,.bool true,Att.post_true l _,fun _=>⟨Yt,fun _ U=>(nomatch U)⟩⟩,M,N,O⟩
end
theorem walkM {l:a0T}{q:TC}{loose:List Str}{XP:(Str->Option S4)->UA->Prop}{YP:T7->UA->Prop}{d:DefRec}{K:Params->S1}{S:Sig}{ds:List (Str×Stmt)}{k:Nat}{st:Stmt}{x:Str}(hn:l.most=some 63)(L:d.params.defaults=[])
  (hr:Room k Zv)(hY:∀ (w:T7)(h:UA),YP w h->(K w.params).In h)(hl:ds.lookup d.name=some st)(hx:dC st=[x])
  (T:∀ (w:T7)(mg:Str->Option S4)(h:UA),(K w.params).In h->h.Ns Vf mg->TxtOk l.prog w (K w.params) mg S ds/\∃ f B,Fun (K w.params) d.name d.name st f B/\mg d.name=some (.ref f)/\∀ (s:S5)(u:S4),ZF s B ⟨[u],[]⟩ [(x,u)])
  (M:∀ b:List Int,b.length<=63->(∀ m∈b,Ua m<=2 ^ 20)->∃ p,iY S ds k d.name [.rol (b.map D.int)] []=some (.bl true,p)) :
  a1z q loose XP YP l.row.toRowW d [] (fun f vs=>a2G f vs):=by
 refine Pg hn L fun w X Z mg mb fa o pm cd doc a vs b G Y ho hd hcd O A g c I hg=>?_
 have R:=hY w _ Y
 obtain ⟨hT,f,B,hF,U,hb⟩:=T w mg _ R G.T.g
 rw [O] at U
 cases U
 refine L2.law_call (CX:=eX) (sp:=iH (K w.params) 1 (iY S ds k d.name)) R G.T.g G.T.b G.T.builtins G.T.nolimit hg A g (T8 c (by decide)) hr (fun y hb1 hb2=>?_) hb (fun H hO hS=>?_) fun H e s' z=>z
 ·have:=Et (base:=y) hT k d.name st fa B hl hF
  rw [hx] at this
  exact this
 ·refine ⟨rfl,fun _=>0,[.rol (b.map D.int)],[],.bl true,?_⟩
  obtain ⟨p,hM⟩:=M b c I
  have Q:RoL (K w.params) H a (b.map V.int):=by
   rcases hS with (h|h)|h
   ·rcases hO a with z|⟨o,E,z⟩
    ·rw [z] at h;cases h
    ·rw [z] at h;cases h
   ·exact .inl h
   ·exact .inr h
  refine ⟨p,⟨fun i j N=>absurd N (WK _),fun i N=>absurd N (WK _),fun i E h=>(by cases h),fun i E h=>(by cases h),fun i E h=>(by cases h)
   ,fun i E h=>(by cases h)
   ⟩,.cons (.rol Q ?_) .nil,hM,fun π' v H' _ _ hv=>?_⟩
  ·have:∀ b:List Int,IsDs (K w.params) (fun _=>0) ([]:Hm).length H (b.map V.int) (b.map D.int):=fun b=>by
    induction b with
    | nil=>exact .nil
    | cons n r ih=>exact .cons (.int n) ih
   exact this b
  ·cases hv
   rfl
end L3
namespace L3
open PySem L2
theorem tD {a:Type}:∀ {l:List (Str×a)}{x:Str}{b:a},l.lookup x=some b->(x,b)∈l:=fun h=>UL h
theorem Ph {S:Sig}{ds:List (Str×Stmt)}(h:(S.fn.all fun p=>match ds.lookup p.1 with|some st=>decide ((dC st).length=p.2)|none=>false)=true):∀ x n,S.fn.lookup x=some n->∃ st,ds.lookup x=some st/\(dC st).length=n:=by
 intro x n e
 have:=Ww.mp h (x,n) (tD e)
 dsimp only at this
 split at this
 ·rename_i st a
  exact ⟨st,a,of_decide_eq_true this⟩
 ·cases this
theorem Pj {K:S1}{mg:Str->Option S4}{ds:List (Str×Stmt)}(h:∀ p∈ds,DefAt K mg p.1 p.2/\mL p.2=true):∀ x st,ds.lookup x=some st->DefAt K mg x st/\mL st=true:=fun x st e=>h (x,st) (tD e)
theorem Pk {K:S1}{mg:Str->Option S4}{a:List (Str×D)}(h:∀ p∈a,∃ v u,mg p.1=some u/\RelV v u/\∀ π n H,IsD K π n H v p.2):∀ x d,a.lookup x=some d->∃ v u,mg x=some u/\RelV v u/\∀ π n H,IsD K π n H v d:=fun x d e=>h (x,d) (tD e)
inductive EntsOf (w:T7):List UD->List (aG×S4)->Prop where
 | nil:EntsOf w [] []
 | cons {e:UD}{k:aG}{v:S4}{es:List UD}{kvs:List (aG×S4)}(h:lB k e.key=true)(hh:e.hash=Au w k)(hv:e.val=v)(t:EntsOf w es kvs):EntsOf w (e::es) ((k,v)::kvs)
theorem EntsOf.keys {P:TC}{w:T7}{es:List UD}{kvs:List (aG×S4)}(x:EntsOf w es kvs):∀ e∈es,∃ k,(dD P w).is k e.key=true/\e.hash=(dD P w).hash k:=by
 induction x with
 | nil=>intro e a;exact nomatch a
 | @cons e k v es kvs h c g _ d=>
  intro b a
  rcases T5.mp a with rfl|a
  ·exact ⟨k,h,c⟩
  ·exact d b a
theorem Pl {mg:Str->Option S4}{ns:List Str}(h:∀ x∈ns,mg x=none):∀ x,ns.contains x=true->mg x=none:=fun x e=>h x (by simpa using e)
noncomputable def tE:Nat->(Nat->S4)->List S4
 | 0,_=>[]
 | n+1,u=>u 0::tE n fun i=>u (i+1)
theorem Ew:∀ us:List S4,∃ u,us=tE us.length u
 | []=>⟨fun _=>.none,rfl⟩
 | v::us=>let ⟨u,a⟩:=Ew us;⟨fun i=>match i with|0=>v|i+1=>u i,congrArg (v::·) a⟩
noncomputable abbrev Ex:Type:=S4->S4->S4->Option Addr->S4->S4->(Nat->S4)->a1h (List (Str×S4))
noncomputable def Pm (x:Str)(st:Stmt)(m:S4)(c:Addr):VC:=⟨Wo "function",none,.func (VW x x (jD st) (fI st) (cI st) .none .none .none m none (.ref c) .none),#[]⟩
noncomputable def Ey (K:S1)(d:(Str×Stmt)×S4×Addr×Addr):Option (Option S4)×Option VC×Bool×Bool×Bool×Ex:=(Ye K Vf d.1.1,K.lookup d.2.2.2,Yq K (.ref d.2.2.1) d.1.1,Vl K (.ref d.2.2.2),mL d.1.2,fun kV b c an a ct u=>a0i (VW d.1.1 d.1.1 (jD d.1.2) (fI d.1.2) (cI d.1.2) .none kV b c an a ct) ⟨tE (dC d.1.2).length u,[]⟩)
noncomputable def Ez (d:(Str×Stmt)×S4×Addr×Addr):Option (Option S4)×Option VC×Bool×Bool×Bool×Ex:=(some (some (.ref d.2.2.2)),some (Pm d.1.1 d.1.2 d.2.1 d.2.2.1),true,true,true,fun _ _ _ _ _ _ u=>pure ((dC d.1.2).zip (tE (dC d.1.2).length u)))
noncomputable def tF (K:S1)(d:Str×Stmt):(Str×Stmt)×S4×Addr×Addr:=(d,match Ye K Vf d.1 with
 | some (some (.ref f))=>(match K.lookup f with
  | some ⟨_,_,.func fd,_⟩=>(match fd.code with
   | .ref c=>(fd.pyModule,c,f)
   | _=>(.none,0,0))
  | _=>(.none,0,0))
 | _=>(.none,0,0))
noncomputable def tG (K:S1)(ds:List (Str×Stmt)):Prop:=ds.map (fun d=>Ey K (tF K d))=ds.map fun d=>Ez (tF K d)
theorem EA {K:S1}{h:UA}{mg:Str->Option S4}(X:K.In h)(G:h.Ns Vf mg){ds:List (Str×Stmt)}(q:tG K ds):∀ p∈ds,(DefAt K mg p.1 p.2/\mL p.2=true)/\∃ f i,Fun K p.1 p.1 p.2 f i/\mg p.1=some (.ref f)/\∀ us:List S4,us.length=(dC p.2).length->a0i i ⟨us,[]⟩=pure ((dC p.2).zip us):=by
 intro g o
 have t:=a1t.mp q g o
 have e:(tF K g).1=g:=rfl
 generalize tF K g=d at t e
 obtain ⟨p,m,c,f⟩:=d
 cases e
 unfold Ey Ez at t
 obtain ⟨a,t⟩:=Yr t
 obtain ⟨l,t⟩:=Yr t
 obtain ⟨c,t⟩:=Yr t
 obtain ⟨k,t⟩:=Yr t
 obtain ⟨s,b⟩:=Yr t
 have F:=IS (st:=p.2) l c k
 have D:=fun kV doc pm an cdv ct (us:List S4)(n:us.length=(dC p.2).length)=>(by
  obtain ⟨u,j⟩:=Ew us
  rw [n] at j
  rw [j]
  exact congrFun (congrFun (congrFun (congrFun (congrFun (congrFun (congrFun b kV) doc) pm) an) cdv) ct) u:a0i (VW p.1 p.1 (jD p.2) (fI p.2) (cI p.2) .none kV doc pm an cdv ct) ⟨us,[]⟩=pure ((dC p.2).zip us))
 exact ⟨⟨⟨_,_,F,Zx X G a,F.binds D⟩,s⟩,_,_,F,Zx X G a,D _ _ _ _ _ _⟩
theorem Pn {K:S1}{h:UA}{mg:Str->Option S4}(X:K.In h)(G:h.Ns Vf mg){ds:List (Str×Stmt)}(q:tG K ds){x y:Str}{st:Stmt}(c:ds.lookup x=some st)(d:dC st=[y]):∃ f a,Fun K x x st f a/\mg x=some (.ref f)/\∀ (s:S5)(u:S4),ZF s a ⟨[u],[]⟩ [(y,u)]:=by
 obtain ⟨f,a,F,m,b⟩:=(EA X G q (x,st) (tD c)).2
 dsimp only at b
 rw [d] at b
 exact ⟨f,a,F,m,fun s u=>.of_eq (b [u] rfl)⟩
theorem Po {K:S1}{h:UA}{mg:Str->Option S4}(X:K.In h)(G:h.Ns Vf mg){ns:List Str}(q:ns.map (Ye K Vf)=ns.map fun _=>some none):∀ x∈ns,mg x=none:=fun x a=>PySem.W.mg_none_of X G (a1t.mp q x a)
noncomputable def qK {c d:Type}(f:c->d->Bool):List c->List d->Bool
 | [],[]=>true
 | a::as,b::bs=>f a b&&qK f as bs
 | _,_=>false
noncomputable def qL (K:S1):Nat->S4->D->Bool
 | 0,_,_=>false
 | k+1,u,d=>match d with
  | .non=>(match u with|.none=>true|_=>false)
  | .bl b=>(match u with|.bool c=>decide (b=c)|_=>false)
  | .int i=>(match u with|.int j _=>decide (i=j)|_=>false)
  | .str x=>(match u with|.str y _=>decide (x=y)|_=>false)
  | .tup ds=>(match u with
   | .ref p=>(match K.lookup p with
    | some ⟨.type t,none,.seq its _,_⟩=>decide (t = "tuple")&&decide (its.size<=1000)&&qK (qL K k) its.toList ds
    | _=>false)
   | _=>false)
  | .rol ds=>(match u with
   | .ref p=>(match K.lookup p with
    | some ⟨.type t,none,.seq its _,_⟩=>decide (t = "list")&&decide (its.size<=1000)&&qK (qL K k) its.toList ds
    | _=>false)
   | _=>false)
  | _=>false
theorem EB {K:S1}{f:S4->D->Bool}(h:∀ u d,f u d=true->∃ v,RelV v u/\∀ π n H,IsD K π n H v d):∀ us ds,qK f us ds=true->∃ vs,Vals vs us/\∀ π n H,IsDs K π n H vs ds
 | [],[],_=>⟨[],.nil,fun _ _ _=>.nil⟩
 | u::us,d::ds,e=>by
  obtain ⟨a,b⟩:=Wt.mp e
  obtain ⟨v,r,q⟩:=h u d a
  obtain ⟨vs,g,c⟩:=EB h us ds b
  exact ⟨v::vs,.cons r g,fun _ _ _=>.cons (q _ _ _) (c _ _ _)⟩
 | [],_::_,e=>nomatch e
 | _::_,[],e=>nomatch e
theorem EC {K:S1}:∀ (k:Nat)(u:S4)(d:D),qL K k u d=true->∃ v,RelV v u/\∀ π n H,IsD K π n H v d
 | 0,_,_,e=>nomatch e
 | k+1,u,d,e=>by
  have seq:∀ {p:Addr}{ds:List D}{c:String},(match K.lookup p with|some ⟨.type t,none,.seq g _,_⟩=>decide (t=c)&&decide (g.size<=1000)&&qK (qL K k) g.toList ds|_=>false)=true->∃ h g n l,K.lookup p=some ⟨.type c,none,.seq g n,l⟩/\g.size<=Tj/\Vals h g.toList/\∀ π n H,IsDs K π n H h ds:=fun {p ds c} e=>by
   split at e
   ·rename_i t g n l j
    obtain ⟨e,q⟩:=Wt.mp e
    obtain ⟨a,b⟩:=Wt.mp e
    cases of_decide_eq_true a
    obtain ⟨h,r,i⟩:=EB (EC k) _ _ q
    exact ⟨h,g,n,l,j,T8 (of_decide_eq_true b) (by decide),r,i⟩
   ·cases e
  cases d with
  | non=>cases u with
   | none=>exact ⟨.non,rfl,fun _ _ _=>.non⟩
   | _=>cases e
  | bl b=>cases u with
   | bool c=>cases of_decide_eq_true e;exact ⟨.bl b,rfl,fun _ _ _=>.bl _⟩
   | _=>cases e
  | int b=>cases u with
   | int c=>cases of_decide_eq_true e;exact ⟨.int b,⟨_,rfl⟩,fun _ _ _=>.int _⟩
   | _=>cases e
  | str b=>cases u with
   | str c=>cases of_decide_eq_true e;exact ⟨.str b,⟨_,rfl⟩,fun _ _ _=>.str _⟩
   | _=>cases e
  | tup ds=>cases u with
   | ref p=>
    obtain ⟨h,g,n,l,j,m,r,i⟩:=seq e
    exact ⟨.ref p,rfl,fun _ _ _=>.tup (vs:=h) (.inr ⟨_,g,n,j,rfl,rfl,rfl,m,r⟩) (i _ _ _)⟩
   | _=>cases e
  | rol ds=>cases u with
   | ref p=>
    obtain ⟨h,g,n,l,j,m,r,i⟩:=seq e
    exact ⟨.ref p,rfl,fun _ _ _=>.rol (vs:=h) (.inr ⟨_,g,n,j,rfl,rfl,rfl,m,r⟩) (i _ _ _)⟩
   | _=>cases e
  | _=>cases e
noncomputable def ED (K:S1)(a:List (Str×D)):Bool:=a.all fun c=>match Ye K Vf c.1 with|some (some u)=>qL K 8 u c.2|_=>false
theorem Pp {K:S1}{h:UA}{mg:Str->Option S4}(X:K.In h)(G:h.Ns Vf mg){a:List (Str×D)}(q:ED K a=true):∀ p∈a,∃ v u,mg p.1=some u/\RelV v u/\∀ π n H,IsD K π n H v p.2:=fun p b=>by
 have t:=Ww.mp q p b
 split at t
 ·rename_i u c
  obtain ⟨v,r,i⟩:=EC _ _ _ t
  exact ⟨v,u,Zx X G c,r,i⟩
 ·cases t
end L3
namespace L3
open PySem L2
noncomputable def W {a:Type}(o:Option a)(Q:a->Prop):Prop:=∃ r,o=some r/\Q r
section
variable {α β:Type}{o:Option α}{Q:α->Prop}
theorem W_some {r:α}{Q:α->Prop}:W (some r) Q↔Q r:=⟨fun ⟨_,h,q⟩=>by cases h;exact q,fun q=>⟨r,rfl,q⟩⟩
theorem W_none {Q:α->Prop}:W none Q↔False:=⟨fun ⟨_,h,_⟩=>(by cases h),fun h=>h.elim⟩
theorem W_bind {g:α->Option β}{Q:β->Prop}:W (o.bind g) Q↔W o fun r=>W (g r) Q:=by
 cases o with
 | none=>exact ⟨fun ⟨_,h,_⟩=>(by cases h),fun ⟨_,h,_⟩=>(by cases h)⟩
 | some a=>simp [W_some]
theorem gC {g:α->β}{Q:β->Prop}:W (o.map g) Q↔W o fun r=>Q (g r):=by
 cases o with
 | none=>exact ⟨fun ⟨_,h,_⟩=>(by cases h),fun ⟨_,h,_⟩=>(by cases h)⟩
 | some a=>simp [W_some]
theorem bQ {a:α->Prop}(h:W o Q)(k:∀ r,Q r->a r):W o a:=let ⟨r,e,q⟩:=h;⟨r,e,k r q⟩
theorem tH {c:Prop} [Decidable c] {a b:Option α}:W (if c then a else b) Q↔if c then W a Q else W b Q:=by split<;>rfl
end
noncomputable def fin:Option (Fl×aH×Hm)->Option (D×Hm):=fun o=>o.bind fun p=>match p.1 with|.rt d=>some (d,p.2.2)|.nx=>some (.non,p.2.2)|_=>none
theorem bL {o:Option (Fl×aH×Hm)}{Q:D×Hm->Prop}:W (fin o) Q↔W o fun p=>match p.1 with|.rt d=>Q (d,p.2.2)|.nx=>Q (.non,p.2.2)|_=>False:=by
 unfold fin
 rw [W_bind]
 constructor
 ·exact fun h=>bQ h fun p q=>by
   obtain ⟨a,c,b⟩:=p
   cases a<;>simpa [W_some,W_none] using q
 ·exact fun h=>bQ h fun p q=>by
   obtain ⟨a,c,b⟩:=p
   cases a<;>simpa [W_some,W_none] using q
theorem aY {d b:Hm}(h:d <+: b){a:Nat}{c:C}(e:d[a]? = some c):b[a]? = some c:=by
 obtain ⟨t,rfl⟩:=h
 have g:=(S2.mp e).1
 rw [Tq g]
 exact e
theorem kX {b a:Hm}(h:b <+: a):b.length<=a.length:=h.length_le
theorem bF (a:Hm)(c:C):a <+: a++[c]:=⟨[c],rfl⟩
theorem fP {d b:Hm}(h:d <+: b){a:Nat}(e:d.length<=a)(c:C):d <+: b.set a c:=by
 obtain ⟨t,rfl⟩:=h
 rw [Xe _ _ e]
 exact ⟨_,rfl⟩
theorem aT {a b:MS}{ρ:aH}{c:Hm} {Q}:W (aL a b ρ c) Q↔W (a ρ c) fun p=>match p.1 with|.nx=>W (b p.2.1 p.2.2) Q|_=>Q p:=by
 unfold aL
 rw [W_bind]
 constructor
 ·exact fun h=>bQ h fun p q=>by
   obtain ⟨d,ρ,c⟩:=p
   cases d<;>simpa [W_some,W_none] using q
 ·exact fun h=>bQ h fun p q=>by
   obtain ⟨d,ρ,c⟩:=p
   cases d<;>simpa [W_some,W_none] using q
theorem bJ {m:ME}{ρ:aH}{a:Hm} {Q}:W (aS m ρ a) Q↔W (m ρ a) fun p=>Q (.rt p.1,ρ,p.2):=gC
theorem mM {m:ME}{ρ:aH}{a:Hm} {Q}:W (d9 m ρ a) Q↔W (m ρ a) fun p=>Q (.nx,ρ,p.2):=gC
theorem bR {i:Nat}{m:ME}{ρ:aH}{a:Hm} {Q}:W (bC i m ρ a) Q↔W (m ρ a) fun p=>Q (.nx,ρ.set i (some p.1),p.2):=gC
theorem b7 {ρ:aH}{a:Hm} {Q}:W (bG ρ a) Q↔Q (.nx,ρ,a):=W_some
theorem b8 {t:MT}{a b:MS}{ρ:aH}{c:Hm} {Q}:W (bH t a b ρ c) Q↔W (t ρ c) fun p=>if p.1=true then W (a ρ p.2) Q else W (b ρ p.2) Q:=by
 unfold bH
 rw [W_bind]
 constructor<;>exact fun h=>bQ h fun p q=>by
   obtain ⟨x,c⟩:=p
   cases x<;>simpa using q
theorem tI {t:MT}{a b:ME}{ρ:aH}{c:Hm} {Q}:W (iJ t a b ρ c) Q↔W (t ρ c) fun p=>if p.1=true then W (a ρ p.2) Q else W (b ρ p.2) Q:=by
 unfold iJ
 rw [W_bind]
 constructor<;>exact fun h=>bQ h fun p q=>by
   obtain ⟨x,c⟩:=p
   cases x<;>simpa using q
theorem oI {a b:MT}{ρ:aH}{c:Hm} {Q}:W (gO a b ρ c) Q↔W (a ρ c) fun p=>if p.1=true then W (b ρ p.2) Q else Q (false,p.2):=by
 unfold gO
 rw [W_bind]
 constructor<;>exact fun h=>bQ h fun p q=>by
   obtain ⟨x,c⟩:=p
   cases x<;>simpa [W_some] using q
theorem tJ {a b:MT}{ρ:aH}{c:Hm} {Q}:W (gP a b ρ c) Q↔W (a ρ c) fun p=>if p.1=true then Q (true,p.2) else W (b ρ p.2) Q:=by
 unfold gP
 rw [W_bind]
 constructor<;>exact fun h=>bQ h fun p q=>by
   obtain ⟨x,c⟩:=p
   cases x<;>simpa [W_some] using q
theorem gZ {a:MT}{ρ:aH}{b:Hm} {Q}:W (dO a ρ b) Q↔W (a ρ b) fun p=>Q (!p.1,p.2):=gC
theorem aU {f:D->D->Hm->Option (D×Hm)}{a b:ME}{ρ:aH}{c:Hm} {Q}:W (aB f a b ρ c) Q↔W (a ρ c) fun p=>W (b ρ p.2) fun q=>W (f p.1 q.1 q.2) Q:=by
 unfold aB
 rw [W_bind]
 simp only [W_bind]
theorem aQ {d:D}{ρ:aH}{a:Hm} {Q}:W (mC d ρ a) Q↔Q (d,a):=W_some
theorem aE {d:D}{ρ:aH}{a:Hm} {Q}:W (aA 0 (some d::ρ) a) Q↔Q (d,a):=by
 show W (some (d,a)) Q↔_
 exact W_some
theorem aF {i:Nat}{x:Option D}{ρ:aH}{a:Hm} {Q}:W (aA (i+1) (x::ρ) a) Q↔W (aA i ρ a) Q:=by
 unfold aA
 rw [WQ]
theorem aK {ρ:aH}{a:Hm} {Q}:W (aD ρ a) Q↔Q ([],a):=W_some
theorem aM {a:ME}{r:MA}{ρ:aH}{b:Hm} {Q}:W (aC a r ρ b) Q↔W (a ρ b) fun p=>W (r ρ p.2) fun q=>Q (p.1::q.1,q.2):=by
 unfold aC
 simp only [W_bind,W_some]
theorem fQ {a:MA}{ρ:aH}{b:Hm} {Q}:W (cC a ρ b) Q↔W (a ρ b) fun p=>p.1.length<=Tj/\Q (.tup p.1,p.2):=by
 unfold cC
 rw [W_bind]
 constructor<;>exact fun h=>bQ h fun p q=>by
  first
  | (rw [tH] at q;split at q
     ·exact ⟨by assumption,W_some.mp q⟩
     ·exact (W_none.mp q).elim)
  | (rw [if_pos q.1];exact W_some.mpr q.2)
theorem fE {a:MA}{ρ:aH}{b:Hm} {Q}:W (c6 a ρ b) Q↔W (a ρ b) fun p=>p.1.length<=Tj/\Q (.loc p.2.length,p.2++[.lst p.1]):=by
 unfold c6
 rw [W_bind]
 constructor<;>exact fun h=>bQ h fun p q=>by
  first
  | (rw [tH] at q;split at q
     ·exact ⟨by assumption,W_some.mp q⟩
     ·exact (W_none.mp q).elim)
  | (rw [if_pos q.1];exact W_some.mpr q.2)
theorem aV {f:MF}{a:MA}{ρ:aH}{b:Hm} {Q}:W (aI f a ρ b) Q↔W (a ρ b) fun p=>W (f p.1 p.2) Q:=W_bind
theorem cA {m:ME}{ρ:aH}{a:Hm} {Q}:W (aW m ρ a) Q↔W (m ρ a) fun p=>match p.1 with|.bl b=>Q (b,p.2)|_=>False:=by
 unfold aW
 rw [W_bind]
 constructor<;>exact fun h=>bQ h fun p q=>by
  obtain ⟨d,a⟩:=p
  cases d<;>simpa [W_some,W_none] using q
theorem dG {m:ME}{ρ:aH}{a:Hm} {Q}:W (cH m ρ a) Q↔W (m ρ a) fun p=>W (kI p.2 p.1) fun b=>Q (b,p.2):=by
 unfold cH
 simp only [W_bind,gC]
theorem Pq {a:ME}{ρ:aH}{b:Hm} {Q}:W (pO a ρ b) Q↔W (a ρ b) fun p=>match p.1 with|.int i=>Q (.int (-i),p.2)|_=>False:=by
 unfold pO
 rw [W_bind]
 constructor<;>exact fun h=>bQ h fun p q=>by
  obtain ⟨d,b⟩:=p
  cases d<;>simpa [W_some,W_none,gC,v7] using q
theorem EE {a:ME}{ρ:aH}{c:Hm} {Q}:W (lM a ρ c) Q↔W (a ρ c) fun p=>match p.1 with|.bl b=>Q (.bl (!b),p.2)|_=>False:=by
 unfold lM
 rw [W_bind]
 constructor<;>exact fun h=>bQ h fun p q=>by
  obtain ⟨d,c⟩:=p
  cases d<;>simpa [W_some,W_none] using q
theorem gD {a b:ME}{ρ:aH}{e:Hm} {Q}:W (cS a b ρ e) Q↔W (a ρ e) fun p=>match p.1 with|.bl c=>if c=true then W (b ρ p.2) Q else Q (.bl false,p.2)|_=>False:=by
 unfold cS
 rw [W_bind]
 constructor<;>exact fun h=>bQ h fun p q=>by
  obtain ⟨d,e⟩:=p
  cases d with
  | bl c=>cases c<;>simpa [W_some] using q
  | _=>simpa [W_none] using q
theorem EF {m:ME}{g:MG}{ρ:aH}{b:Hm} {Q}:W (lP m g ρ b) Q↔W (m ρ b) fun p=>W (g p.1 ρ p.2) fun a=>Q (.nx,a,p.2):=by
 unfold lP
 simp only [W_bind,gC]
section
variable {i j:Int}{μ:Hm}{Q:D×Hm->Prop}{a b c d e g:D}
theorem iZ:W (cM (.int i) (.int j) μ) Q↔Q (.int (i+j),μ):=W_some
theorem tK:W (c7 (.int i) (.int j) μ) Q↔Q (.int (i - j),μ):=W_some
theorem jQ (h:0<j):W (bN (.int i) (.int j) μ) Q↔Q (.int (i % j),μ):=by
 show W ((if 0<j then some (i % j) else none).map fun z=>(D.int z,μ)) Q↔_
 rw [if_pos h]
 exact W_some
theorem Pr:(1073741824:Int)<2 ^ 4000:=by decide +kernel
theorem Pt (h:0<j)(l:j<2 ^ 4000):W (dP (.int i) (.int j) μ) Q↔Q (.int (i / j),μ):=by
 show W ((if 0<j/\j<2 ^ 4000 then some (i / j) else none).map fun z=>(D.int z,μ)) Q↔_
 rw [if_pos ⟨h,l⟩]
 exact W_some
theorem qM (h:0<j)(l:j<1073741824):W (dP (.int i) (.int j) μ) Q↔Q (.int (i / j),μ):=Pt h (Int.lt_trans l Pr)
theorem mN (h:(-(2 ^ 64)<i/\i<2 ^ 64)\/(-(2 ^ 64)<j/\j<2 ^ 64)):W (cF (.int i) (.int j) μ) Q↔Q (.int (i * j),μ):=by
 show W ((if ((-(2 ^ 64)<i/\i<2 ^ 64)\/(-(2 ^ 64)<j/\j<2 ^ 64))\/(i.natAbs<2 ^ 4000/\j.natAbs<2 ^ 4000)\/Ua i+Ua j<=134217728 then some (i * j) else none).map fun z=>(D.int z,μ)) Q↔_
 rw [if_pos (.inl h)]
 exact W_some
theorem i5:W (a8 false (.int i) (.int j) μ) Q↔Q (.bl (i == j),μ):=W_some
theorem tL:W (a8 true (.int i) (.int j) μ) Q↔Q (.bl (!(i == j)),μ):=W_some
theorem EG {x y:Str}:W (a8 false (.str x) (.str y) μ) Q↔Q (.bl (x == y),μ):=W_some
theorem tN:W (dQ (.int i) (.int j) μ) Q↔Q (.bl (decide (i<j)),μ):=W_some
theorem Pu:W (m8 (.int i) (.int j) μ) Q↔Q (.bl (decide (i<=j)),μ):=W_some
theorem eM:W (aJ (.tup [a,b]) (.int 0) μ) Q↔Q (a,μ):=W_some
theorem dU:W (aJ (.tup [a,b]) (.int 1) μ) Q↔Q (b,μ):=W_some
theorem c5 {b:Bool}{Q:Bool->Prop}:W (kI μ (.bl b)) Q↔Q b:=W_some
theorem Pw {ρ:aH}{i j:Nat}{Q:aH->Prop}:W (fL [i,j] (.tup [a,b]) ρ μ) Q↔Q ((ρ.set i (some a)).set j (some b)):=W_some
end
theorem gE {b:Hm}{a:Nat}{xs:List D}{i:Int}{d:D}{Q:D×Hm->Prop}(h:b[a]? = some (.lst xs))(c:atI xs i=some d):W (aJ (.loc a) (.int i) b) Q↔Q (d,b):=by
 have:aJ (.loc a) (.int i) b=some (d,b):=by
  simp only [aJ,fV,bP,h,T6,c,Uj]
 rw [this]
 exact W_some
theorem Px {c:Hm}{l:Nat}{a b:D}{ρ:aH}{i j:Nat}{Q:aH->Prop}(h:c[l]? = some (.lst [a,b])):W (fL [i,j] (.loc l) ρ c) Q↔Q ((ρ.set i (some a)).set j (some b)):=by
 have:fL [i,j] (.loc l) ρ c=some ((ρ.set i (some a)).set j (some b)):=by
  simp only [fL,bP,h,T6]
  rfl
 rw [this]
 exact W_some
end L3
namespace L3
open PySem L2
theorem dH {m:ME}{ρ:aH}{a:Hm}{Q:j8×Nat×Hm->Prop}:W (cG m ρ a) Q↔W (m ρ a) fun p=>W (j9 p.2 p.1) fun xs=>Q (gT p.1,xs.length+1,p.2):=by
 unfold cG
 simp only [W_bind,gC]
theorem eQ {a:MI}{g:MG}{b:MS}{ρ:aH}{c:Hm} {Q}:W (dE a g b ρ c) Q↔W (a ρ c) fun p=>W (eA p.1 g b p.2.1 0 ρ p.2.2) Q:=W_bind
theorem qN {j:Int}{e:MA}{ρ:aH}{c:Hm}{Q:j8×Nat×Hm->Prop}:W (iN e ρ c) Q↔W (e ρ c) fun p=>match p.1 with|[.int j]=>(-(2 ^ 62)<=j/\j<2 ^ 62)/\Q (fK 0 j.toNat,j.toNat+1,p.2)|_=>False:=by
 unfold iN
 rw [W_bind]
 constructor<;>exact fun h=>bQ h fun p q=>by
  obtain ⟨l,c⟩:=p
  match l,q with
  | [],q=>simpa [W_none] using q
  | [d],q=>
   cases d with
   | int j=>
    first
    | (dsimp only at q;rw [tH] at q;split at q
       ·rename_i g;exact ⟨g,W_some.mp q⟩
       ·exact (W_none.mp q).elim)
    | (dsimp only;rw [if_pos q.1];exact W_some.mpr q.2)
   | _=>simpa [W_none] using q
  | a::b::l,q=>simpa [W_none] using q
theorem tP {a:MA}{ρ:aH}{b:Hm}{Q:j8×Nat×Hm->Prop}:W (kB a ρ b) Q↔W (a ρ b) fun p=>match p.1 with|[.int i,.int j]=>(-(2 ^ 62)<=i/\i<2 ^ 62/\-(2 ^ 62)<=j/\j<2 ^ 62)/\Q (fK i (j - i).toNat,(j - i).toNat+1,p.2)|_=>False:=by
 unfold kB
 rw [W_bind]
 constructor<;>exact fun h=>bQ h fun p q=>by
  split at q
  ·rename_i e
   try rw [e]
   first
   | (rw [tH] at q;split at q
      ·rename_i c;exact ⟨c,W_some.mp q⟩
      ·exact (W_none.mp q).elim)
   | ((try dsimp only);rw [if_pos q.1];exact W_some.mpr q.2)
  ·first
   | exact (W_none.mp q).elim
   | exact q.elim
theorem tQ {e:j8}{g:MG}{b:MS}{N:Nat}{Q:Fl×aH×Hm->Prop}(I:Nat->aH->Hm->Prop)
  (go:∀ i ρ a,i<N->I i ρ a->∃ d j,e a i=some (some d)/\g d ρ a=some j/\W (b j a) fun p=>match p.1 with|.nx=>I (i+1) p.2.1 p.2.2|.ct=>I (i+1) p.2.1 p.2.2|.bk=>Q (.nx,p.2.1,p.2.2)|.rt d=>Q (.rt d,p.2.1,p.2.2))
  (c:∀ ρ a,I N ρ a->e a N=some none/\Q (.nx,ρ,a)):∀ (m i:Nat)(ρ:aH)(a:Hm),i+m=N->I i ρ a->W (eA e g b (m+1) i ρ a) Q
 | 0,i,ρ,a,h,hI=>by
  have:i=N:=by omega
  subst this
  obtain ⟨o,r⟩:=c ρ a hI
  unfold eA
  rw [o]
  exact W_some.mpr r
 | m+1,i,ρ,a,h,hI=>by
  obtain ⟨d,j,o,r,u⟩:=go i ρ a (by omega) hI
  unfold eA
  rw [o]
  simp only [T6,r]
  rw [W_bind]
  refine bQ u fun p q=>?_
  obtain ⟨s,n,l⟩:=p
  cases s with
  | nx=>exact tQ I go c m (i+1) n l (by omega) q
  | ct=>exact tQ I go c m (i+1) n l (by omega) q
  | bk=>exact W_some.mpr q
  | rt d=>exact W_some.mpr q
theorem jR {a:Nat}{xs:List D}{g:MG}{b:MS}{ρ:aH}{c:Hm}{Q:Fl×aH×Hm->Prop}(I:Nat->aH->Hm->Prop)(n:I 0 ρ c)(m:∀ i ρ c,I i ρ c->c[a]? = some (.lst xs))
  (go:∀ i d ρ c,xs[i]? = some d->I i ρ c->∃ h,g d ρ c=some h/\W (b h c) fun p=>match p.1 with|.nx=>I (i+1) p.2.1 p.2.2|.ct=>I (i+1) p.2.1 p.2.2|.bk=>Q (.nx,p.2.1,p.2.2)|.rt d=>Q (.rt d,p.2.1,p.2.2))
  (l:∀ ρ c,I xs.length ρ c->Q (.nx,ρ,c)):W (eA (gT (.loc a)) g b (xs.length+1) 0 ρ c) Q:=by
 refine tQ (N:=xs.length) I (fun i ρ c r j=>?_) (fun ρ c j=>⟨?_,l ρ c j⟩) xs.length 0 ρ c (by omega) n
 ·have e:xs[i]? = some xs[i]:=S7 r
  obtain ⟨h,o,q⟩:=go i xs[i] ρ c e j
  refine ⟨xs[i],h,?_,o,q⟩
  simp only [gT,j9,bP,m i ρ c j,Uj,e]
 ·simp only [gT,j9,bP,m _ ρ c j,Uj]
  simp
theorem oJ {lo:Int}{n:Nat}{g:MG}{b:MS}{ρ:aH}{a:Hm}{Q:Fl×aH×Hm->Prop}(I:Nat->aH->Hm->Prop)(l:I 0 ρ a)
  (go:∀ (i:Nat) ρ a,i<n->I i ρ a->∃ c,g (.int (lo+i)) ρ a=some c/\W (b c a) fun p=>match p.1 with|.nx=>I (i+1) p.2.1 p.2.2|.ct=>I (i+1) p.2.1 p.2.2|.bk=>Q (.nx,p.2.1,p.2.2)|.rt d=>Q (.rt d,p.2.1,p.2.2))
  (e:∀ ρ a,I n ρ a->Q (.nx,ρ,a)):W (eA (fK lo n) g b (n+1) 0 ρ a) Q:=by
 refine tQ (N:=n) I (fun i ρ a j h=>?_) (fun ρ a h=>⟨?_,e ρ a h⟩) n 0 ρ a (by omega) l
 ·obtain ⟨c,m,o⟩:=go i ρ a j h
  exact ⟨_,c,by simp only [fK,if_pos j],m,o⟩
 ·simp only [fK,Vn,if_false]
theorem zF {b:Hm}{a:Nat}{ys:List D}{y:D}(h:b[a]? = some (.lst ys))(c:ys.length<Tj):nA b a y=some (b.set a (.lst (ys++[y]))):=by
 unfold nA
 rw [h]
 exact if_pos c
theorem zG {w:j8}{c:MT}{e:ME}{ρ:aH}{μ0:Hm}{xs:List D}{p:D->Bool}{v:D->D}{Q:Hm->Prop}(z:∀ a i,μ0 <+: a->w a i=some xs[i]?)(H:xs.length<=Tj)
  (hc:∀ d a,d∈xs->μ0 <+: a->W (c (ρ++[some d]) a) fun r=>r.1=p d/\a <+: r.2)
  (A:∀ d a,d∈xs->p d=true->μ0 <+: a->W (e (ρ++[some d]) a) fun r=>r.1=v d/\a <+: r.2)
  (fin:∀ a,μ0 <+: a->a[μ0.length]? = some (.lst ((xs.filter p).map v))->Q a) :
  ∀ (m i:Nat)(a:Hm),i+m=xs.length->μ0 <+: a->a[μ0.length]? = some (.lst (((xs.take i).filter p).map v))->W (fZ w pI c e ρ μ0.length (m+1) i a) Q
 | 0,i,a,hi,hp,ha=>by
  have:i=xs.length:=by omega
  subst this
  unfold fZ
  rw [z a _ hp]
  rw [Up (Th _)]
  simp only [T6]
  refine W_some.mpr (fin a hp ?_)
  simpa using ha
 | m+1,i,a,hi,hp,ha=>by
  have s:i<xs.length:=by omega
  have I:xs[i]? = some xs[i]:=S7 s
  have h:xs[i]∈xs:=VN s
  unfold fZ
  rw [z a _ hp,I]
  simp only [T6,pI]
  rw [W_bind]
  refine bQ (hc _ a h hp) fun r q=>?_
  obtain ⟨b,x⟩:=r
  obtain ⟨K,u⟩:=q
  dsimp only at K u ⊢
  subst K
  have g:xs.take (i+1)=xs.take i++[xs[i]]:=by rw [List.take_succ,I];rfl
  have l:=aY u ha
  cases j:p xs[i] with
  | false=>
   refine zG z H hc A fin m (i+1) x (by omega) (hp.trans u) ?_
   rw [l,g,WM]
   simp [j]
  | true=>
   dsimp only
   rw [W_bind]
   refine bQ (A _ x h j (hp.trans u)) fun r q=>?_
   obtain ⟨y,G⟩:=r
   obtain ⟨L,E⟩:=q
   dsimp only at L E ⊢
   subst L
   have n:=aY E l
   have o:(((xs.take i).filter p).map v).length<Tj:=by
    have M:=Um p (xs.take i)
    rw [S6]
    rw [TX] at M
    omega
   rw [zF n o,T6]
   have B:μ0 <+: G:=(hp.trans u).trans E
   refine zG z H hc A fin m (i+1) _ (by omega) (fP B (Th _) _) ?_
   rw [Uw (S2.mp n).1,g,WM]
   simp [j]
theorem gF {u:MI}{c:MT}{e:ME}{ρ:aH}{w:Hm}{xs:List D}{p:D->Bool}{v:D->D}{Q:D×Hm->Prop}
  (hit:W (u ρ w) fun r=>(∀ a i,r.2.2 <+: a->r.1 a i=some xs[i]?)/\r.2.1=xs.length+1/\xs.length<=Tj /\
   (∀ d a,d∈xs->r.2.2 <+: a->W (c (ρ++[some d]) a) fun s=>s.1=p d/\a <+: s.2)/\(∀ d a,d∈xs->p d=true->r.2.2 <+: a->W (e (ρ++[some d]) a) fun s=>s.1=v d/\a <+: s.2) /\
   ∀ a,r.2.2 <+: a->a[r.2.2.length]? = some (.lst ((xs.filter p).map v))->Q (.loc r.2.2.length,a)):W (cU u c e ρ w) Q:=by
 unfold cU kC
 rw [W_bind]
 refine bQ hit fun r q=>?_
 obtain ⟨x,n,b⟩:=r
 obtain ⟨g,h,j,l,m,o⟩:=q
 dsimp only at g h j l m o ⊢
 subst h
 rw [gC]
 exact zG g j l m o xs.length 0 (b++[.lst []]) (by omega) (bF _ _) (by simp)
theorem hZ {c:Hm}{a:Nat}{xs:List D}(h:c[a]? = some (.lst xs)):∀ b i,c <+: b->gT (.loc a) b i=some xs[i]?:=fun b i d=>by
 simp only [gT,j9,bP,aY d h,Uj]
noncomputable def dJ (lo:Int)(n:Nat):List D:=(Ui n).map fun (i:Nat)=>.int (lo+(i:Int))
theorem zH {lo:Int}{n:Nat}{b:Hm}:∀ a i,b <+: a->fK lo n a i=some (dJ lo n)[i]?:=fun a i _=>by
 unfold fK dJ
 rw [TB]
 by_cases h:i<n
 ·rw [if_pos h,VH h];rfl
 ·rw [if_neg h,Up (by simpa using Xs.mp h)];rfl
noncomputable abbrev P (x y:Int):D:=.tup [.int x,.int y]
noncomputable abbrev PP (p:Int×Int):D:=P p.1 p.2
theorem Py (n:Nat)(e:Hm)(p q:Int×Int):cJ (n+2) e (PP p) (PP q)=some (p == q):=by
 obtain ⟨a,b⟩:=p
 obtain ⟨c,d⟩:=q
 show some (a == c&&(b == d&&true))=some ((a,b) == (c,d))
 rw [Z5]
 rfl
theorem zI (n:Nat)(a:Hm):∀ ps qs:List (Int×Int),fW (cJ (n+2) a) (ps.map PP) (qs.map PP)=some (ps == qs)
 | [],[]=>rfl
 | [],_::_=>rfl
 | _::_,[]=>rfl
 | p::ps,q::qs=>by
  rw [Tr,Tr]
  show (cJ (n+2) a (PP p) (PP q)).bind (fun b=>(fW (cJ (n+2) a) (ps.map PP) (qs.map PP)).map fun c=>b&&c)=_
  rw [Py,zI n a ps qs]
  rfl
theorem Pz {c:Hm}{a b:Nat}{ps qs:List (Int×Int)}(g:c[a]? = some (.lst (ps.map PP)))(h:c[b]? = some (.lst (qs.map PP))):cJ 8 c (.loc a) (.loc b)=some (ps == qs):=by
 have d:cW c (.loc a)=some (.lst (ps.map PP)):=by simp only [cW,g]
 have e:cW c (.loc b)=some (.lst (qs.map PP)):=by simp only [cW,h]
 show (cW c (.loc a)).bind (fun x=>(cW c (.loc b)).bind fun y=>gR (cJ 7 c) x y)=_
 rw [d,e]
 exact zI 5 c ps qs
theorem oK {c:Hm}{a b:Nat}{ps qs:List (Int×Int)}{ne:Bool}{Q:D×Hm->Prop}(d:c[a]? = some (.lst (ps.map PP)))(e:c[b]? = some (.lst (qs.map PP))):W (a8 ne (.loc a) (.loc b) c) Q↔Q (.bl (if ne then !(ps == qs) else ps == qs),c):=by
 unfold a8
 rw [Pz d e]
 exact W_some
theorem EH {c:Hm}{a b:Nat}{xs ys:List D}{Q:D×Hm->Prop}(d:c[a]? = some (.lst xs))(e:c[b]? = some (.lst ys))(g:xs.length+ys.length<=Tj):W (cM (.loc a) (.loc b) c) Q↔Q (.loc c.length,c++[.lst (xs++ys)]):=by
 simp only [cM,d,e,if_pos g]
 exact W_some
theorem PB {ρ:aH}{a:Hm}{Q:List (aG×D)×Hm->Prop}:W (lQ [] ρ a) Q↔Q ([],a):=W_some
theorem PC {k v:ME}{r:List (ME×ME)}{ρ:aH}{a:Hm}{Q:List (aG×D)×Hm->Prop}:W (lQ ((k,v)::r) ρ a) Q↔W (k ρ a) fun p=>W (v ρ p.2) fun q=>W (j6 p.1) fun b=>W (lQ r ρ q.2) fun t=>Q ((b,q.1)::t.1,t.2):=by
 show W ((k ρ a).bind _) Q↔_
 simp only [W_bind,gC]
theorem PD {x:Str}{Q:aG->Prop}:W (j6 (.str x)) Q↔Q (.inr x):=W_some
theorem PF {a:List (ME×ME)}{ρ:aH}{b:Hm}{Q:D×Hm->Prop}(h:W (lQ a ρ (b++[.dK []])) fun p=>p.2[b.length]? = some (.dK [])/\p.1.length<=15/\Q (.loc b.length,p.2.set b.length (.dK (pM [] p.1)))):W (lR a ρ b) Q:=by
 unfold lR
 rw [W_bind]
 refine bQ h fun p q=>?_
 obtain ⟨c,d,e⟩:=q
 rw [c]
 dsimp only
 rw [if_pos d]
 exact W_some.mpr e
theorem PH {b:Hm}{a:Nat}{kvs:List (aG×D)}{y d:D}{k:aG}{Q:D×Hm->Prop}(h:b[a]? = some (.dK kvs))(c:j6 y=some k)(e:fM kvs k=some d):W (aJ (.loc a) y b) Q↔Q (d,b):=by
 have:aJ (.loc a) y b=some (d,b):=by
  simp only [aJ,h,c,T6,e,Uj]
 rw [this]
 exact W_some
theorem kY {f:D->List D->Hm->Option (D×Hm)}{a:ME}{b:MA}{ρ:aH}{c:Hm}{Q:D×Hm->Prop}(h:W (a ρ c) fun p=>nI p.2 p.1=true/\W (b ρ p.2) fun q=>W (f p.1 q.1 q.2) Q):W (dF f a b ρ c) Q:=by
 unfold dF
 rw [W_bind]
 refine bQ h fun p q=>?_
 rw [q.1]
 exact W_bind.mpr q.2
theorem kZ {b:Hm}{a:Nat}{xs:List D}(h:b[a]? = some (.lst xs)):nI b (.loc a)=true:=by
 simp only [nI,h]
theorem tR {b:Hm}{a:Nat}{xs:List D}{y:D}{Q:D×Hm->Prop}(h:b[a]? = some (.lst xs))(c:xs.length<Tj):W (fN (.loc a) [y] b) Q↔Q (.non,b.set a (.lst (xs++[y]))):=by
 simp only [fN,zF h c,Uj]
 exact W_some
theorem PJ {b:Hm}{a:Nat}{xs:List D}{Q:D×Hm->Prop}(h:b[a]? = some (.lst xs)):W (nM (.loc a) [] b) Q↔Q (.non,b.set a (.lst [])):=by
 simp only [nM,h]
 exact W_some
theorem PK {c:Hm}{a b:Nat}{xs ys:List D}{Q:D×Hm->Prop}(h:c[a]? = some (.lst xs))(d:c[b]? = some (.lst ys))(e:xs.length+ys.length<=Tj):W (nJ (.loc a) [.loc b] c) Q↔Q (.non,c.set a (.lst (xs++ys))):=by
 simp only [nJ,h,d,if_pos e]
 exact W_some
theorem EI {a:Hm}{xs:List D}{Q:D×Hm->Prop}:W (c8 [.tup xs,.ty "tuple"] a) Q↔Q (.bl true,a):=W_some
theorem EJ {a:Hm}{i:Int}{Q:D×Hm->Prop}:W (c8 [.int i,.ty "bool"] a) Q↔Q (.bl false,a):=W_some
theorem EK {a:Hm}{i:Int}{Q:D×Hm->Prop}:W (c8 [.int i,.ty "int"] a) Q↔Q (.bl true,a):=W_some
theorem zJ {a:Hm}{b:Str}{Q:D×Hm->Prop}:W (c8 [.str b,.ty "str"] a) Q↔Q (.bl true,a):=W_some
theorem EL {b:Hm}{a:Nat}{xs:List D}{Q:D×Hm->Prop}(h:b[a]? = some (.lst xs)):W (c8 [.loc a,.ty "list"] b) Q↔Q (.bl true,b):=by
 have:c8 [.loc a,.ty "list"] b=some (.bl true,b):=by
  simp only [c8,rQ,h,T6]
  rfl
 rw [this]
 exact W_some
theorem PL {a:Hm}{xs:List D}{Q:D×Hm->Prop}:W (cX [.tup xs] a) Q↔Q (.int xs.length,a):=W_some
theorem oM {b:Hm}{a:Nat}{xs:List D}{Q:D×Hm->Prop}(h:b[a]? = some (.lst xs)):W (cX [.loc a] b) Q↔Q (.int xs.length,b):=by
 simp only [cX,pJ,bP,h,Uj]
 exact W_some
theorem dM {b:Hm}{a:Nat}{xs:List D}{Q:List D->Prop}(h:b[a]? = some (.lst xs)):W (j9 b (.loc a)) Q↔Q xs:=by
 simp only [j9,bP,h]
 exact W_some
theorem PM {ρ:aH}{a:Hm}{Q:Option Int×Hm->Prop}:W (pG ρ a) Q↔Q (none,a):=W_some
theorem zK {m:ME}{ρ:aH}{a:Hm}{Q:Option Int×Hm->Prop}:W (iL m ρ a) Q↔W (m ρ a) fun p=>match p.1 with|.int i=>Q (some i,p.2)|_=>False:=by
 unfold iL
 rw [W_bind]
 constructor<;>exact fun h=>bQ h fun p q=>by
  obtain ⟨d,a⟩:=p
  cases d<;>simpa [W_some,W_none] using q
theorem EM {a:ME}{lo b:MO}{ρ:aH}{g:Hm}{Q:D×Hm->Prop}(h:W (a ρ g) fun p=>∃ xs,p.1=.rol xs/\W (lo ρ p.2) fun q=>W (b ρ q.2) fun r=>Q (.loc r.2.length,r.2++[.lst (iK xs q.1 r.1)])):W (iM a lo b ρ g) Q:=by
 unfold iM
 rw [W_bind]
 refine bQ h fun p q=>?_
 obtain ⟨d,i⟩:=p
 obtain ⟨xs,c,e⟩:=q
 dsimp only at c e ⊢
 subst c
 rw [W_bind]
 refine bQ e fun s q=>?_
 rw [W_bind]
 refine bQ q fun r q=>?_
 exact W_some.mpr q
theorem bZ (a:Hm)(c:C):(a++[c])[a.length]? = some c:=by simp
end L3
namespace L3
open PySem L2
theorem zL {f g:D->D->Hm->Option (D×Hm)}{a b c:ME}{ρ:aH}{e:Hm} {Q}:W (iS f g a b c ρ e) Q↔W (a ρ e) fun p=>W (b ρ p.2) fun q=>W (f p.1 q.1 q.2) fun r=>match r.1 with|.bl k=>if k=true then W (c ρ r.2) fun t=>W (g q.1 t.1 t.2) Q else Q (.bl false,r.2)|_=>False:=by
 unfold iS
 simp only [W_bind]
 constructor<;>exact fun h=>bQ h fun p q=>bQ q fun l j=>bQ j fun r i=>by
  obtain ⟨d,e⟩:=r
  cases d with
  | bl k=>cases k<;>simpa [W_some,W_bind] using i
  | _=>simpa [W_none] using i
section
variable {i j:Int}{μ:Hm}{Q:D×Hm->Prop}
theorem PN {a:Nat}:W (iT false (.loc a) .non μ) Q↔Q (.bl false,μ):=W_some
end
theorem zM {n:j8}{z:BD}{c:MT}{e:ME}{ρ:aH}{a N:Nat}{Q:Hm->Prop}(I:Nat->List D->Hm->Prop)(A:N<=Tj)(j:∀ i ys g,I i ys g->ys.length<=i)
  (go:∀ i ys g,i<N->I i ys g->g[a]? = some (.lst ys)->∃ d x,n g i=some (some d)/\z d g=some x/\W (c (ρ++x) g) fun r=>(r.1=false->r.2[a]? = some (.lst ys)/\I (i+1) ys r.2) /\
   (r.1=true->W (e (ρ++x) r.2) fun s=>s.2[a]? = some (.lst ys)/\I (i+1) (ys++[s.1]) (s.2.set a (.lst (ys++[s.1])))))
  (l:∀ ys g,I N ys g->g[a]? = some (.lst ys)->n g N=some none/\Q g):∀ (m i:Nat)(ys:List D)(g:Hm),i+m=N->I i ys g->g[a]? = some (.lst ys)->W (fZ n z c e ρ a (m+1) i g) Q
 | 0,i,ys,g,h,hI,hg=>by
  have:i=N:=by omega
  subst this
  obtain ⟨u,v⟩:=l ys g hI hg
  unfold fZ
  rw [u]
  exact W_some.mpr v
 | m+1,i,ys,g,h,hI,hg=>by
  obtain ⟨d,x,u,v,B⟩:=go i ys g (by omega) hI hg
  unfold fZ
  rw [u]
  simp only [T6,v]
  rw [W_bind]
  refine bQ B fun r q=>?_
  obtain ⟨b,w⟩:=r
  cases b with
  | false=>
   obtain ⟨o,p⟩:=q.1 rfl
   exact zM I A j go l m (i+1) ys w (by omega) p o
  | true=>
   dsimp only
   rw [W_bind]
   refine bQ (q.2 rfl) fun s q=>?_
   obtain ⟨y,E⟩:=s
   obtain ⟨o,p⟩:=q
   dsimp only at o p ⊢
   have G:=j i ys g hI
   rw [zF o (by omega),T6]
   refine zM I A j go l m (i+1) _ _ (by omega) p ?_
   rw [Uw (S2.mp o).1]
theorem PQ {g:BD}{v:MI}{c:MT}{e:ME}{ρ:aH}{a:Hm}{Q:D×Hm->Prop}
  (hit:W (v ρ a) fun r=>∃ (N:Nat)(I:Nat->List D->Hm->Prop),r.2.1=N+1/\N<=Tj/\(∀ i b a,I i b a->b.length<=i)/\I 0 [] (r.2.2++[.lst []]) /\
   (∀ i b a,i<N->I i b a->a[r.2.2.length]? = some (.lst b)->∃ d x,r.1 a i=some (some d)/\g d a=some x/\W (c (ρ++x) a) fun p=>(p.1=false->p.2[r.2.2.length]? = some (.lst b)/\I (i+1) b p.2) /\
    (p.1=true->W (e (ρ++x) p.2) fun s=>s.2[r.2.2.length]? = some (.lst b)/\I (i+1) (b++[s.1]) (s.2.set r.2.2.length (.lst (b++[s.1]))))) /\
   (∀ b a,I N b a->a[r.2.2.length]? = some (.lst b)->r.1 a N=some none/\Q (.loc r.2.2.length,a))):W (kC g v c e ρ a) Q:=by
 unfold kC
 rw [W_bind]
 refine bQ hit fun r q=>?_
 obtain ⟨w,n,y⟩:=r
 obtain ⟨N,I,h,j,l,m,o,u⟩:=q
 dsimp only at h j l m o u ⊢
 subst h
 rw [gC]
 exact zM I j l o u N 0 [] _ (by omega) m (by simp)
theorem w_mTrue {ρ:aH}{a:Hm}{Q:Bool×Hm->Prop}:W (eZ ρ a) Q↔Q (true,a):=W_some
theorem oN {o i v:ME}{ρ:aH}{b:Hm} {Q}:W (dX o i v ρ b) Q↔W (v ρ b) fun p=>W (o ρ p.2) fun q=>W (i ρ q.2) fun r=>W (pW q.1 r.1 p.1 r.2) fun a=>Q (.nx,ρ,a):=by
 unfold dX xG
 simp only [W_bind,gC]
theorem PR {b:Hm}{a:Nat}{xs:List D}{Q:D×Hm->Prop}(h:b[a]? = some (.lst xs)):W (oE [.loc a] b) Q↔Q (.tup xs,b):=by
 simp only [oE,bP,h,Uj]
 exact W_some
section
variable {μ:Hm}{a:Nat}{kvs:List (List Int×D)}{k:List Int}{d y:D}{ρ:aH}{Q:D×Hm->Prop}
theorem tS:W (lZ ρ μ) Q↔Q (.loc μ.length,μ++[.dT []]):=W_some
theorem EO (h:μ[a]? = some (.dT kvs))(b:dA y=some k)(c:cK kvs k=some d):W (aJ (.loc a) y μ) Q↔Q (d,μ):=by
 simp only [aJ,h,b,T6,c,Uj]
 exact W_some
theorem zN {b:Bool}(h:μ[a]? = some (.dT kvs))(c:dA y=some k):W (b9 b y (.loc a) μ) Q↔Q (.bl (if b then !(cK kvs k).isSome else (cK kvs k).isSome),μ):=by
 have:b9 b y (.loc a) μ=some (.bl (if b then !(cK kvs k).isSome else (cK kvs k).isSome),μ):=by
  simp only [b9,h,c,Uj]
 rw [this]
 exact W_some
theorem qO {Q:Hm->Prop}(h:μ[a]? = some (.dT kvs))(b:dA y=some k)(c:kvs.length<Tj):W (pW (.loc a) y d μ) Q↔Q (μ.set a (.dT (eB kvs k d))):=by
 simp only [pW,pV,h,b,T6,if_pos c]
 exact W_some
theorem PU (h:μ[a]? = some (.dT kvs)):W (cX [.loc a] μ) Q↔Q (.int kvs.length,μ):=by
 simp only [cX,h]
 exact W_some
theorem PV {xs:List D}(h:μ[a]? = some (.lst xs)):W (mI [.loc a] μ) Q↔Q (.loc μ.length,μ++[.lst xs]):=by
 simp only [mI,h,pL,bP,Uj]
 exact W_some
end
theorem zO {f:D->List D->Hm->Option (D×Hm)}{e:ME}{g:MA}{ρ:aH}{i:Hm}{Q:D×Hm->Prop}(h:W (e ρ i) fun p=>∃ x,p.1=.str x/\W (g ρ p.2) fun q=>W (f (.str x) q.1 q.2) Q):W (gW f e g ρ i) Q:=by
 obtain ⟨⟨d,n⟩,j,x,a,⟨s,o⟩,b,c⟩:=h
 dsimp only at a b c
 subst a
 obtain ⟨r,l,m⟩:=c
 refine ⟨r,?_,m⟩
 simp only [gW,j,T6,b]
 exact l
theorem ER:∀ ss:List Str,pX (ss.map D.str)=some ss
 | []=>rfl
 | x::ss=>by
  rw [Tr]
  simp only [pX,ER ss,Uj]
theorem PX {c:Hm}{a:Nat}{b:Str}{ss:List Str}{Q:D×Hm->Prop}(h:c[a]? = some (.lst (ss.map D.str)))(h1:Xc (ss.toArray.foldl (·+·.length+b.length) 0)=false)(d:(T4 b ss).length<=Tj) :
  W (iU (.str b) [.loc a] c) Q↔Q (.str (T4 b ss),c):=by
 simp only [iU,nO,h,T6,ER]
 rw [if_pos ⟨h1,d⟩]
 exact W_some
end L3
namespace Lw
open PySem L2 L3
noncomputable def ds:List (Str×Stmt):=(("is_whole",aO 8)::("is_place",aO 9)::("is_edge",aO 10)::("is_quarter",aO 11)::("line_of",aO 12)::("beside",aO 13)::("edges_of",aO 14)::("number_by",aO 15)::("mirrored",aO 16)::("is_size",aO 19)::("check_size",aO 20)::("is_mark",aO 21)::("is_within",aO 22)::("places_within",aO 23)::("quarters_in",aO 24)::("edges_in",aO 25)::("is_inner_edge",aO 26)::("neighbours_in",aO 27)::("sheet_of",aO 28)::("marks_in",aO 29)::("face_with",aO 31)::("faces",aO 32)::("sign_at",aO 34)::("drawn",aO 35)::("sign_in",aO 36)::("creases_in",aO 37)::("read_sheet",aO 38)::("_law_draw",aO 40)::("_law_kind",aO 41)::("_law_near",aO 42)::("_law_int",aO 43)::("_law_are",aO 44)::("_law_amid",aO 45)::("_law_size",aO 46)::("_law_line",aO 47)::("_law_creases",aO 48)::("_law_numbers",aO 49)::("_law_reached",aO 50)::("_law_right",aO 51)::("law",aO 52)::[])
noncomputable def tT:D:=(.tup [(.str "h"),(.str "v"),(.str "o")])
noncomputable def S:Sig:={ fn:=(("is_whole",1)::("is_place",1)::("is_edge",1)::("is_quarter",1)::("line_of",1)::("beside",1)::("edges_of",1)::("number_by",2)::("mirrored",2)::("is_size",1)::("check_size",2)::("is_mark",1)::("is_within",3)::("places_within",2)::("quarters_in",2)::("edges_in",2)::("is_inner_edge",3)::("neighbours_in",3)::("sheet_of",3)::("marks_in",1)::("face_with",3)::("faces",1)::("sign_at",3)::("drawn",1)::("sign_in",2)::("creases_in",3)::("read_sheet",1)::("_law_draw",2)::("_law_kind",1)::("_law_near",2)::("_law_int",1)::("_law_are",2)::("_law_amid",3)::("_law_size",1)::("_law_line",1)::("_law_creases",3)::("_law_numbers",1)::("_law_reached",4)::("_law_right",4)::("law",1)::[]),con:=[("MARKS",tT)],tab:=[],no:=["bool","dict","int","isinstance","len","list","range","sorted","str","tuple"],dIt:=[],dEq:=[],dMe:=["found","#T"] }
@[irreducible] noncomputable def f (k:Nat)(x:Str):MF:=iY S ds k x
end Lw
namespace Lw
open PySem L2 L3
theorem PY (k:Nat)(a:D)(b:Hm):f (k+1) "is_whole" [a] b=fin ((aS (cS (aI c8 (aC (aA 0) (aC (mC (.ty "int")) aD))) (lM (aI c8 (aC (aA 0) (aC (mC (.ty "bool")) aD)))))) [some a] b):=by
 kernel_rfl
theorem PZ (k:Nat)(a:D)(b:Hm):f (k+1) "is_place" [a] b=fin ((aS (cS (aI c8 (aC (aA 0) (aC (mC (.ty "tuple")) aD))) (cS (aB (a8 false) (aI cX (aC (aA 0) aD)) (mC (.int 2))) (cS (aI (f k "is_whole") (aC (aB aJ (aA 0) (mC (.int 0))) aD)) (aI (f k "is_whole") (aC (aB aJ (aA 0) (mC (.int 1))) aD)))))) [some a] b):=by
 kernel_rfl
theorem P0 (k:Nat)(a:D)(b:Hm):f (k+1) "is_edge" [a] b=fin ((aL (bH (aW (aB (a8 false) (aB bN (aB aJ (aA 0) (mC (.int 0))) (mC (.int 2))) (mC (.int 1)))) (aS (aB (a8 false) (aB bN (aB aJ (aA 0) (mC (.int 1))) (mC (.int 2))) (mC (.int 1)))) bG) (aS (cS (aB (a8 false) (aB bN (aB aJ (aA 0) (mC (.int 1))) (mC (.int 2))) (mC (.int 0))) (aB (a8 true) (aB bN (aB aJ (aA 0) (mC (.int 0))) (mC (.int 4))) (aB bN (aB aJ (aA 0) (mC (.int 1))) (mC (.int 4))))))) [some a] b):=by
 kernel_rfl
theorem P1 (k:Nat)(a:D)(b:Hm):f (k+1) "is_quarter" [a] b=fin ((aL (bH (aW (aB (a8 false) (aB bN (aB aJ (aA 0) (mC (.int 0))) (mC (.int 2))) (mC (.int 1)))) (aS (aB (a8 false) (aB bN (aB aJ (aA 0) (mC (.int 1))) (mC (.int 4))) (mC (.int 2)))) bG) (aS (cS (aB (a8 false) (aB bN (aB aJ (aA 0) (mC (.int 0))) (mC (.int 4))) (mC (.int 2))) (aB (a8 false) (aB bN (aB aJ (aA 0) (mC (.int 1))) (mC (.int 2))) (mC (.int 1)))))) [some a] b):=by
 kernel_rfl
theorem ES (k:Nat)(a:D)(b:Hm):f (k+1) "line_of" [a] b=fin ((aL (bH (aW (aB (a8 false) (aB bN (aB aJ (aA 0) (mC (.int 0))) (mC (.int 2))) (mC (.int 1)))) (aS (iJ (aW (aB (a8 false) (aB bN (aB aJ (aA 0) (mC (.int 0))) (mC (.int 4))) (aB bN (aB aJ (aA 0) (mC (.int 1))) (mC (.int 4))))) (mC (.str "falling")) (mC (.str "rising")))) bG) (aS (iJ (aW (aB (a8 false) (aB bN (aB aJ (aA 0) (mC (.int 1))) (mC (.int 4))) (mC (.int 0)))) (mC (.str "level")) (mC (.str "upright"))))) [some a] b):=by
 kernel_rfl
theorem P2 (k:Nat)(a:D)(b:Hm):f (k+1) "beside" [a] b=fin ((aL (bC 1 (aB aJ (aA 0) (mC (.int 0)))) (aL (bC 2 (aB aJ (aA 0) (mC (.int 1)))) (aS (c6 (aC (cC (aC (aB c7 (aA 1) (mC (.int 1))) (aC (aA 2) aD))) (aC (cC (aC (aA 1) (aC (aB c7 (aA 2) (mC (.int 1))) aD))) (aC (cC (aC (aA 1) (aC (aB cM (aA 2) (mC (.int 1))) aD))) (aC (cC (aC (aB cM (aA 1) (mC (.int 1))) (aC (aA 2) aD))) aD)))))))) [some a,none,none] b):=by
 kernel_rfl
theorem P4 (k:Nat)(a:D)(b:Hm):f (k+1) "edges_of" [a] b=fin ((aS (cU (cG (aI (f k "beside") (aC (aA 0) aD))) (cH (aI (f k "is_edge") (aC (aA 1) aD))) (aA 1))) [some a] b):=by
 kernel_rfl
theorem tU (k:Nat)(a b:D)(c:Hm):f (k+1) "number_by" [a,b] c=fin ((aL (bH (aW (aB (a8 false) (aA 0) (mC (.str "level")))) (aS (aB aJ (aA 1) (mC (.int 1)))) bG) (aL (bH (aW (aB (a8 false) (aA 0) (mC (.str "upright")))) (aS (aB aJ (aA 1) (mC (.int 0)))) bG) (aL (bH (aW (aB (a8 false) (aA 0) (mC (.str "falling")))) (aS (aB c7 (aB aJ (aA 1) (mC (.int 0))) (aB aJ (aA 1) (mC (.int 1))))) bG) (aS (aB cM (aB aJ (aA 1) (mC (.int 0))) (aB aJ (aA 1) (mC (.int 1)))))))) [some a,some b] c):=by
 kernel_rfl
theorem P5 (k:Nat)(a b:D)(c:Hm):f (k+1) "mirrored" [a,b] c=fin ((aL (bC 2 (aB aJ (aA 0) (mC (.int 0)))) (aL (bC 3 (aB aJ (aA 0) (mC (.int 1)))) (aL (bC 4 (aI (f k "line_of") (aC (aA 1) aD))) (aL (bC 5 (aI (f k "number_by") (aC (aA 4) (aC (aA 1) aD)))) (aL (bH (aW (aB (a8 false) (aA 4) (mC (.str "level")))) (aS (cC (aC (aA 2) (aC (aB c7 (aB cF (mC (.int 2)) (aA 5)) (aA 3)) aD)))) bG) (aL (bH (aW (aB (a8 false) (aA 4) (mC (.str "upright")))) (aS (cC (aC (aB c7 (aB cF (mC (.int 2)) (aA 5)) (aA 2)) (aC (aA 3) aD)))) bG) (aL (bH (aW (aB (a8 false) (aA 4) (mC (.str "falling")))) (aS (cC (aC (aB cM (aA 3) (aA 5)) (aC (aB c7 (aA 2) (aA 5)) aD)))) bG) (aS (cC (aC (aB c7 (aA 5) (aA 3)) (aC (aB c7 (aA 5) (aA 2)) aD))))))))))) [some a,some b,none,none,none,none] c):=by
 kernel_rfl
theorem P6 (k:Nat)(a:D)(b:Hm):f (k+1) "is_size" [a] b=fin ((aS (cS (aI (f k "is_whole") (aC (aA 0) aD)) (iS m8 m8 (mC (.int 1)) (aA 0) (mC (.int 6))))) [some a] b):=by
 kernel_rfl
theorem P7 (k:Nat)(a b:D)(c:Hm):f (k+1) "check_size" [a,b] c=fin ((bH (dO (gO (cH (aI (f k "is_size") (aC (aA 0) aD))) (cH (aI (f k "is_size") (aC (aA 1) aD))))) c3 bG) [some a,some b] c):=by
 kernel_rfl
theorem ET (k:Nat)(a:D)(b:Hm):f (k+1) "is_mark" [a] b=fin ((aS (cS (aI c8 (aC (aA 0) (aC (mC (.ty "str")) aD))) (aB (b9 false) (aA 0) (mC tT)))) [some a] b):=by
 kernel_rfl
theorem EU (k:Nat)(a b c:D)(d:Hm):f (k+1) "is_within" [a,b,c] d=fin ((aS (cS (iS dQ dQ (mC (.int 0)) (aB aJ (aA 2) (mC (.int 0))) (aB cF (mC (.int 4)) (aA 0))) (iS dQ dQ (mC (.int 0)) (aB aJ (aA 2) (mC (.int 1))) (aB cF (mC (.int 4)) (aA 1))))) [some a,some b,some c] d):=by
 kernel_rfl
theorem P8 (k:Nat)(a b:D)(c:Hm):f (k+1) "places_within" [a,b] c=fin ((aL (bC 2 (c6 aD)) (aL (dE (kB (aC (mC (.int 1)) (aC (aB cF (mC (.int 4)) (aA 0)) aD))) (cT 3) (d9 (dF nJ (aA 2) (aC (cU (kB (aC (mC (.int 1)) (aC (aB cF (mC (.int 4)) (aA 1)) aD))) eZ (cC (aC (aA 3) (aC (aA 4) aD)))) aD)))) (aS (aA 2)))) [some a,some b,none,none] c):=by
 kernel_rfl
theorem P9 (k:Nat)(a b:D)(c:Hm):f (k+1) "quarters_in" [a,b] c=fin ((aS (cU (cG (aI (f k "places_within") (aC (aA 0) (aC (aA 1) aD)))) (cH (aI (f k "is_quarter") (aC (aA 2) aD))) (aA 2))) [some a,some b] c):=by
 kernel_rfl
theorem Qa (k:Nat)(a b:D)(c:Hm):f (k+1) "edges_in" [a,b] c=fin ((aS (cU (cG (aI (f k "places_within") (aC (aA 0) (aC (aA 1) aD)))) (cH (aI (f k "is_edge") (aC (aA 2) aD))) (aA 2))) [some a,some b] c):=by
 kernel_rfl
theorem Qb (k:Nat)(a b c:D)(d:Hm):f (k+1) "is_inner_edge" [a,b,c] d=fin ((aS (cS (aI (f k "is_place") (aC (aA 2) aD)) (cS (aI (f k "is_within") (aC (aA 0) (aC (aA 1) (aC (aA 2) aD)))) (aI (f k "is_edge") (aC (aA 2) aD))))) [some a,some b,some c] d):=by
 kernel_rfl
theorem Qc (k:Nat)(a b c:D)(d:Hm):f (k+1) "neighbours_in" [a,b,c] d=fin ((aS (cU (cG (aI (f k "edges_of") (aC (aA 2) aD))) (cH (aI (f k "is_within") (aC (aA 0) (aC (aA 1) (aC (aA 3) aD))))) (cC (aC (aA 3) (aC (aI (f k "mirrored") (aC (aA 2) (aC (aA 3) aD))) aD))))) [some a,some b,some c] d):=by
 kernel_rfl
theorem Qd (k:Nat)(a b c:D)(d:Hm):f (k+1) "sheet_of" [a,b,c] d=fin ((aL (d9 (aI (f k "check_size") (aC (aA 0) (aC (aA 1) aD)))) (aL (bC 3 lZ) (aL (dE (cG (aA 2)) (cT 4) (aL (bC 5 (aB aJ (aA 4) (mC (.int 0)))) (aL (bH (dO (cH (aI (f k "is_inner_edge") (aC (aA 0) (aC (aA 1) (aC (aA 5) aD)))))) c3 bG) (aL (bH (dO (cH (aI (f k "is_mark") (aC (aB aJ (aA 4) (mC (.int 1))) aD)))) c3 bG) (aL (bH (aW (aB (b9 false) (aA 5) (aA 3))) c3 bG) (dX (aA 3) (aA 5) (aB aJ (aA 4) (mC (.int 1))))))))) (aS (cC (aC (aA 0) (aC (aA 1) (aC (kR (aA 3)) aD)))))))) [some a,some b,some c,none,none,none] d):=by
 kernel_rfl
theorem EV (k:Nat)(a:D)(b:Hm):f (k+1) "marks_in" [a] b=fin ((aS (aI mD (aC (aB aJ (aA 0) (mC (.int 2))) aD))) [some a] b):=by
 kernel_rfl
theorem Qe (k:Nat)(a b c:D)(d:Hm):f (k+1) "face_with" [a,b,c] d=fin ((aL (bC 3 (mE (aA 2) (mC (.bl true)))) (aL (bC 4 (c6 (aC (aA 2) aD))) (aL (nN oG (cH (aA 4)) (aL (bC 5 (dF kH (aA 4) aD)) (dE (cG (aI (f k "neighbours_in") (aC (aB aJ (aA 0) (mC (.int 0))) (aC (aB aJ (aA 0) (mC (.int 1))) (aC (aA 5) aD))))) (fL [6,7]) (bH (gO (aW (aB (b9 true) (aA 6) (aA 1))) (aW (aB (b9 true) (aA 7) (aA 3)))) (aL (dX (aA 3) (aA 7) (mC (.bl true))) (d9 (dF fN (aA 4) (aC (aA 7) aD)))) bG)))) (aS (aI kS (aC (aA 3) aD)))))) [some a,some b,some c,none,none,none,none,none] d):=by
 kernel_rfl
theorem Qf (k:Nat)(a:D)(b:Hm):f (k+1) "faces" [a] b=fin ((aL (bC 1 (aI (f k "marks_in") (aC (aA 0) aD))) (aL (bC 2 (c6 aD)) (aL (bC 3 lZ) (aL (dE (cG (aI (f k "quarters_in") (aC (aB aJ (aA 0) (mC (.int 0))) (aC (aB aJ (aA 0) (mC (.int 1))) aD)))) (cT 4) (bH (aW (aB (b9 true) (aA 4) (aA 3))) (aL (bC 5 (aI (f k "face_with") (aC (aA 0) (aC (aA 1) (aC (aA 4) aD))))) (aL (d9 (dF fN (aA 2) (aC (aA 5) aD))) (dE (cG (aA 5)) (cT 6) (dX (aA 3) (aA 6) (mC (.bl true)))))) bG)) (aS (aA 2)))))) [some a,none,none,none,none,none,none] b):=by
 kernel_rfl
theorem Qg (k:Nat)(a b c:D)(d:Hm):f (k+1) "sign_at" [a,b,c] d=fin ((aL (bH (gO (aW (aB (a8 false) (aB bN (aB aJ (aA 2) (mC (.int 0))) (mC (.int 4))) (mC (.int 0)))) (aW (aB (a8 false) (aB bN (aB aJ (aA 2) (mC (.int 1))) (mC (.int 4))) (mC (.int 0))))) (aS (mC (.str "+"))) bG) (aL (bH (dO (cH (aI (f k "is_edge") (aC (aA 2) aD)))) (aS (mC (.str " "))) bG) (aL (bH (cH (aI (f k "is_within") (aC (aB aJ (aA 0) (mC (.int 0))) (aC (aB aJ (aA 0) (mC (.int 1))) (aC (aA 2) aD))))) (aS (mF kP (aA 1) (aC (aA 2) (aC (mC (.str ".")) aD)))) bG) (aS (iJ (aW (aB (a8 false) (aI (f k "line_of") (aC (aA 2) aD)) (mC (.str "level")))) (mC (.str "-")) (mC (.str "|"))))))) [some a,some b,some c] d):=by
 kernel_rfl
theorem Qh (k:Nat)(a:D)(b:Hm):f (k+1) "drawn" [a] b=fin ((aL (bC 1 (aI (f k "marks_in") (aC (aA 0) aD))) (aL (bC 2 (c6 aD)) (aL (dE (iN (aC (aB cM (aB cF (mC (.int 4)) (aB aJ (aA 0) (mC (.int 1)))) (mC (.int 1))) aD)) (cT 3) (d9 (dF fN (aA 2) (aC (gW iU (mC (.str "")) (aC (cU (iN (aC (aB cM (aB cF (mC (.int 4)) (aB aJ (aA 0) (mC (.int 0)))) (mC (.int 1))) aD)) eZ (aI (f k "sign_at") (aC (aA 0) (aC (aA 1) (aC (cC (aC (aA 4) (aC (aA 3) aD))) aD))))) aD)) aD)))) (aS (gW iU (mC (.str "\n")) (aC (aA 2) aD)))))) [some a,none,none,none] b):=by
 kernel_rfl
theorem Qi (k:Nat)(a b:D)(c:Hm):f (k+1) "sign_in" [a,b] c=fin ((aS (iM (aB aJ (aA 0) (aB aJ (aA 1) (mC (.int 1)))) (iL (aB aJ (aA 1) (mC (.int 0)))) (iL (aB cM (aB aJ (aA 1) (mC (.int 0))) (mC (.int 1)))))) [some a,some b] c):=by
 kernel_rfl
theorem Qj (k:Nat)(a b c:D)(d:Hm):f (k+1) "creases_in" [a,b,c] d=fin ((aL (bC 3 (cU (cG (aI (f k "edges_in") (aC (aA 1) (aC (aA 2) aD)))) eZ (cC (aC (aA 4) (aC (aI (f k "sign_in") (aC (aA 0) (aC (aA 4) aD))) aD))))) (aS (aI oE (aC (cU (cG (aA 3)) (cH (aI (f k "is_mark") (aC (aB aJ (aA 4) (mC (.int 1))) aD))) (aA 4)) aD)))) [some a,some b,some c,none] d):=by
 kernel_rfl
theorem Qk (k:Nat)(a:D)(b:Hm):f (k+1) "read_sheet" [a] b=fin ((aL (bH (dO (cH (aI c8 (aC (aA 0) (aC (mC (.ty "str")) aD))))) c3 bG) (aL (bC 1 (gW oB (aA 0) (aC (mC (.str "\n")) aD))) (aL (bC 2 (aB dP (aI cX (aC (aB aJ (aA 1) (mC (.int 0))) aD)) (mC (.int 4)))) (aL (bC 3 (aB dP (aI cX (aC (aA 1) aD)) (mC (.int 4)))) (aL (bH (dO (gO (cH (aI (f k "is_size") (aC (aA 2) aD))) (cH (aI (f k "is_size") (aC (aA 3) aD))))) c3 bG) (aL (bC 4 (cC (aC (aA 2) (aC (aA 3) (aC (aI (f k "creases_in") (aC (aA 1) (aC (aA 2) (aC (aA 3) aD)))) aD))))) (aL (bH (aW (aB (a8 true) (aI (f k "drawn") (aC (aA 4) aD)) (aA 0))) c3 bG) (aS (aA 4))))))))) [some a,none,none,none,none] b):=by
 kernel_rfl
theorem Ql (k:Nat)(a b:D)(c:Hm):f (k+1) "_law_draw" [a,b] c=fin ((aS (aB aJ (aB cM (c6 (aC (mC (.int 0)) aD)) (iM (aA 0) (iL (aA 1)) (iL (aB cM (aA 1) (mC (.int 1)))))) (pO (mC (.int 1))))) [some a,some b] c):=by
 kernel_rfl
theorem Qm (k:Nat)(a:D)(b:Hm):f (k+1) "_law_kind" [a] b=fin ((aS (aB aJ (aB aJ (c6 (aC (mC (.str "c.l.")) (aC (mC (.str ".fqr")) (aC (mC (.str "uqcq")) (aC (mC (.str ".rqf")) aD))))) (aB bN (aB aJ (aA 0) (mC (.int 1))) (mC (.int 4)))) (aB bN (aB aJ (aA 0) (mC (.int 0))) (mC (.int 4))))) [some a] b):=by
 kernel_rfl
theorem Qn (k:Nat)(a b:D)(c:Hm):f (k+1) "_law_near" [a,b] c=fin ((aL (lP (aA 0) (fL [2,3])) (aL (bC 4 (c6 (aC (cC (aC (aB c7 (aA 2) (mC (.int 1))) (aC (aA 3) aD))) (aC (cC (aC (aA 2) (aC (aB c7 (aA 3) (mC (.int 1))) aD))) (aC (cC (aC (aA 2) (aC (aB cM (aA 3) (mC (.int 1))) aD))) (aC (cC (aC (aB cM (aA 2) (mC (.int 1))) (aC (aA 3) aD))) aD)))))) (aS (cU (cG (aA 4)) (aW (aB (b9 false) (aI (f k "_law_kind") (aC (aA 5) aD)) (aA 1))) (aA 5))))) [some a,some b,none,none,none] c):=by
 kernel_rfl
theorem Qo (k:Nat)(a:D)(b:Hm):f (k+1) "_law_int" [a] b=fin ((aS (cS (lM (aI c8 (aC (aA 0) (aC (mC (.ty "bool")) aD)))) (aI c8 (aC (aA 0) (aC (mC (.ty "int")) aD))))) [some a] b):=by
 kernel_rfl
theorem Qp (k:Nat)(a b:D)(c:Hm):f (k+1) "_law_are" [a,b] c=fin ((aL (bH (gP (dO (cH (aI c8 (aC (aA 0) (aC (mC (.ty "list")) aD))))) (aW (aB (a8 true) (aA 0) (aA 1)))) (aS (mC (.bl false))) bG) (aL (dE (cG (aA 0)) (cT 2) (bH (gP (dO (cH (aI c8 (aC (aA 2) (aC (mC (.ty "tuple")) aD))))) (gP (aW (aB (a8 true) (aI cX (aC (aA 2) aD)) (mC (.int 2)))) (gP (dO (cH (aI (f k "_law_int") (aC (aB aJ (aA 2) (mC (.int 0))) aD)))) (dO (cH (aI (f k "_law_int") (aC (aB aJ (aA 2) (mC (.int 1))) aD))))))) (aS (mC (.bl false))) bG)) (aS (mC (.bl true))))) [some a,some b,none] c):=by
 kernel_rfl
theorem Qq (k:Nat)(a b c:D)(d:Hm):f (k+1) "_law_amid" [a,b,c] d=fin ((aL (bC 3 (c6 aD)) (aL (dE (kB (aC (mC (.int 1)) (aC (aB cF (mC (.int 4)) (aA 0)) aD))) (cT 4) (bC 3 (aB cM (aA 3) (cU (kB (aC (mC (.int 1)) (aC (aB cF (mC (.int 4)) (aA 1)) aD))) (aW (aB (b9 false) (aI (f k "_law_kind") (aC (cC (aC (aA 4) (aC (aA 5) aD))) aD)) (aA 2))) (cC (aC (aA 4) (aC (aA 5) aD))))))) (aS (aA 3)))) [some a,some b,some c,none,none] d):=by
 kernel_rfl
theorem Qr (k:Nat)(a:D)(b:Hm):f (k+1) "_law_size" [a] b=fin ((aS (aB aJ (c6 (aC (mC (.int 1)) (aC (mC (.int 2)) (aC (mC (.int 3)) (aC (aB cM (mC (.int 1)) (aB bN (aB dP (aA 0) (mC (.int 4))) (mC (.int 6)))) aD))))) (aB bN (aA 0) (mC (.int 4))))) [some a] b):=by
 kernel_rfl
theorem Qs (k:Nat)(a:D)(b:Hm):f (k+1) "_law_line" [a] b=fin ((aL (bC 1 (aI (f k "_law_kind") (aC (aA 0) aD))) (aS (cC (aC (aA 1) (aC (aB aJ (lR [((mC (.str "l")),(aB aJ (aA 0) (mC (.int 1)))),((mC (.str "u")),(aB aJ (aA 0) (mC (.int 0)))),((mC (.str "f")),(aB c7 (aB aJ (aA 0) (mC (.int 0))) (aB aJ (aA 0) (mC (.int 1))))),((mC (.str "r")),(aB cM (aB aJ (aA 0) (mC (.int 0))) (aB aJ (aA 0) (mC (.int 1)))))]) (aA 1)) aD))))) [some a,none] b):=by
 kernel_rfl
theorem Qt (k:Nat)(a b c:D)(d:Hm):f (k+1) "_law_creases" [a,b,c] d=fin ((aL (bC 3 (aI (f k "_law_amid") (aC (aA 0) (aC (aA 1) (aC (mC (.str "lufr")) aD))))) (aL (bC 4 lZ) (aL (dE (iN (aC (aI cX (aC (aA 2) aD)) aD)) (cT 5) (aL (bC 6 (aB bN (aB cM (aB cM (aB cF (aB aJ (aA 2) (aA 5)) (mC (.int 48271))) (aB cF (aB cF (aA 5) (aA 5)) (mC (.int 40693)))) (mC (.int 7919))) (mC (.int 2147483647)))) (aL (bC 6 (aB bN (aB cF (aA 6) (aA 6)) (mC (.int 2147483563)))) (aL (bC 7 (aB aJ (aA 3) (aB bN (aB dP (aA 6) (mC (.int 9))) (aI cX (aC (aA 3) aD))))) (bH (aW (aB dQ (aB bN (aA 6) (mC (.int 9))) (mC (.int 7)))) (dX (aA 4) (aA 7) (aB aJ (mC (.str "hvo")) (aB bN (aB dP (aA 6) (mC (.int 2003))) (mC (.int 3))))) (aL (bC 8 (cU (cG (aA 3)) (aW (aB (a8 false) (aI (f k "_law_line") (aC (aA 10) aD)) (aI (f k "_law_line") (aC (aA 7) aD)))) (aA 10))) (dE (iN (aC (aI cX (aC (aA 8) aD)) aD)) (cT 9) (dX (aA 4) (aB aJ (aA 8) (aA 9)) (aB aJ (mC (.str "hvo")) (aB bN (aB cM (aB dP (aA 6) (mC (.int 2003))) (aB cF (aA 9) (aB bN (aA 6) (mC (.int 2))))) (mC (.int 3)))))))))))) (aS (aA 4))))) [some a,some b,some c,none,none,none,none,none,none,none] d):=by
 kernel_rfl
theorem Qu (k:Nat)(a:D)(b:Hm):f (k+1) "_law_numbers" [a] b=fin ((aL (bC 1 lZ) (aL (dE (iN (aC (aI cX (aC (aA 0) aD)) aD)) (cT 2) (aL (bH (gP (dO (cH (aI (f k "_law_are") (aC (aB aJ (aA 0) (aA 2)) (aC (aI kT (aC (aB aJ (aA 0) (aA 2)) aD)) aD))))) (aW (aB (a8 false) (aB aJ (aA 0) (aA 2)) (c6 aD)))) (aS (mC .non)) bG) (dE (cG (aB aJ (aA 0) (aA 2))) (cT 3) (aL (bH (aW (aB (b9 false) (aA 3) (aA 1))) (aS (mC .non)) bG) (dX (aA 1) (aA 3) (aA 2)))))) (aS (aA 1)))) [some a,none,none,none] b):=by
 kernel_rfl
theorem Qv (k:Nat)(a b c d:D)(e:Hm):f (k+1) "_law_reached" [a,b,c,d] e=fin ((aL (bC 4 (mE (aA 0) (mC (.bl true)))) (aL (bC 5 (c6 (aC (aA 0) aD))) (aL (nN oG (aW (aB (a8 true) (aA 5) (c6 aD))) (dE (cG (aI (f k "_law_near") (aC (dF kH (aA 5) aD) (aC (mC (.str "lufr")) aD)))) (cT 6) (aL (bC 7 (cS (aB dQ (mC (.int 0)) (aB aJ (aA 6) (mC (.int 0)))) (cS (aB dQ (aB aJ (aA 6) (mC (.int 0))) (aB cF (mC (.int 4)) (aA 2))) (cS (aB dQ (mC (.int 0)) (aB aJ (aA 6) (mC (.int 1)))) (aB dQ (aB aJ (aA 6) (mC (.int 1))) (aB cF (mC (.int 4)) (aA 3))))))) (bH (gO (cH (aA 7)) (aW (aB (b9 true) (aA 6) (aA 1)))) (dE (cG (aI (f k "_law_near") (aC (aA 6) (aC (mC (.str "q")) aD)))) (cT 8) (bH (aW (aB (b9 true) (aA 8) (aA 4))) (aL (dX (aA 4) (aA 8) (mC (.bl true))) (d9 (dF fN (aA 5) (aC (aA 8) aD)))) bG)) bG)))) (aS (aI cX (aC (aA 4) aD)))))) [some a,some b,some c,some d,none,none,none,none,none] e):=by
 kernel_rfl
theorem Qw (k:Nat)(a b c d:D)(e:Hm):f (k+1) "_law_right" [a,b,c,d] e=fin ((aL (bH (dO (cH (aI c8 (aC (aA 0) (aC (mC (.ty "list")) aD))))) (aS (mC (.bl false))) bG) (aL (bC 4 (aI (f k "_law_numbers") (aC (aA 0) aD))) (aL (bH (gP (aW (aB (iT false) (aA 4) (mC .non))) (aW (aB (a8 true) (oC (aA 4)) (aI (f k "_law_amid") (aC (aA 2) (aC (aA 3) (aC (mC (.str "q")) aD))))))) (aS (mC (.bl false))) bG) (aL (bH (aW (aB (a8 true) (cU (cG (aA 0)) eZ (aB aJ (aA 8) (mC (.int 0)))) (aI kT (aC (cU (cG (aA 0)) eZ (aB aJ (aA 8) (mC (.int 0)))) aD)))) (aS (mC (.bl false))) bG) (aL (dE (cG (aI (f k "_law_amid") (aC (aA 2) (aC (aA 3) (aC (mC (.str "lufr")) aD))))) (cT 5) (aL (lP (aI (f k "_law_near") (aC (aA 5) (aC (mC (.str "q")) aD))) (fL [6,7])) (bH (gO (aW (aB (b9 true) (aA 5) (aA 1))) (aW (aB (a8 true) (aB aJ (aA 4) (aA 6)) (aB aJ (aA 4) (aA 7))))) (aS (mC (.bl false))) bG))) (aS (aB (a8 false) (cU (cG (aA 0)) (aW (aB (a8 true) (aI (f k "_law_reached") (aC (aB aJ (aA 8) (mC (.int 0))) (aC (aA 1) (aC (aA 2) (aC (aA 3) aD))))) (aI cX (aC (aA 8) aD)))) (aA 8)) (c6 aD)))))))) [some a,some b,some c,some d,none,none,none,none] e):=by
 kernel_rfl
theorem Qx (k:Nat)(a:D)(b:Hm):f (k+1) "law" [a] b=fin ((aL (bC 1 (aI (f k "_law_size") (aC (aI (f k "_law_draw") (aC (aA 0) (aC (mC (.int 0)) aD))) aD))) (aL (bC 2 (aI (f k "_law_size") (aC (aI (f k "_law_draw") (aC (aA 0) (aC (mC (.int 1)) aD))) aD))) (aL (bC 3 (aI (f k "_law_creases") (aC (aA 1) (aC (aA 2) (aC (iM (aA 0) (iL (mC (.int 2))) pG) aD))))) (aL (bC 4 (cC (aC (aA 1) (aC (aA 2) (aC (kR (aA 3)) aD))))) (aL (bH (aW (aB (a8 false) (aB bN (aB dP (aI (f k "_law_draw") (aC (aA 0) (aC (mC (.int 0)) aD))) (mC (.int 24))) (mC (.int 3))) (mC (.int 1)))) (bC 4 (aI (f k "sheet_of") (aC (aA 1) (aC (aA 2) (aC (oD (aA 3)) aD))))) bG) (aL (bH (aW (aB (a8 false) (aB bN (aB dP (aI (f k "_law_draw") (aC (aA 0) (aC (mC (.int 0)) aD))) (mC (.int 24))) (mC (.int 3))) (mC (.int 2)))) (bC 4 (aI (f k "read_sheet") (aC (aI (f k "drawn") (aC (aA 4) aD)) aD))) bG) (aL (bC 5 (aI (f k "faces") (aC (aA 4) aD))) (aL (bH (dO (cH (aI (f k "_law_right") (aC (aA 5) (aC (aA 3) (aC (aA 1) (aC (aA 2) aD))))))) (aS (mC (.bl false))) bG) (aL (bC 6 (cU (cG (aA 5)) eZ (aI mI (aC (aA 7) aD)))) (aL (d9 (dF nM (aB aJ (aA 5) (mC (.int 0))) aD)) (aL (d9 (dF fN (aA 5) (aC (c6 aD) aD))) (aS (aB (a8 false) (aI (f k "faces") (aC (aA 4) aD)) (aA 6)))))))))))))) [some a,none,none,none,none,none,none] b):=by
 kernel_rfl
end Lw
namespace Lw
open PySem L2 L3
theorem zP {z:Int}{a:Hm}{Q:D×Hm->Prop}:W (cF (.int 2) (.int z) a) Q↔Q (.int (2 * z),a):=mN (.inl ⟨by decide,by decide⟩)
theorem jS {z:Int}{a:Hm}{Q:D×Hm->Prop}:W (cF (.int 4) (.int z) a) Q↔Q (.int (4 * z),a):=mN (.inl ⟨by decide,by decide⟩)
theorem qP {z:Int}{a:Hm}{Q:D×Hm->Prop}:W (bN (.int z) (.int 2) a) Q↔Q (.int (z % 2),a):=jQ (by decide)
theorem k5 {z:Int}{a:Hm}{Q:D×Hm->Prop}:W (bN (.int z) (.int 4) a) Q↔Q (.int (z % 4),a):=jQ (by decide)
theorem Qy {z:Int}{a:Hm}{Q:D×Hm->Prop}:W (bN (.int z) (.int 6) a) Q↔Q (.int (z % 6),a):=jQ (by decide)
theorem zQ {z:Int}{a:Hm}{Q:D×Hm->Prop}:W (dP (.int z) (.int 4) a) Q↔Q (.int (z / 4),a):=qM (by decide) (by decide)
theorem Qz:(2:Nat)<=Tj:=by decide
theorem i6 {a b:D}:([a,b]:List D).length<=Tj:=Qz
theorem QC {z:Int}{a:Hm}{Q:D×Hm->Prop}:W (dP (.int z) (.int 9) a) Q↔Q (.int (z / 9),a):=qM (by decide) (by decide)
theorem QD {z:Int}{a:Hm}{Q:D×Hm->Prop}:W (bN (.int z) (.int 9) a) Q↔Q (.int (z % 9),a):=jQ (by decide)
noncomputable def iG:D->Int
 | .int i=>i
 | _=>0
theorem tV {lo:Int}{n:Nat}{d:D}(h:d∈dJ lo n):∃ j:Nat,j<n/\d=.int (lo+(j:Int)):=by
 unfold dJ at h
 obtain ⟨j,a,rfl⟩:=TQ.mp h
 exact ⟨j,Ul.mp a,rfl⟩
noncomputable def eS (i j:Int):Str:=
 if j=0 then (if i=0 then "c" else if i=2 then "l" else ".") else if j=1 then (if i=1 then "f" else if i=2 then "q" else if i=3 then "r" else ".")
 else if j=2 then (if i=0 then "u" else if i=2 then "c" else "q") else (if i=1 then "r" else if i=2 then "q" else if i=3 then "f" else ".")
noncomputable def bD (x y:Int):Str:=eS (x % 4) (y % 4)
theorem oO (x:Int):x % 4=0\/x % 4=1\/x % 4=2\/x % 4=3:=by omega
noncomputable def tW:List D:=[.str "c.l.",.str ".fqr",.str "uqcq",.str ".rqf"]
theorem QF (i j:Int)(b:i=0\/i=1\/i=2\/i=3)(c:j=0\/j=1\/j=2\/j=3)(a:Hm):∃ r,atI tW j=some r/\aJ r (.int i) a=some (.str (eS i j),a):=by
 rcases c with rfl|rfl|rfl|rfl<;>rcases b with rfl|rfl|rfl|rfl<;>exact ⟨_,rfl,by kernel_rfl⟩
theorem zR (k:Nat)(x y:Int)(a:Hm)(Q:D×Hm->Prop)(h:∀ b,a <+: b->Q (.str (bD x y),b)):W (f (k+1) "_law_kind" [P x y] a) Q:=by
 rw [Qm,bL]
 simp only [bJ,aU,aQ,aE,aK,aM,fE,eM,dU,jQ (show (0:Int)<4 by decide)]
 refine ⟨by decide,?_⟩
 obtain ⟨r,c,d⟩:=QF (x % 4) (y % 4) (oO x) (oO y) (a++[.lst tW])
 refine (gE (xs:=tW) (bZ a _) c).mpr ?_
 show W (aJ r (.int (x % 4)) (a++[.lst tW])) _
 rw [d]
 exact W_some.mpr (h _ (bF _ _))
noncomputable def bO (s t:Str):Bool:=!(UK t s 0 t.length 1).isEmpty
theorem EW {s t:Str}{a:Hm}{Q:D×Hm->Prop}:W (b9 false (.str s) (.str t) a) Q↔Q (.bl (bO s t),a):=W_some
noncomputable def cell (ns:List Int)(i:Int):Int:=ns.getD i.toNat 0
theorem QH (ns:List Int)(i:Nat):iK (ns.map D.int) (some (i:Int)) (some ((i:Int)+1))=((ns.drop i).take 1).map D.int:=by
 have c:((i:Int)+1)=((i+1:Nat):Int):=by omega
 unfold iK
 rw [c,HT.sIx_nat,HT.sIx_nat]
 by_cases h:i<ns.length
 ·have a:min i (ns.map D.int).length=i:=by rw [S6];omega
  have b:min (i+1) (ns.map D.int).length - i=1:=by rw [S6];omega
  rw [a,b,a2m,Z4]
 ·have a:min i (ns.map D.int).length=ns.length:=by rw [S6];omega
  rw [a,UU (by rw [S6];omega),UU (by omega)]
  simp
theorem QK (ns:List Int)(i:Nat):atI ((.int 0:D)::((ns.drop i).take 1).map D.int) (-1)=some (.int (ns.getD i 0)):=by
 by_cases h:i<ns.length
 ·have e:(ns.drop i).take 1=[ns[i]]:=by
   rw [U7 h];rfl
  rw [e]
  have:ns.getD i 0=ns[i]:=by simp [Ug,h]
  rw [this]
  rfl
 ·have e:ns.drop i=[]:=UU (by omega)
  rw [e]
  have:ns.getD i 0=0:=by simp [Ug,Up (Xs.mp h)]
  rw [this]
  rfl
theorem tX (k:Nat)(ns:List Int)(i:Int)(m:0<=i)(a:Hm)(Q:D×Hm->Prop)(h:∀ c,a <+: c->Q (.int (cell ns i),c)):W (f (k+1) "_law_draw" [.rol (ns.map D.int),.int i] a) Q:=by
 rw [Ql,bL]
 simp only [bJ,aU,aQ,aE,aF,aK,aM,fE]
 refine ⟨by decide,?_⟩
 refine EM ?_
 simp only [aE]
 refine ⟨_,rfl,?_⟩
 simp only [zK,aU,aQ,aE,aF,iZ]
 obtain ⟨n,rfl⟩:∃ n:Nat,i=n:=⟨i.toNat,by omega⟩
 rw [QH]
 generalize hl:(ns.drop n).take 1=l
 have d:l.length<=1:=by rw [<- hl,TX];omega
 have j:(1:Nat)+(l.map D.int).length<=Tj:=by
  rw [S6,TY];omega
 have e:(a++[C.lst [D.int 0]]++[C.lst (l.map D.int)])[a.length]? = some (C.lst [D.int 0]):=aY (bF _ _) (bZ _ _)
 have g:(a++[C.lst [D.int 0]]++[C.lst (l.map D.int)])[(a++[C.lst [D.int 0]]).length]? = some (C.lst (l.map D.int)):=bZ _ _
 rw [EH e g j]
 simp only [Pq,aQ]
 have b:=QK ns n
 rw [hl] at b
 refine (gE (bZ _ _) b).mpr ?_
 exact h _ ((bF _ _).trans ((bF _ _).trans (bF _ _)))
noncomputable def b6:D->Int×Int
 | .tup [.int x,.int y]=>(x,y)
 | _=>(0,0)
theorem zS (p:Int×Int->Bool)(l:List (Int×Int)):((l.map PP).filter fun d=>p (b6 d)).map (fun d=>d)=(l.filter p).map PP:=by
 rw [a0b]
 induction l with
 | nil=>rfl
 | cons a l b=>
  have e:(List.map PP (a::l)).filter (fun d=>p (b6 d))=if p a then PP a::(l.map PP).filter (fun d=>p (b6 d)) else (l.map PP).filter fun d=>p (b6 d):=by
   rw [Tr,Wv];rfl
  rw [e,b,Wv]
  split<;>rfl
theorem oP {d:D}{l:List (Int×Int)}(h:d∈l.map PP):∃ x y,d=P x y:=by
 obtain ⟨p,_,rfl⟩:=TQ.mp h
 exact ⟨p.1,p.2,rfl⟩
theorem QL (k:Nat)(i:Int)(a:Hm)(Q:D×Hm->Prop):W (f (k+1) "_law_int" [.int i] a) Q↔Q (.bl true,a):=by
 rw [Qo,bL]
 simp only [bJ,gD,EE,aV,aM,aK,aE,aQ,EJ,EK]
 simp
theorem QM (k:Nat)(a b:Nat)(ps qs:List (Int×Int))(g:Hm)(Q:D×Hm->Prop)(j:g[a]? = some (.lst (ps.map PP)))(n:g[b]? = some (.lst (qs.map PP)))(h:Q (.bl (ps == qs),g)):W (f (k+2) "_law_are" [.loc a,.loc b] g) Q:=by
 rw [Qp,bL]
 simp only [aT,b8,tJ,gZ,dG,aV,aM,aK,aE,aF,aQ,cA,aU]
 refine (EL j).mpr ?_
 simp only [c5,Ut,Te,if_false]
 refine (oK j n).mpr ?_
 dsimp only
 cases e:ps == qs with
 | false=>
  simp only [if_true,V5,bJ,aQ]
  rw [e] at h
  exact h
 | true=>
  simp only [if_true,Ut,Te,if_false,b7]
  rw [e] at h
  simp only [eQ,dH,aE]
  refine (dM j).mpr ?_
  refine jR (fun i l c=>c=g/\∃ o,l=[some (.loc a),some (.loc b),o]) ⟨rfl,none,rfl⟩ (fun i l c m=>by rw [m.1];exact j) ?_ ?_
  ·rintro i d l c hd ⟨rfl,o,rfl⟩
   obtain ⟨u,v,rfl⟩:=oP (Ts hd)
   refine ⟨_,rfl,?_⟩
   simp only [Tc,Tf,b8,tJ,gZ,dG,aV,aM,aK,aE,aF,aQ,cA,aU,EI,c5,PL,tL,eM,dU,QL,b7,Ut,Te,if_false]
   exact ⟨trivial,_,rfl⟩
  ·rintro l c ⟨rfl,o,rfl⟩
   simp only [bJ,aQ]
   exact h
theorem tY {M:Int->Int->Prop}(h:∀ i j:Int,(i=0\/i=1\/i=2\/i=3)->(j=0\/j=1\/j=2\/j=3)->M i j)(x y:Int):M (x % 4) (y % 4):=h _ _ (oO x) (oO y)
theorem mO (x:Int):x % 2=x % 4 % 2:=by omega
theorem kE (x y:Int):bO (bD x y) "lufr" = (if x % 2=1 then y % 2 == 1 else (y % 2 == 0&&!(x % 4 == y % 4))):=by
 unfold bD
 rw [mO x,mO y]
 refine tY (M:=fun i j=>bO (eS i j) "lufr" = (if i % 2=1 then j % 2 == 1 else (j % 2 == 0&&!(i == j)))) (fun i j a b=>?_) x y
 rcases a with rfl|rfl|rfl|rfl<;>rcases b with rfl|rfl|rfl|rfl<;>decide +kernel
theorem kQ (x y:Int):(bD x y == "q")=(if x % 2=1 then y % 4 == 2 else (x % 4 == 2&&y % 2 == 1)):=by
 unfold bD
 rw [mO x,mO y]
 refine tY (M:=fun i j=>(eS i j == "q")=(if i % 2=1 then j == 2 else (i == 2&&j % 2 == 1))) (fun i j a b=>?_) x y
 rcases a with rfl|rfl|rfl|rfl<;>rcases b with rfl|rfl|rfl|rfl<;>decide +kernel
theorem zT (x y:Int):bO (bD x y) "q" = (bD x y == "q"):=by
 unfold bD
 refine tY (M:=fun i j=>bO (eS i j) "q" = (eS i j == "q")) (fun i j a b=>?_) x y
 rcases a with rfl|rfl|rfl|rfl<;>rcases b with rfl|rfl|rfl|rfl<;>decide +kernel
theorem tZ (k:Nat)(x y:Int)(a:Hm)(Q:D×Hm->Prop):W (f (k+1) "is_edge" [P x y] a) Q↔Q (.bl (bO (bD x y) "lufr"),a):=by
 rw [P0,bL,kE]
 simp only [aT,bJ,b7,b8,cA,gD,aU,aQ,aE,eM,dU,i5,tL,qP,k5]
 by_cases h:x % 2=1
 ·simp [h]
 ·by_cases g:y % 2=0
  ·simp [h,g]
  ·have e:(y % 2 == 0)=false:=by simpa using g
   simp only [e,ZO]
   simp [h]
theorem QN (k:Nat)(x y:Int)(a:Hm)(Q:D×Hm->Prop):W (f (k+1) "is_quarter" [P x y] a) Q↔Q (.bl (bD x y == "q"),a):=by
 rw [P1,bL,kQ]
 simp only [aT,bJ,b7,b8,cA,gD,aU,aQ,aE,eM,dU,i5,qP,k5]
 by_cases h:x % 2=1
 ·simp [h]
 ·by_cases g:x % 4=2
  ·simp [h,g]
  ·have e:(x % 4 == 2)=false:=by simpa using g
   simp only [e,ZO]
   simp [h]
noncomputable def fF (h:Int)(x:Int):List (Int×Int):=(Ui (4 * h - 1).toNat).map fun (j:Nat)=>(x,1+(j:Int))
noncomputable def eU (h:Int)(n:Nat):List (Int×Int):=(Ui n).flatMap fun (i:Nat)=>fF h (1+(i:Int))
noncomputable def eD (w h:Int):List (Int×Int):=eU h (4 * w - 1).toNat
noncomputable def aP (w h:Int)(s:Str):List (Int×Int):=(eD w h).filter fun p=>bO (bD p.1 p.2) s
theorem zU (h:Int)(n:Nat):eU h (n+1)=eU h n++fF h (1+(n:Int)):=by
 unfold eU;rw [a1R,a0L];simp
theorem zV (h x:Int):(fF h x).length=(4 * h - 1).toNat:=by unfold fF;simp
theorem t4 (h:Int):∀ n:Nat,(eU h n).length=n * (4 * h - 1).toNat
 | 0=>by simp [eU]
 | n+1=>by rw [zU,Td,t4 h n,zV,Y6]
theorem zW {h:Int}(b:h<=6){n:Nat}(a:n<=23):n * (4 * h - 1).toNat<=529:=by
 have:n * (4 * h - 1).toNat<=23 * 23:=YE a (by omega)
 omega
theorem QR (h x:Int):((dJ 1 (4 * h - 1).toNat).filter fun _=>true).map (fun d=>P x (iG d))=(fF h x).map PP:=by
 unfold dJ fF
 rw [show ∀ l:List D,l.filter (fun _=>true)=l from fun l=>by simp,Ud,Ud]
 rfl
theorem QU (k:Nat)(w h:Int)(hw:1<=w/\w<=6)(s:1<=h/\h<=6)(e:Hm)(Q:D×Hm->Prop)(H:∀ a b,e <+: b->b[a]? = some (.lst ((eD w h).map PP))->e.length<=a->Q (.loc a,b)):W (f (k+1) "places_within" [.int w,.int h] e) Q:=by
 rw [P8,bL]
 simp only [aT,bR,fE,aK]
 refine ⟨Uv _,?_⟩
 simp only [Tc,Tf,eQ,tP,aM,aK,aQ,aU,aE,aF,jS]
 refine ⟨by omega,?_⟩
 refine oJ (lo:=1) (fun i q b=>e <+: b/\b[e.length]? = some (.lst ((eU h i).map PP))/\∃ o,q=[some (.int w),some (.int h),some (.loc e.length),o]) ⟨bF _ _,bZ _ _,none,rfl⟩ ?_ ?_
 ·rintro i q p v ⟨n,g,o,rfl⟩
  refine ⟨_,rfl,?_⟩
  simp only [Tc,Tf,mM]
  refine kY ?_
  simp only [aE,aF]
  refine ⟨kZ g,?_⟩
  simp only [aM,aK]
  refine gF (xs:=dJ 1 (4 * h - 1).toNat) (p:=fun _=>true) (v:=fun d=>P (1+(i:Int)) (iG d)) ?_
  simp only [tP,aM,aK,aQ,aU,aE,aF,jS]
  refine ⟨by omega,zH,by simp [dJ],by rw [TY];simp [dJ];omega,?_,?_,?_⟩
  ·intro d b hd n
   exact w_mTrue.mpr ⟨rfl,T9 _⟩
  ·intro d b hd _ n
   obtain ⟨j,x,rfl⟩:=tV hd
   simp only [TM,T3,fQ,aM,aK,aE,aF,i6,true_and]
   exact ⟨rfl,T9 _⟩
  ·intro u c l
   rw [QR] at l
   have m:((eU h i).map PP).length+((fF h (1+(i:Int))).map PP).length<=Tj:=by
    have r:=zW (h:=h) s.2 (n:=i+1) (by omega)
    rw [Y6] at r
    rw [S6,S6,t4,zV,TY]
    omega
   refine (PK (aY c g) l m).mpr ?_
   refine ⟨fP (n.trans c) (Th _) _,?_,_,rfl⟩
   rw [Uw (S2.mp (aY c g)).1,zU,UW]
 ·rintro q p ⟨n,g,o,rfl⟩
  simp only [bJ,aE,aF]
  exact H _ _ n g (Th _)
theorem zX {w h:Int}(hw:w<=6)(a:h<=6):(eD w h).length<=529:=by
 unfold eD
 rw [t4]
 exact zW a (by omega)
theorem EX (k:Nat)(w h:Int)(hw:1<=w/\w<=6)(j:1<=h/\h<=6)(s:Str)(c:MT)(hc:∀ (u v:Int)(e:Hm),W (c [some (.int w),some (.int h),some (P u v)] e) fun r=>r.1=bO (bD u v) s/\e <+: r.2)(e:Hm)(Q:D×Hm->Prop)
  (H:∀ a b,e <+: b->b[a]? = some (.lst ((aP w h s).map PP))->e.length<=a->Q (.loc a,b)):W (cU (cG (aI (f (k+1) "places_within") (aC (aA 0) (aC (aA 1) aD)))) c (aA 2) [some (.int w),some (.int h)] e) Q:=by
 refine gF (xs:=(eD w h).map PP) (p:=fun d=>bO (bD (b6 d).1 (b6 d).2) s) (v:=fun d=>d) ?_
 simp only [dH,aV,aM,aK,aE,aF]
 refine QU _ w h hw j _ _ fun a n l i o=>?_
 refine (dM i).mpr ?_
 refine ⟨hZ i,rfl,?_,fun d b hd g=>?_,fun d b hd _ g=>?_,fun b g m=>?_⟩
 ·have:=zX (w:=w) (h:=h) hw.2 j.2
  rw [S6,TY];omega
 ·obtain ⟨u,v,rfl⟩:=oP hd
  exact hc u v b
 ·simp only [TM,T3,aE,aF]
  exact ⟨trivial,T9 _⟩
 ·refine H _ _ (l.trans g) ?_ (kX l)
  rw [m,zS fun p=>bO (bD p.1 p.2) s]
  rfl
theorem QV (k:Nat)(w h:Int)(hw:1<=w/\w<=6)(d:1<=h/\h<=6)(c:Hm)(Q:D×Hm->Prop)(H:∀ a b,c <+: b->b[a]? = some (.lst ((aP w h "q").map PP))->c.length<=a->Q (.loc a,b)):W (f (k+2) "quarters_in" [.int w,.int h] c) Q:=by
 rw [P9,bL]
 simp only [bJ]
 refine EX k w h hw d "q" _ (fun u v b=>?_) c _ H
 simp only [dG,aV,aM,aK,aE,aF,QN,c5]
 exact ⟨(zT u v).symm,T9 _⟩
theorem QX (k:Nat)(w h:Int)(hw:1<=w/\w<=6)(d:1<=h/\h<=6)(c:Hm)(Q:D×Hm->Prop)(H:∀ a b,c <+: b->b[a]? = some (.lst ((aP w h "lufr").map PP))->c.length<=a->Q (.loc a,b)):W (f (k+2) "edges_in" [.int w,.int h] c) Q:=by
 rw [Qa,bL]
 simp only [bJ]
 refine EX k w h hw d "lufr" _ (fun u v b=>?_) c _ H
 simp only [dG,aV,aM,aK,aE,aF,tZ,c5]
 exact ⟨trivial,T9 _⟩
theorem QY (h:Int)(p:Int×Int->Bool)(n:Nat):(eU h (n+1)).filter p=(eU h n).filter p++(fF h (1+(n:Int))).filter p:=by
 rw [zU,WM]
theorem QZ (h x:Int)(s:Str):((dJ 1 (4 * h - 1).toNat).filter fun d=>bO (bD x (iG d)) s).map (fun d=>P x (iG d))=((fF h x).filter fun p=>bO (bD p.1 p.2) s).map PP:=by
 unfold dJ fF
 rw [XE,XE,Ud,Ud]
 rfl
theorem zY (k:Nat)(w h:Int)(s:Str)(hw:1<=w/\w<=6)(A:1<=h/\h<=6)(g:Hm)(Q:D×Hm->Prop)(H:∀ a b,g <+: b->b[a]? = some (.lst ((aP w h s).map PP))->g.length<=a->Q (.loc a,b)):W (f (k+2) "_law_amid" [.int w,.int h,.str s] g) Q:=by
 rw [Qq,bL]
 simp only [aT,bR,fE,aK]
 refine ⟨Uv _,?_⟩
 simp only [Tc,Tf,eQ,tP,aM,aK,aQ,aU,aE,aF,jS]
 refine ⟨by omega,?_⟩
 refine oJ (lo:=1) (fun i u b=>g <+: b/\∃ a o,g.length<=a/\b[a]? = some (.lst (((eU h i).filter fun p=>bO (bD p.1 p.2) s).map PP))/\u=[some (.int w),some (.int h),some (.str s),some (.loc a),o]) ⟨bF _ _,g.length,none,Th _,bZ _ _,rfl⟩ ?_ ?_
 ·rintro i u q G ⟨e,a,o,v,n,rfl⟩
  refine ⟨_,rfl,?_⟩
  simp only [Tc,Tf,bR,aU,aE,aF]
  refine gF (xs:=dJ 1 (4 * h - 1).toNat) (p:=fun d=>bO (bD (1+(i:Int)) (iG d)) s) (v:=fun d=>P (1+(i:Int)) (iG d)) ?_
  simp only [tP,aM,aK,aQ,aU,aE,aF,jS]
  refine ⟨by omega,zH,by simp [dJ],by rw [TY];simp [dJ];omega,?_,?_,?_⟩
  ·intro d b hd e
   obtain ⟨j,B,rfl⟩:=tV hd
   simp only [TM,T3,cA,aU,aV,fQ,aM,aK,aE,aF,i6,true_and]
   refine zR _ _ _ _ _ fun r E=>?_
   refine (EW).mpr ?_
   exact ⟨rfl,E⟩
  ·intro d b hd _ e
   obtain ⟨j,B,rfl⟩:=tV hd
   simp only [TM,T3,fQ,aM,aK,aE,aF,i6,true_and]
   exact ⟨rfl,T9 _⟩
  ·intro r c l
   rw [QZ] at l
   have m:(((eU h i).filter fun p=>bO (bD p.1 p.2) s).map PP).length+(((fF h (1+(i:Int))).filter fun p=>bO (bD p.1 p.2) s).map PP).length<=Tj:=by
    have x:=zW (h:=h) A.2 (n:=i+1) (by omega)
    have y:=Um (fun p=>bO (bD p.1 p.2) s) (eU h i)
    have z:=Um (fun p=>bO (bD p.1 p.2) s) (fF h (1+(i:Int)))
    rw [t4] at y
    rw [zV] at z
    rw [Y6] at x
    rw [S6,S6,TY]
    omega
   refine (EH (aY c n) l m).mpr ?_
   refine ⟨(e.trans c).trans (bF _ _),_,_,T8 (kX e) (kX c),?_,rfl⟩
   rw [bZ,QY,UW]
 ·rintro u q ⟨e,a,o,v,n,rfl⟩
  simp only [bJ,aE,aF]
  exact H _ _ e n v
noncomputable def t6 (p:Int×Int):Bool:=if p.1 % 2=1 then p.2 % 4 == 2 else (p.1 % 4 == 2&&p.2 % 2 == 1)
noncomputable def qQ (p:Int×Int):Bool:=if p.1 % 2=1 then p.2 % 2 == 1 else (p.2 % 2 == 0&&!(p.1 % 4 == p.2 % 4))
theorem EY (w h:Int):aP w h "q" = (eD w h).filter t6:=by
 unfold aP t6;refine W0 fun p _=>?_;rw [zT,kQ]
theorem EZ (w h:Int):aP w h "lufr" = (eD w h).filter qQ:=by
 unfold aP qQ;refine W0 fun p _=>?_;rw [kE]
noncomputable def aX (p:Int×Int):List Int:=[p.1,p.2]
theorem E4:∀ ps:List (Int×Int),pR (ps.map PP)=some (ps.map aX)
 | []=>rfl
 | p::ps=>by
  rw [Tr]
  show (dA (PP p)).bind (fun k=>(pR (ps.map PP)).map (k::·))=_
  rw [E4 ps]
  rfl
theorem Q0 {a:Type}(l:List a)(d:a):(Ui l.length).map (fun i=>l.getD i d)=l:=by
 refine a1G (by simp) fun i c b=>?_
 simp [Ug,b]
theorem oQ {es:List (Int×Int)}{i:Nat}{d:D}(h:(es.map PP)[i]? = some d):∃ p,es[i]? = some p/\d=PP p:=by
 rw [TB] at h
 obtain ⟨p,a,b⟩:=S8.mp h
 exact ⟨p,a,b.symm⟩
theorem fR (q:Int×Int):dA (PP q)=some (aX q):=rfl
theorem Q1 {l:List (List Int×D)}(a:(l.map (·.1)).Nodup){k:List Int}{d:D}(h:(k,d)∈l):cK l k=some d:=by
 induction l with
 | nil=>cases h
 | cons p l b=>
  rw [Tr,Uy] at a
  unfold cK
  rw [UG]
  rcases T5.mp h with h|h
  ·rw [<- h]
   simp
  ·have:decide (p.1=k)=false:=decide_eq_false fun z=>a.1 (TQ.mpr ⟨_,h,z.symm⟩)
   rw [this]
   exact b a.2 h
theorem oR {p q:Int×Int}(h:aX p=aX q):p=q:=by
 unfold aX at h
 injection h with h1 h2
 injection h2 with h2
 exact Prod.ext h1 h2
theorem iA {d:Hm}{a:Nat}{c b:C}(h:d[a]? = some c):(d.set a b)[a]? = some b:=by
 rw [Uw (S2.mp h).1]
theorem Q2 (a:Hm)(c b:C):(a++[c]).set a.length b=a++[b]:=by
 rw [Xe _ _ (Th _)];simp
theorem lX:∀ a b c:List Int,HT.lexLt a b=true->HT.lexLt b c=true->HT.lexLt a c=true
 | [],[],_,h,_=>by cases h
 | [],_::_,[],_,h=>by cases h
 | [],_::_,_::_,_,_=>rfl
 | _::_,[],_,h,_=>by cases h
 | _::_,_::_,[],_,h=>by cases h
 | x::xs,y::ys,z::zs,e,d=>by
  rw [HT.lexLt_cons] at e d ⊢
  by_cases i:x=y
  ·subst i
   rw [if_pos rfl] at e
   by_cases g:x=z
   ·rw [if_pos g] at d ⊢
    exact lX xs ys zs e d
   ·rw [if_neg g] at d ⊢
    exact d
  ·rw [if_neg i] at e
   have e:=of_decide_eq_true e
   by_cases g:y=z
   ·subst g
    rw [if_neg i]
    exact decide_eq_true e
   ·rw [if_neg g] at d
    have d:=of_decide_eq_true d
    rw [if_neg (by omega)]
    exact decide_eq_true (by omega)
theorem E6:∀ a b c:List Int,HT.lexLt a b=true->HT.lexLt a c=true\/HT.lexLt c b=true
 | [],[],_,h=>by cases h
 | [],_::_,[],_=>.inr rfl
 | [],_::_,_::_,_=>.inl rfl
 | _::_,[],_,h=>by cases h
 | _::_,_::_,[],_=>.inr rfl
 | x::xs,y::ys,z::zs,h=>by
  rw [HT.lexLt_cons] at h ⊢
  rw [HT.lexLt_cons]
  by_cases e:x=y
  ·subst e
   rw [if_pos rfl] at h
   by_cases d:x=z
   ·subst d
    rw [if_pos rfl,if_pos rfl]
    exact E6 xs ys zs h
   ·rw [if_neg d,if_neg (U6 d),decide_eq_true_iff,decide_eq_true_iff]
    omega
  ·rw [if_neg e] at h
   have h:=of_decide_eq_true h
   by_cases d:x=z
   ·subst d
    rw [if_neg e]
    exact .inr (decide_eq_true h)
   ·rw [if_neg d,decide_eq_true_iff]
    by_cases g:z=y
    ·subst g
     exact .inl h
    ·rw [if_neg g,decide_eq_true_iff]
     omega
theorem kL:∀ k:List Int,HT.lexLt k k=false
 | []=>rfl
 | a::k=>by rw [HT.lexLt_cons,if_pos rfl];exact kL k
theorem zZ:∀ a b:List Int,HT.lexLt a b=false->HT.lexLt b a=false->a=b
 | [],[],_,_=>rfl
 | [],_::_,h,_=>by cases h
 | _::_,[],_,h=>by cases h
 | x::xs,y::ys,c,d=>by
  rw [HT.lexLt_cons] at c d
  by_cases e:x=y
  ·subst e
   rw [if_pos rfl] at c d
   rw [zZ xs ys c d]
  ·rw [if_neg e] at c
   rw [if_neg (U6 e)] at d
   have c:=of_decide_eq_false c
   have d:=of_decide_eq_false d
   omega
theorem Q3 {f:D->List D->Hm->Option (D×Hm)}{a:ME}{b:MA}{ρ:aH}{c:Hm}{Q:D×Hm->Prop}(h:W (a ρ c) fun p=>n8 p.2 p.1=true/\W (b ρ p.2) fun q=>W (f p.1 q.1 q.2) Q):W (mF f a b ρ c) Q:=by
 unfold mF
 rw [W_bind]
 refine bQ h fun p q=>?_
 rw [q.1]
 exact W_bind.mpr q.2
theorem Q4 {b:Hm}{a:Nat}{kvs:List (List Int×D)}(h:b[a]? = some (.dT kvs)):n8 b (.loc a)=true:=by
 simp only [n8,h]
noncomputable def qR:List (List Int)->Bool
 | x::y::r=>HT.lexLt x y&&qR (y::r)
 | _=>true
theorem z7:∀ {l:List (List Int)},qR l=true->l.Pairwise fun x y=>HT.lexLt x y=true
 | [],_=>.nil
 | [x],_=>Z8 _ _
 | x::y::r,h=>by
  unfold qR at h
  rw [Ti] at h
  have b:=z7 h.2
  refine VP.mpr ⟨fun z a=>?_,b⟩
  rcases T5.mp a with rfl|a
  ·exact h.1
  ·exact lX _ _ _ h.1 ((VP.mp b).1 z a)
theorem E7 {a b:List Int}(h:HT.lexLt a b=true):HT.lexLt b a=false:=by
 cases e:HT.lexLt b a with
 | false=>rfl
 | true=>
  have:=lX _ _ _ h e
  rw [kL] at this
  exact this.symm
theorem mP {i:Nat}{ρ:aH}{a:Hm}{d:D}{Q:D×Hm->Prop}(h:ρ[i]? = some (some d)):W (aA i ρ a) Q↔Q (d,a):=by
 have:aA i ρ a=some (d,a):=by simp only [aA,h]
 rw [this]
 exact W_some
theorem iB {a:Type}{l:List a}{n:Nat}{x:a}(h:l[n]? = some x):l.take (n+1)=l.take n++[x]:=by
 rw [a1r,h]
 rfl
theorem t7 {c:Type}{l:List c}(i:l.Nodup){n:Nat}{x:c}(h:l[n]? = some x):x∉l.take n:=fun g=>by
 obtain ⟨j,a⟩:=VS.mp g
 have b:j<n:=by
  have:=(S2.mp a).1
  rw [TX] at this
  omega
 rw [UJ b] at a
 have m:n<l.length:=(S2.mp h).1
 have d:=(S2.mp a).2
 have e:=(S2.mp h).2
 exact absurd ((a1F i).mp (d.trans e.symm)) (by omega)
noncomputable abbrev aZ (v:Int×Int->D)(ps:List (Int×Int)):List (List Int×D):=ps.map fun p=>(aX p,v p)
theorem oS {v:Int×Int->D}{ps:List (Int×Int)}(d:ps.Nodup){p:Int×Int}(h:p∈ps):cK (aZ v ps) (aX p)=some (v p):=by
 refine Q1 ?_ (TQ.mpr ⟨p,h,rfl⟩)
 rw [Ud]
 exact a2L _ (fun a b c x=>c (oR x)) d
theorem oT {v:Int×Int->D}{ps:List (Int×Int)}{p:Int×Int}(h:p∉ps):cK (aZ v ps) (aX p)=none:=by
 unfold cK
 rw [List.find?_eq_none.mpr]
 ·rfl
 ·intro x a
  obtain ⟨z,b,rfl⟩:=TQ.mp a
  rw [decide_eq_true_iff]
  exact fun e=>h (oR e ▸ b)
theorem qS {v:Int×Int->D}{ps:List (Int×Int)}{p:Int×Int}(h:p∉ps):eB (aZ v ps) (aX p) (v p)=aZ v (ps++[p]):=by
 unfold eB
 rw [oT h,if_neg (by simp)]
 show _=List.map _ _
 rw [UW]
 rfl
noncomputable def srt (ps:List (Int×Int)):List (Int×Int):=(bU (fun i j=>HT.lexLt ((ps.map aX).getD i []) ((ps.map aX).getD j [])) ps.length).map fun i=>ps.getD i (0,0)
theorem iC (ps:List (Int×Int)):(srt ps).Perm ps:=by
 have p:=(dW (fun i j=>HT.lexLt ((ps.map aX).getD i []) ((ps.map aX).getD j [])) ps.length).map fun i=>ps.getD i (0,0)
 rw [Q0] at p
 exact p
theorem z8 (v:Int×Int->D)(ps:List (Int×Int)):kN (aZ v ps)=aZ v (srt ps):=by
 unfold kN srt aZ
 have b:(ps.map fun p=>(aX p,v p)).map (·.1)=ps.map aX:=by rw [Ud];rfl
 rw [b,S6,Ud]
 refine UX fun i a=>?_
 have a:i<ps.length:=Ul.mp ((dW _ _).mem_iff.mp a)
 simp [Ug,a]
theorem z9 (ps:List (Int×Int)):((srt ps).map aX).Pairwise fun x y=>HT.lexLt y x=false:=by
 by_cases h:ps=[]
 ·subst h
  have:srt []=[]:=by
   have:=(iC []).length_eq
   exact Vk.mp this
  rw [this]
  exact .nil
 have c:0<ps.length:=a0K.mpr h
 have S:=C5 (lt:=HT.lexLt) kL lX E6 [] (ps.map aX) (n:=ps.length) c
 unfold srt
 rw [Ud,Ur]
 have b:∀ i∈bU (fun i j=>HT.lexLt ((ps.map aX).getD i []) ((ps.map aX).getD j [])) ps.length,aX (ps.getD i (0,0))=(ps.map aX).getD i []:=fun i a=>by
  have a:i<ps.length:=Ul.mp ((dW _ _).mem_iff.mp a)
  simp [Ug,a]
 exact S.imp_of_mem fun {i j} a d h=>by
  show HT.lexLt (aX (ps.getD j (0,0))) (aX (ps.getD i (0,0)))=false
  rw [b i a,b j d]
  exact h
theorem srt_eq {ps qs:List (Int×Int)}:srt ps=srt qs↔ps.Perm qs:=by
 constructor
 ·intro h
  exact (iC ps).symm.trans (h ▸ iC qs)
 ·intro h
  have e:(srt ps).map aX=(srt qs).map aX:=XS (le:=fun x y=>HT.lexLt y x=false) (fun a b _ _ c d=>(zZ b a c d).symm) (z9 ps) (z9 qs) ((((iC ps).trans h).trans (iC qs).symm).map _)
  have inj:∀ {a b:List (Int×Int)},a.map aX=b.map aX->a=b:=fun {a}=>by
   induction a with
   | nil=>intro b h;cases b with
    | nil=>rfl
    | cons=>cases h
   | cons x a g=>intro b h;cases b with
    | nil=>cases h
    | cons y b=>
     rw [Tr,Tr] at h
     injection h with c d
     rw [oR c,g d]
  exact inj e
noncomputable def bY (m:Int×Int->Str)(p:Int×Int):D:=.str (m p)
noncomputable def jT (s:Str):Prop:=s = "o"\/s = "v"\/s = "h"
noncomputable abbrev MD (p:(Int×Int)×Str):D:=.tup [PP p.1,.str p.2]
noncomputable abbrev SH (w h:Int)(a:List ((Int×Int)×Str)):D:=.tup [.int w,.int h,.tup (a.map MD)]
noncomputable def cQ (m:Int×Int->Str)(ps:List (Int×Int)):List ((Int×Int)×Str):=ps.map fun p=>(p,m p)
theorem Q5 {l:List ((Int×Int)×Str)}{i:Nat}{d:D}(h:(l.map MD)[i]? = some d):∃ p,l[i]? = some p/\d=MD p:=by
 rw [TB] at h
 obtain ⟨p,a,b⟩:=S8.mp h
 exact ⟨p,a,b.symm⟩
theorem Q6 (m:Int×Int->Str)(ps:List (Int×Int))(p:Int×Int)(c:Str):eB (aZ (bY m) ps) (aX p) (.str c)=aZ (bY fun q=>if q=p then c else m q) (if p∈ps then ps else ps++[p]):=by
 unfold eB
 by_cases h:p∈ps
 ·have e:(cK (aZ (bY m) ps) (aX p)).isSome=true:=by
   unfold cK
   rw [WS,List.find?_isSome]
   exact ⟨_,TQ.mpr ⟨p,h,rfl⟩,by simp⟩
  rw [if_pos e,if_pos h]
  unfold aZ
  rw [Ud]
  refine UX fun q _=>?_
  show (if aX q=aX p then (aX q,D.str c) else (aX q,bY m q))=(aX q,bY _ q)
  unfold bY
  dsimp only
  by_cases e:q=p
  ·rw [if_pos (by rw [e]),if_pos e]
  ·rw [if_neg (fun z=>e (oR z)),if_neg e]
 ·rw [oT h,if_neg (by simp),if_neg h]
  unfold aZ
  rw [UW]
  congr 1
  ·refine UX fun q a=>?_
   unfold bY
   dsimp only
   rw [if_neg (fun z:q=p=>h (z ▸ a))]
  ·show [_]=[(aX p,bY _ p)]
   unfold bY
   dsimp only
   rw [if_pos rfl]
theorem qT {c:Type} [DecidableEq c]:∀ {l t:List c},l.Nodup->(∀ x∈l,x∈t)->l.length<=t.length
 | [],_,_,_=>Uv _
 | x::l,t,nd,h=>by
  rw [Uy] at nd
  have a:=h x (Tt ..)
  have:=qT (l:=l) (t:=t.erase x) nd.2 fun y b=>(List.mem_erase_of_ne (fun e:y=x=>nd.1 (e ▸ b))).mpr (h y (Tw _ b))
  rw [List.length_erase_of_mem a] at this
  have:0<t.length:=a0c a
  rw [TF]
  omega
structure Mk (w h:Int)(ps:List (Int×Int))(m:Int×Int->Str):Prop where
 nd:ps.Nodup
 ed:∀ p∈ps,p∈aP w h "lufr"
 ok:∀ p,jT (m p)
theorem Mk.len {w h:Int}{ps:List (Int×Int)}{m:Int×Int->Str}(M:Mk w h ps m)(hw:w<=6)(a:h<=6):ps.length<=529:=
 T8 (qT M.nd M.ed) (T8 (Um _ _) (zX hw a))
theorem Mk.put {w h:Int}{ps:List (Int×Int)}{m:Int×Int->Str}(M:Mk w h ps m){p:Int×Int}(j:p∈aP w h "lufr") {c:Str}(hc:jT c):Mk w h (if p∈ps then ps else ps++[p]) fun q=>if q=p then c else m q:=by
 refine ⟨?_,fun q d=>?_,fun q=>?_⟩
 ·split
  ·exact M.nd
  ·rename_i h
   refine Wi.mpr ⟨M.nd,by simp,fun a i b g e=>?_⟩
   rw [TN] at g
   exact h (by rw [<- g,<- e];exact i)
 ·split at d
  ·exact M.ed q d
  ·rcases TU.mp d with d|d
   ·exact M.ed q d
   ·rw [TN.mp d]
    exact j
 ·split
  ·exact hc
  ·exact M.ok q
theorem Mk.perm {w h:Int}{ps qs:List (Int×Int)}{m:Int×Int->Str}(M:Mk w h ps m)(a:qs.Perm ps):Mk w h qs m:=⟨a.nodup_iff.mpr M.nd,fun p h=>M.ed p (a.mem_iff.mp h),M.ok⟩
theorem Aa (m:Int×Int->Str)(ps:List (Int×Int)):(cQ m ps).map MD=ps.map fun p=>D.tup [PP p,bY m p]:=by
 unfold cQ
 rw [Ud]
 rfl
theorem Q7 {n i:Nat}(h:i<n):lG n (i:Int)=some i:=by
 unfold lG
 rw [if_pos (by omega),if_pos (by omega)]
 rfl
theorem jU {a:Type}{xs:List a}{i:Int}{x:a}(c:0<=i)(h:xs[i.toNat]? = some x):atI xs i=some x:=by
 have b:i.toNat<xs.length:=(S2.mp h).1
 unfold atI
 have e:i=((i.toNat:Nat):Int):=by omega
 rw [e,Q7 b]
 exact h
noncomputable def k7 (c:Int):Int:=if c % 4=0 then 1 else if c % 4=1 then 2 else if c % 4=2 then 3 else 1+c / 4 % 6
theorem Fb (c:Int):1<=k7 c/\k7 c<=6:=by
 unfold k7
 repeat' split
 all_goals omega
theorem Fc (k:Nat)(c:Int)(b:Hm)(Q:D×Hm->Prop)(H:∀ a,b <+: a->Q (.int (k7 c),a)):W (f (k+1) "_law_size" [.int c] b) Q:=by
 rw [Qr,bL]
 simp only [bJ,aU,fE,aM,aK,aQ,aE,zQ,Qy,k5,iZ]
 refine ⟨by show (4:Nat)<=Tj;decide,?_⟩
 have e:atI [D.int 1,D.int 2,D.int 3,D.int (1+c / 4 % 6)] (c % 4)=some (.int (k7 c)):=by
  unfold k7
  have:=oO c
  rcases this with h|h|h|h<;>rw [h]<;>rfl
 refine (gE (bZ _ _) e).mpr ?_
 exact H _ (bF _ _)
theorem Q8 (a b c d:D):pM [] [(.inr "l",a),(.inr "u",b),(.inr "f",c),(.inr "r",d)]=[(.inr "l",a),(.inr "u",b),(.inr "f",c),(.inr "r",d)]:=by kernel_rfl
noncomputable abbrev Ab (x y:Int):List (aG×D):=[(.inr "l",D.int y),(.inr "u",D.int x),(.inr "f",D.int (x - y)),(.inr "r",D.int (x+y))]
noncomputable def iD (x y:Int):Int:=match fM (Ab x y) (.inr (bD x y)) with|some (.int i)=>i|_=>0
theorem Q9 {x y:Int}:bO (bD x y) "lufr" = true->bD x y = "l"\/bD x y = "u"\/bD x y = "f"\/bD x y = "r":=by
 unfold bD
 refine tY (M:=fun i j=>bO (eS i j) "lufr" = true->eS i j = "l"\/eS i j = "u"\/eS i j = "f"\/eS i j = "r") (fun i j a b=>?_) x y
 rcases a with rfl|rfl|rfl|rfl<;>rcases b with rfl|rfl|rfl|rfl<;>decide +kernel
theorem Ra {x y:Int}(h:bO (bD x y) "lufr" = true):fM (Ab x y) (.inr (bD x y))=some (.int (iD x y)):=by
 unfold iD
 rcases Q9 h with h|h|h|h<;>rw [h]<;>kernel_rfl
theorem Fd (k:Nat)(p:Int×Int)(c:bO (bD p.1 p.2) "lufr" = true) (b:Hm)(Q:D×Hm->Prop)(H:∀ a,b <+: a->Q (.tup [.str (bD p.1 p.2),.int (iD p.1 p.2)],a)):W (f (k+2) "_law_line" [PP p] b) Q:=by
 rw [Qs,bL,aT]
 simp only [bR,aV,aM,aK,aE,PP]
 refine zR k p.1 p.2 _ _ fun e d=>?_
 simp only [Tc,Tf,bJ,fQ,aM,aK,aU,aE,aF]
 refine PF ?_
 simp only [PC,PB,aQ,aE,aF,aU,eM,dU,tK,iZ,PD]
 refine ⟨bZ _ _,by show (4:Nat)<=15;decide,?_⟩
 rw [Q8]
 refine (PH (kvs:=Ab p.1 p.2) (by simp) rfl (Ra c)).mpr ⟨i6,?_⟩
 exact H _ (d.trans (fP (bF _ _) (Th _) _))
theorem Rb {a b:Str}{i j:Int}{c:Hm}{Q:D×Hm->Prop}:W (a8 false (.tup [.str a,.int i]) (.tup [.str b,.int j]) c) Q↔Q (.bl ((a == b)&&((i == j)&&true)),c):=W_some
theorem Fe {w h:Int}{p:Int×Int}(a:p∈eD w h):(0<p.1/\p.1<4 * w)/\0<p.2/\p.2<4 * h:=by
 unfold eD eU fF at a
 obtain ⟨i,b,a⟩:=Xh.mp a
 obtain ⟨j,c,rfl⟩:=TQ.mp a
 have b:=Ul.mp b
 have c:=Ul.mp c
 dsimp only
 omega
theorem qU {w h:Int}{s:Str}{p:Int×Int}(a:p∈aP w h s):((0<p.1/\p.1<4 * w)/\0<p.2/\p.2<4 * h)/\bO (bD p.1 p.2) s=true:=
 ⟨Fe (UN.mp a).1,(UN.mp a).2⟩
theorem Ff (k:Nat)(i:Int)(a:Hm)(Q:D×Hm->Prop):W (f (k+1) "is_whole" [.int i] a) Q↔Q (.bl true,a):=by
 rw [PY,bL]
 simp only [bJ,gD,EE,aV,aM,aK,aE,aQ,EJ,EK]
 simp
theorem t8 (k:Nat){i:Int}(h:1<=i/\i<=6)(a:Hm)(Q:D×Hm->Prop)(H:Q (.bl true,a)):W (f (k+2) "is_size" [.int i] a) Q:=by
 rw [P6,bL]
 simp only [bJ,gD,aV,aM,aK,aE,Ff,if_true,zL,aQ,Pu,decide_eq_true h.1,decide_eq_true h.2]
 exact H
theorem Rf (k:Nat){w h:Int}(hw:1<=w/\w<=6)(b:1<=h/\h<=6)(a:Hm)(Q:D×Hm->Prop)(H:Q (.non,a)):W (f (k+3) "check_size" [.int w,.int h] a) Q:=by
 rw [P7,bL]
 simp only [b8,gZ,oI,dG,aV,aM,aK,aE,aF]
 refine t8 k hw _ _ ?_
 simp only [c5,if_true]
 refine t8 k b _ _ ?_
 simp only [c5,Ut,Te,if_false,b7]
 exact H
theorem Rg (k:Nat){s:Str}(h:jT s)(a:Hm)(Q:D×Hm->Prop)(H:Q (.bl true,a)):W (f (k+1) "is_mark" [.str s] a) Q:=by
 rw [ET,bL]
 simp only [bJ,gD,aV,aM,aK,aE,aQ,zJ,if_true,aU]
 have e:b9 false (.str s) tT a=some (.bl true,a):=by
  rcases h with rfl|rfl|rfl<;>rfl
 rw [e,W_some]
 exact H
theorem Rh (k:Nat){w h:Int}{e:Int×Int}(g:e∈aP w h "lufr") (a:Hm)(Q:D×Hm->Prop)(H:Q (.bl true,a)):W (f (k+3) "is_inner_edge" [.int w,.int h,PP e] a) Q:=by
 obtain ⟨⟨b,c⟩,d⟩:=qU g
 rw [Qb,bL]
 simp only [bJ,gD,aV,aM,aK,aE,aF]
 rw [PZ,bL]
 simp only [bJ,gD,aV,aM,aK,aE,aF,aQ,aU,EI,if_true]
 rw [show cX [PP e] a=some (.int 2,a) from rfl,W_some]
 simp only [i5,beq_self_eq_true,if_true,PP,P,eM,dU,Ff]
 rw [EU,bL]
 simp only [bJ,gD,zL,aE,aF,aQ,aU,eM,dU,jS,tN,decide_eq_true b.1,decide_eq_true b.2,decide_eq_true c.1,decide_eq_true c.2,if_true]
 refine (tZ (k+1) e.1 e.2 _ _).mpr ?_
 rw [d]
 exact H
theorem Ri (k:Nat){w h:Int}(hw:1<=w/\w<=6)(u:1<=h/\h<=6){ps:List (Int×Int)}{m:Int×Int->Str}(M:Mk w h ps m)
  {g:Hm}{a:Nat}(s:g[a]? = some (.lst ((cQ m ps).map MD)))(Q:D×Hm->Prop)(H:∀ b,g <+: b->Q (SH w h (cQ m (srt ps)),b)):W (f (k+4) "sheet_of" [.int w,.int h,.loc a] g) Q:=by
 have lp:=M.len hw.2 u.2
 rw [Qd,bL,aT]
 simp only [mM,aV,aM,aK,aE,aF]
 refine Rf k hw u _ _ ?_
 rw [aT]
 simp only [bR,tS,Tc,Tf]
 rw [aT]
 simp only [eQ,dH,aE,aF]
 refine (dM (aY (bF _ _) s)).mpr ?_
 refine jR (fun i j b=>∃ x y,j=[some (.int w),some (.int h),some (.loc a),some (.loc g.length),x,y]/\g <+: b/\b[g.length]? = some (.dT (aZ (bY m) (ps.take i))))
  ⟨none,none,rfl,bF _ _,by rw [Wr];exact bZ _ _⟩ (fun _ _ _ ⟨_,_,_,p,_⟩=>aY p s) ?_ ?_
 ·rintro i d j b hd ⟨x,y,rfl,r,l⟩
  obtain ⟨c,hc,rfl⟩:=Q5 hd
  unfold cQ at hc
  rw [TB] at hc
  obtain ⟨p,o,rfl⟩:=S8.mp hc
  refine ⟨_,rfl,?_⟩
  have q:p∈ps:=Ts o
  simp only [Tc,Tf]
  rw [aT]
  simp only [bR,aU,aE,aF,aQ,MD,eM,Tc,Tf]
  rw [aT]
  simp only [b8,gZ,dG,aV,aM,aK,aE,aF]
  refine Rh k (M.ed p q) _ _ ?_
  simp only [c5,Ut,Te,if_false,b7]
  rw [aT]
  simp only [b8,gZ,dG,aV,aM,aK,aU,aE,aF,aQ,dU]
  refine Rg (k+2) (M.ok p) _ _ ?_
  simp only [c5,Ut,Te,if_false,b7]
  rw [aT]
  have n:p∉ps.take i:=t7 M.nd o
  simp only [b8,cA,aU,aE,aF]
  refine (zN l (fR p)).mpr ?_
  rw [oT n]
  simp only [a0y,Te,if_false,b7,oN,aU,aE,aF,aQ,dU]
  have v:(aZ (bY m) (ps.take i)).length<Tj:=by
   rw [S6,TX,TY]
   omega
  refine (qO l (fR p) v).mpr ⟨_,_,rfl,fP r (Th _) _,?_⟩
  rw [iA l,show D.str (m p)=bY m p from rfl,qS n,iB o]
 ·rintro j b ⟨x,y,rfl,r,l⟩
  rw [S6,cQ,S6,Ux] at l
  simp only [bJ,fQ,aM,aK,aE,aF]
  have e:oA (.loc g.length) b=some (.tup ((cQ m (srt ps)).map MD),b):=by
   simp only [oA,l]
   rw [if_pos trivial,z8,Aa]
   unfold aZ
   rw [Ud]
   rfl
  unfold kR
  simp only [W_bind,aE,aF]
  rw [e,W_some]
  exact ⟨by show (3:Nat)<=Tj;decide,H _ r⟩
theorem t9 {z:Int}{a:Hm}{Q:D×Hm->Prop}:W (bN (.int z) (.int 3) a) Q↔Q (.int (z % 3),a):=jQ (by decide)
theorem Fg {i:Int}(h:0<=i/\i<3):∃ s,jT s/\∀ a,aJ (.str "hvo") (.int i) a=some (.str s,a):=by
 have:i=0\/i=1\/i=2:=by omega
 rcases this with rfl|rfl|rfl
 ·exact ⟨"h",.inr (.inr rfl),fun a=>rfl⟩
 ·exact ⟨"v",.inr (.inl rfl),fun a=>rfl⟩
 ·exact ⟨"o",.inl rfl,fun a=>rfl⟩
theorem Rj:∀ w∈[(1:Int),2,3,4,5,6],∀ h∈[(1:Int),2,3,4,5,6],((eD w h).filter qQ).isEmpty=false:=by decide +kernel
theorem k8 {w:Int}(h:1<=w/\w<=6):w∈[(1:Int),2,3,4,5,6]:=by
 have:w=1\/w=2\/w=3\/w=4\/w=5\/w=6:=by omega
 rcases this with rfl|rfl|rfl|rfl|rfl|rfl<;>decide
theorem Rk {w h:Int}(hw:1<=w/\w<=6)(a:1<=h/\h<=6):0<(aP w h "lufr").length:=by
 have:=Rj w (k8 hw) h (k8 a)
 rw [EZ]
 cases e:(eD w h).filter qQ with
 | nil=>rw [e] at this;cases this
 | cons _ _=>exact Nat.zero_lt_succ _
theorem Ac {w h:Int}(hw:w<=6)(a:h<=6)(s:Str):(aP w h s).length<=529:=T8 (Um _ _) (zX hw a)
theorem Fh {w h:Int}(hw:w<=6)(g:h<=6){ps:List (Int×Int)}{m:Int×Int->Str}(M:Mk w h ps m){c:Hm}{a:Nat}(e:c[a]? = some (.dT (aZ (bY m) ps))){p:Int×Int}(i:p∈aP w h "lufr") {s:Str}(j:jT s)(Q:Hm->Prop)
  (H:∀ b d,Mk w h b d->Q (c.set a (.dT (aZ (bY d) b)))):W (pW (.loc a) (PP p) (.str s) c) Q:=by
 have lp:=M.len hw g
 refine (qO e (fR p) (by rw [S6,TY];omega)).mpr ?_
 rw [Q6]
 exact H _ _ (M.put i j)
noncomputable abbrev Rl (k:Nat):MS:=bH (aW (aB dQ (aB bN (aA 6) (mC (.int 9))) (mC (.int 7)))) (dX (aA 4) (aA 7) (aB aJ (mC (.str "hvo")) (aB bN (aB dP (aA 6) (mC (.int 2003))) (mC (.int 3))))) (aL (bC 8 (cU (cG (aA 3)) (aW (aB (a8 false) (aI (f k "_law_line") (aC (aA 10) aD)) (aI (f k "_law_line") (aC (aA 7) aD)))) (aA 10))) (dE (iN (aC (aI cX (aC (aA 8) aD)) aD)) (cT 9) (dX (aA 4) (aB aJ (aA 8) (aA 9)) (aB aJ (mC (.str "hvo")) (aB bN (aB cM (aB dP (aA 6) (mC (.int 2003))) (aB cF (aA 9) (aB bN (aA 6) (mC (.int 2))))) (mC (.int 3)))))))
theorem Rm (k:Nat){w h:Int}(hw:1<=w/\w<=6)(O:1<=h/\h<=6){x0 x1 x2 x5 x8 x9:Option D}{ps:List (Int×Int)}{m:Int×Int->Str}(M:Mk w h ps m){r:Hm}{a b:Nat}(hb:r[b]? = some (.lst ((aP w h "lufr").map PP))) (L:r[a]? = some (.dT (aZ (bY m) ps)))(n:Int)(hn:0<=n/\n<2147483647){e:Int×Int}(he:e∈aP w h "lufr") (Q:Fl×aH×Hm->Prop)
  (H:∀ g u y8 G o,Mk w h g u->(∀ l,l<=a->r.take l <+: o)->r.length<=o.length->(∀ c,c<r.length->c≠a->o[c]? = r[c]?)->o[a]? = some (.dT (aZ (bY u) g))->Q (.nx,[x0,x1,x2,some (.loc b),some (.loc a),x5,some (.int n),some (PP e),y8,G],o)) :
  W (Rl (k+2) [x0,x1,x2,some (.loc b),some (.loc a),x5,some (.int n),some (PP e),x8,x9] r) Q:=by
 have hal:a<r.length:=(S2.mp L).1
 simp only [b8,cA,aU,aE,aF,aQ,QD,tN]
 cases decide (n % 9<7) with
 | true=>
  simp only [if_true,oN,aU,aE,aF,aQ]
  rw [qM (by decide) (by decide),t9]
  obtain ⟨s,ok,R⟩:=Fg (i:=n / 2003 % 3) (by omega)
  rw [R,W_some]
  refine Fh hw.2 O.2 M L he ok _ fun g u M'=>H g u _ _ _ M' (fun l U=>?_) (by simp) (fun c _ hc=>by rw [UI (U6 hc)]) (iA L)
  rw [<- a0G (a:=C.dT (aZ (bY u) g)) U]
  exact a1D _ _
 | false=>
  simp only [Te,if_false]
  rw [aT,bR]
  have hE:=(qU he).2
  refine gF (xs:=(aP w h "lufr").map PP) (p:=fun d=>(bD (b6 d).1 (b6 d).2 == bD e.1 e.2)&&((iD (b6 d).1 (b6 d).2 == iD e.1 e.2)&&true)) (v:=fun d=>d) ?_
  simp only [dH,aE,aF]
  refine (dM hb).mpr ⟨hZ hb,rfl,?_,fun d o hd A=>?_,fun d o hd _ A=>?_,fun o A N=>?_⟩
  ·have:=Ac (w:=w) (h:=h) hw.2 O.2 "lufr"
   rw [S6,TY];omega
  ·obtain ⟨q,B,rfl⟩:=TQ.mp hd
   simp only [TM,T3,cA,aU,aV,aM,aK,aE,aF]
   refine Fd k q (qU B).2 _ _ fun μ2 p2=>?_
   refine Fd k e hE _ _ fun μ3 p3=>?_
   rw [Rb]
   exact ⟨rfl,p2.trans p3⟩
  ·simp only [TM,T3,aE,aF]
   exact ⟨trivial,T9 _⟩
  ·simp only [Tc,Tf]
   have x:∀ d∈(((aP w h "lufr").map PP).filter fun d=>(bD (b6 d).1 (b6 d).2 == bD e.1 e.2)&&((iD (b6 d).1 (b6 d).2 == iD e.1 e.2)&&true)).map (fun d=>d),∃ q∈aP w h "lufr",d=PP q:=fun d hd=>by
    rw [a0b] at hd
    obtain ⟨q,B,rfl⟩:=TQ.mp (UN.mp hd).1
    exact ⟨q,B,rfl⟩
   have z:((((aP w h "lufr").map PP).filter fun d=>(bD (b6 d).1 (b6 d).2 == bD e.1 e.2)&&((iD (b6 d).1 (b6 d).2 == iD e.1 e.2)&&true)).map (fun d=>d)).length<=529:=by
    rw [S6]
    refine T8 (Um _ _) ?_
    rw [S6]
    exact Ac hw.2 O.2 _
   generalize (((aP w h "lufr").map PP).filter fun d=>(bD (b6 d).1 (b6 d).2 == bD e.1 e.2)&&((iD (b6 d).1 (b6 d).2 == iD e.1 e.2)&&true)).map (fun d=>d)=row at N x z
   have X:=(S2.mp N).1
   simp only [eQ,qN (j:=0),aM,aK,aV,aE,aF]
   refine (oM N).mpr ⟨by omega,?_⟩
   rw [V0]
   refine oJ (lo:=0) (fun i y p=>∃ G g u,y=[x0,x1,x2,some (.loc b),some (.loc a),x5,some (.int n),some (PP e),some (.loc r.length),G]/\Mk w h g u/\(∀ l,l<=a->r.take l <+: p)/\r.length<p.length/\(∀ c,c<p.length->c≠a->p[c]? = o[c]?)/\p[a]? = some (.dT (aZ (bY u) g)))
    ⟨x9,ps,m,rfl,M,fun l _=>(a1D _ _).trans A,X,fun _ _ _=>rfl,aY A L⟩ ?_ ?_
   ·rintro i y p hi ⟨G,g,u,rfl,M1,t1,Y,I,K⟩
    refine ⟨_,rfl,?_⟩
    simp only [Tc,Tf,oN,aU,aE,aF,aQ,qP]
    rw [qM (by decide) (by decide)]
    rw [mN (.inr (by omega)),iZ,t9]
    obtain ⟨s,ok,R⟩:=Fg (i:=(n / 2003+(0+(i:Int)) * (n % 2)) % 3) ⟨XJ _ (by decide),WR _ (by decide)⟩
    rw [R,W_some]
    have E:row[i]? = some row[i]:=S7 hi
    obtain ⟨q,B,eq⟩:=x _ (VN hi)
    rw [eq] at E
    have gr:p[r.length]? = some (.lst row):=by rw [I _ Y (by omega)];exact N
    refine (gE gr (jU (by omega) (by rw [show (0+(i:Int)).toNat=i by omega];exact E))).mpr ?_
    refine Fh hw.2 O.2 M1 K B ok _ fun Z m2 M2=>?_
    refine ⟨_,Z,m2,rfl,M2,fun l U=>?_,by simpa using Y,fun c hc v=>?_,iA K⟩
    ·obtain ⟨t,ht⟩:=t1 l U
     rw [<- ht]
     refine (List.prefix_iff_getElem?).mpr fun j T=>?_
     have hjl:j<l:=by rw [TX] at T;omega
     rw [UI (by omega),Tq T,S7 T]
    ·rw [Wc] at hc
     rw [UI (U6 v)]
     exact I c hc v
   ·rintro y p ⟨G,g,u,rfl,M1,t1,Y,I,K⟩
    refine H g u _ _ p M1 t1 (by omega) (fun c hc v=>?_) K
    rw [I c (by omega) v]
    obtain ⟨t,rfl⟩:=A
    exact Tq hc
theorem Ro (k:Nat){w h:Int}(hw:1<=w/\w<=6)(A:1<=h/\h<=6){ns:List Int}(hl:ns.length<=63){s:Hm}{c:Nat}(hc:s[c]? = some (.lst (ns.map D.int)))(Q:D×Hm->Prop)
  (H:∀ a l m d,s <+: d->s.length<=a->Mk w h l m->d[a]? = some (.dT (aZ (bY m) l))->Q (.loc a,d)):W (f (k+3) "_law_creases" [.int w,.int h,.loc c] s) Q:=by
 rw [Qt,bL,aT]
 simp only [bR,aV,aM,aK,aE,aF,aQ]
 refine zY k w h "lufr" hw A _ _ fun b g u R lb=>?_
 simp only [Tc,Tf]
 rw [aT]
 simp only [bR,tS,Tc,Tf]
 rw [aT]
 have hcl:c<s.length:=(S2.mp hc).1
 have hbl:b<g.length:=(S2.mp R).1
 have q1:=kX u
 have y:=aY (u.trans (bF g (C.dT []))) hc
 have hE:=Rk hw A
 simp only [eQ,qN (j:=0),aM,aK,aV,aE,aF]
 refine (oM y).mpr ?_
 rw [S6]
 refine ⟨by omega,?_⟩
 rw [V0]
 refine oJ (lo:=0) (fun i p d=>∃ G I K L N l m,p=[some (.int w),some (.int h),some (.loc c),some (.loc b),some (.loc g.length),G,I,K,L,N]/\Mk w h l m/\g <+: d/\d[g.length]? = some (.dT (aZ (bY m) l)))
  ⟨_,_,_,_,_,[],fun _=>"h",rfl,⟨ZK,(fun _ z=>nomatch z),fun _=>.inr (.inr rfl)⟩,bF _ _,bZ _ _⟩ ?_ ?_
 ·rintro i p d hi ⟨G,I,K,L,N,l,m,rfl,M,r,x⟩
  refine ⟨_,rfl,?_⟩
  simp only [Tc,Tf]
  rw [aT]
  simp only [bR,aU,aE,aF,aQ]
  have q:ns[i]? = some ns[i]:=S7 hi
  generalize ns[i]=v at q
  refine (gE (aY (u.trans r) hc) (d:=.int v) (jU (by omega) (by rw [show (0+(i:Int)).toNat=i by omega,TB,q];rfl))).mpr ?_
  rw [mN (.inr (by decide)),mN (.inl (by omega)),mN (.inr (by decide)),iZ,iZ,jQ (by decide)]
  have X:=XJ (v * 48271+(0+(i:Int)) * (0+(i:Int)) * 40693+7919) (show (2147483647:Int)≠0 by decide)
  have Y:=WR (v * 48271+(0+(i:Int)) * (0+(i:Int)) * 40693+7919) (show (0:Int)<2147483647 by decide)
  generalize (v * 48271+(0+(i:Int)) * (0+(i:Int)) * 40693+7919) % 2147483647=n0 at X Y
  simp only [Tc,Tf]
  rw [aT]
  simp only [bR,aU,aE,aF,aQ]
  rw [mN (.inl (by omega)),jQ (by decide)]
  have O:=XJ (n0 * n0) (show (2147483563:Int)≠0 by decide)
  have Z:=WR (n0 * n0) (show (0:Int)<2147483563 by decide)
  generalize n0 * n0 % 2147483563=n at O Z
  simp only [Tc,Tf]
  rw [aT]
  simp only [bR,aU,aE,aF,aQ,QC,aV,aM,aK]
  have o:=aY r R
  refine (oM o).mpr ?_
  rw [S6,jQ (by omega)]
  have U:=XJ (n / 9) (show ((aP w h "lufr").length:Int)≠0 by omega)
  have j1:=WR (n / 9) (show (0:Int)<((aP w h "lufr").length:Int) by omega)
  generalize n / 9 % ((aP w h "lufr").length:Int)=j at U j1
  have B:(aP w h "lufr")[j.toNat]? = some (aP w h "lufr")[j.toNat]:=S7 (by omega)
  have T:=Ts B
  generalize (aP w h "lufr")[j.toNat]=e at B T
  refine (gE o (d:=PP e) (jU U (by rw [TB,B];rfl))).mpr ?_
  simp only [Tc,Tf]
  refine Rm k hw A M o x n ⟨O,by omega⟩ T _ fun E m' y8 y9 μ2 M2 t2 l2 c2 g3=>?_
  refine ⟨_,_,_,_,_,E,m',rfl,M2,?_,g3⟩
  have:=t2 g.length (Th _)
  rwa [<- List.prefix_iff_eq_take.mp r] at this
 ·rintro p d ⟨G,I,K,L,N,l,m,rfl,M,r,x⟩
  simp only [bJ,aE,aF]
  exact H _ l m _ (u.trans r) q1 M x
noncomputable def One (s:Str):Prop:=∃ c:Nat,s=⟨#[c]⟩/\c≠10
noncomputable def uA (s:Str):Nat:=s.cps.toList.headD 0
theorem One.is {s:Str}(h:One s):s=⟨#[uA s]⟩/\uA s≠10:=by
 obtain ⟨c,rfl,h⟩:=h
 exact ⟨rfl,h⟩
theorem One.len {s:Str}(h:One s):s.length=1:=by
 obtain ⟨c,rfl,_⟩:=h
 rfl
theorem Fj (x y:Str):(x++y).cps.toList=x.cps.toList++y.cps.toList:=by
 show (x.cps++y.cps).toList=_
 exact Vq
theorem Rq {x y:Str}(h:x.cps.toList=y.cps.toList):x=y:=by
 obtain ⟨a⟩:=x
 obtain ⟨b⟩:=y
 congr 1
 exact Vj.mp h
noncomputable def jn (c:List Nat):List (List Nat)->List Nat
 | []=>[]
 | [x]=>x
 | x::y::r=>x++c++jn c (y::r)
theorem uB (a:Str):∀ ss:List Str,(Y4 a ss).cps.toList=jn a.cps.toList (ss.map fun s=>s.cps.toList)
 | []=>rfl
 | [x]=>rfl
 | x::y::r=>by
  show (x++a++Y4 a (y::r)).cps.toList=_
  rw [Fj,Fj,uB a (y::r)]
  rfl
theorem Fm:∀ a:List (List Nat),jn [] a=a.flatten
 | []=>rfl
 | [x]=>by simp [jn]
 | x::y::r=>by
  show x++[]++jn [] (y::r)=_
  rw [Fm (y::r),Uz]
  rfl
theorem Fn:∀ ss:List Str,(∀ s∈ss,One s)->(ss.map fun s=>s.cps.toList).flatten=ss.map uA
 | [],_=>rfl
 | s::ss,h=>by
  rw [Tr,List.flatten_cons,Fn ss fun t a=>h t (Tw _ a),Tr]
  obtain ⟨c,rfl,_⟩:=h s (Tt ..)
  rfl
theorem Ad {ss:List Str}(h:∀ s∈ss,One s):(T4 "" ss).cps.toList=ss.map uA:=by
 rw [Z1,uB]
 show jn [] _=_
 rw [Fm,Fn ss h]
theorem Rt (x:Str):x.length=x.cps.toList.length:=by
 unfold YV
 simp
theorem uC {ss:List Str}(h:∀ s∈ss,One s):(T4 "" ss).length=ss.length:=by
 rw [Rt,Ad h,S6]
theorem Ru {ss:List Str}(h:∀ s∈ss,One s){i:Nat}{s:Str}(a:ss[i]? = some s):jE (T4 "" ss) (some (i:Int)) (some ((i:Int)+1))=s:=by
 have e:i<ss.length:=(S2.mp a).1
 obtain ⟨b,_⟩:=(h s (Ts a)).is
 unfold jE
 rw [uC h,Ad h,show ((i:Int)+1)=((i+1:Nat):Int) by omega,HT.sIx_nat,HT.sIx_nat,WL (by omega),WL (by omega),show i+1 - i=1 by omega,<- Z4,<- a2m]
 have c:(ss.drop i).take 1=[s]:=by
  obtain ⟨d,rfl⟩:=S2.mp a
  rw [U7 d]
  rfl
 rw [c,b]
 rfl
theorem Fo {c:Nat}:∀ {a b X Y:List Nat},c∉a->c∉b->a++c::X=b++c::Y->a=b/\X=Y
 | [],[],X,Y,_,_,h=>⟨rfl,by injection h⟩
 | [],y::b,X,Y,_,hb,h=>by
  rw [T3,TM] at h
  injection h with h1 _
  exact absurd (by rw [h1];exact Tt ..) hb
 | x::a,[],X,Y,ha,_,h=>by
  rw [T3,TM] at h
  injection h with h1 _
  exact absurd (by rw [h1];exact Tt ..) ha
 | x::a,y::b,X,Y,ha,hb,h=>by
  rw [TM,TM] at h
  injection h with h1 h2
  obtain ⟨d,e⟩:=Fo (fun z=>ha (Tw _ z)) (fun z=>hb (Tw _ z)) h2
  exact ⟨by rw [h1,d],e⟩
theorem Fp {c:Nat}:∀ {as bs:List (List Nat)},as≠[]->bs≠[]->(∀ a∈as,c∉a)->(∀ b∈bs,c∉b)->jn [c] as=jn [c] bs->as=bs
 | [],_,h,_,_,_,_=>absurd rfl h
 | _,[],_,h,_,_,_=>absurd rfl h
 | [x],[y],_,_,_,_,h=>by rw [show x=y from h]
 | [x],y::z::r,_,_,ha,_,h=>by
  refine absurd ?_ (ha x (Tt ..))
  rw [show x=y++[c]++jn [c] (z::r) from h]
  simp
 | x::z::r,[y],_,_,_,hb,h=>by
  refine absurd ?_ (hb y (Tt ..))
  rw [<- show x++[c]++jn [c] (z::r)=y from h]
  simp
 | x::d::r,y::e::r2,_,_,ha,hb,h=>by
  have j:x++c::jn [c] (d::r)=y++c::jn [c] (e::r2):=by
   have:x++[c]++jn [c] (d::r)=y++[c]++jn [c] (e::r2):=h
   simpa using this
  obtain ⟨g,i⟩:=Fo (ha x (Tt ..)) (hb y (Tt ..)) j
  rw [g,Fp (by simp) (by simp) (fun a h=>ha a (Tw _ h)) (fun b h=>hb b (Tw _ h)) i]
theorem Rv:("\n":Str)=⟨#[10]⟩:=rfl
theorem Rw {c:List Str}(m:c≠[])(h:∀ r∈c,10∉r.cps.toList):Xp (T4 "\n" c) "\n" = c:=by
 rw [Z1,Rv]
 have e:=StrLaws.join_split (Y4 ⟨#[10]⟩ c) ⟨#[10]⟩
 have l:=StrLaws.split_free (Y4 ⟨#[10]⟩ c) 10
 have d:1<=(Xp (Y4 ⟨#[10]⟩ c) ⟨#[10]⟩).length:=a2Z _ _
 generalize Xp (Y4 ⟨#[10]⟩ c) ⟨#[10]⟩=parts at e l d
 have g:=congrArg (fun s:Str=>s.cps.toList) e
 (try dsimp only at g)
 rw [uB,uB] at g
 have:=Fp (c:=10) (by
  intro z
  rw [a0I] at z
  rw [z] at d
  exact absurd d (by decide)) (by
  intro z
  exact m (a0I.mp z)) (fun a i=>by
  obtain ⟨p,d,rfl⟩:=TQ.mp i
  exact l p d) (fun a i=>by
  obtain ⟨p,d,rfl⟩:=TQ.mp i
  exact h p d) g
 exact (YS fun a b j=>Rq j).mp this
theorem Ry {ss:List Str}(h:∀ s∈ss,One s):10∉(T4 "" ss).cps.toList:=by
 rw [Ad h]
 intro z
 obtain ⟨s,a,e⟩:=TQ.mp z
 exact (h s a).is.2 e
theorem Fq (n:Nat):∀ (ss:List Str)(m:Nat),ss.foldl (fun a s=>a+s.length+n) m=m+(ss.map fun s=>s.length+n).sum
 | [],m=>by simp
 | s::ss,m=>by
  rw [Zo,Fq n ss]
  simp
  omega
theorem uD {k:Nat}:∀ {ss:List Str},(∀ s∈ss,s.length<=k)->∀ n,(ss.map fun s=>s.length+n).sum<=ss.length * (k+n)
 | [],_,_=>by simp
 | s::ss,h,n=>by
  rw [Tr,List.sum_cons,TF,Y6]
  have:=uD (ss:=ss) (fun t a=>h t (Tw _ a)) n
  have:=h s (Tt ..)
  omega
theorem Fs {d:Hm}{a:Nat}{c:Str}{ss:List Str}{Q:D×Hm->Prop}(i:c.length<=1)(h:d[a]? = some (.lst (ss.map D.str)))(h1:ss.length<=25)(e:∀ s∈ss,s.length<=25):W (iU (.str c) [.loc a] d) Q↔Q (.str (T4 c ss),d):=by
 have b:ss.length * (25+c.length)<=25 * 26:=YE h1 (by omega)
 refine PX h ?_ ?_
 ·rw [List.foldl_toArray,Fq]
  unfold Xc
  have:=uD e c.length
  rw [TY]
  exact decide_eq_false (by omega)
 ·rw [size_glued]
  have g:=uD e 0
  simp only [Ys] at g
  have j:ss.length * 25<=25 * 25:=a0F _ h1
  have l:(ss.length - 1) * c.length<=25 * 1:=YE (by omega) i
  rw [TY]
  omega
theorem Rz {a:Str}{ss:List Str}(d:a.length<=1)(h1:ss.length<=25)(b:∀ s∈ss,s.length<=25):(T4 a ss).length<=650:=by
 rw [size_glued]
 have c:=uD b 0
 simp only [Ys] at c
 have e:ss.length * 25<=25 * 25:=a0F _ h1
 have g:(ss.length - 1) * a.length<=25 * 1:=YE (by omega) d
 omega
theorem Ft {ps:List (Int×Int)}(h:(ps.map aX).Pairwise fun x y=>HT.lexLt y x=false):srt ps=ps:=by
 have e:(srt ps).map aX=ps.map aX:=XS (le:=fun x y=>HT.lexLt y x=false) (fun a b _ _ c d=>(zZ b a c d).symm) (z9 ps) h ((iC ps).map _)
 have inj:∀ {a b:List (Int×Int)},a.map aX=b.map aX->a=b:=fun {a}=>by
  induction a with
  | nil=>intro b h;cases b with
   | nil=>rfl
   | cons=>cases h
  | cons x a g=>intro b h;cases b with
   | nil=>cases h
   | cons y b=>
    rw [Tr,Tr] at h
    injection h with c d
    rw [oR c,g d]
 exact inj e
theorem RA {a:ME}{lo b:MO}{ρ:aH}{c:Hm}{Q:D×Hm->Prop}(h:W (a ρ c) fun p=>∃ z,p.1=.str z/\W (lo ρ p.2) fun q=>W (b ρ q.2) fun r=>z.length<=Tj/\Q (.str (jE z q.1 r.1),r.2)):W (iM a lo b ρ c) Q:=by
 unfold iM
 rw [W_bind]
 refine bQ h fun p q=>?_
 obtain ⟨d,g⟩:=p
 obtain ⟨z,rfl,q⟩:=q
 rw [W_bind]
 refine bQ q fun p q=>?_
 rw [W_bind]
 refine bQ q fun p q=>?_
 obtain ⟨e,q⟩:=q
 dsimp only
 rw [if_pos e]
 exact W_some.mpr q
theorem uE {a C:MS}{ρ c:aH}{d b:Hm}{Q:D×Hm->Prop}(h:a ρ d=some (.nx,c,b))(k:W (fin (C c b)) Q):W (fin (aL a C ρ d)) Q:=by
 unfold aL
 rw [h]
 exact k
theorem uF {i:Nat}{m:ME}{ρ:aH}{b a:Hm}{d:D}(h:m ρ b=some (d,a)):bC i m ρ b=some (.nx,ρ.set i (some d),a):=by
 unfold bC
 rw [h]
 rfl
theorem Ae {a:Type}{o:Option a}{r:a}(h:∀ Q:a->Prop,W o Q↔Q r):o=some r:=by
 obtain ⟨_,e,b⟩:=(h fun x=>x=r).mpr rfl
 rw [e,b]
noncomputable def gG (w h:Int)(v:Int×Int->Str)(x y:Int):Str:=
 if (x % 4 == 0&&y % 4 == 0)=true then "+" else if bO (bD x y) "lufr" = false then " " else if (0<x/\x<4 * w)/\0<y/\y<4 * h then v (x,y) else if (y % 4 == 0)=true then "-" else "|"
noncomputable def vW (m:Int×Int->Str)(ps:List (Int×Int))(p:Int×Int):Str:=if p∈ps then m p else "."
noncomputable def eV (w h:Int)(v:Int×Int->Str)(y:Int):List Str:=(Ui (4 * w+1).toNat).map fun (i:Nat)=>gG w h v (0+(i:Int)) y
noncomputable def cY (w h:Int)(v:Int×Int->Str)(n:Nat):List Str:=(Ui n).map fun (j:Nat)=>T4 "" (eV w h v (0+(j:Int)))
noncomputable def mQ (w h:Int)(v:Int×Int->Str):Str:=T4 "\n" (cY w h v (4 * h+1).toNat)
noncomputable def mR (v:Int×Int->Str):Prop:=∀ p,One (v p)
theorem RB {s:Str}(h:jT s):One s:=by
 rcases h with rfl|rfl|rfl
 ·exact ⟨111,rfl,by decide⟩
 ·exact ⟨118,rfl,by decide⟩
 ·exact ⟨104,rfl,by decide⟩
theorem Af {m:Int×Int->Str}(h:∀ p,jT (m p))(ps:List (Int×Int)):mR (vW m ps):=fun p=>by
 unfold vW
 split
 ·exact RB (h p)
 ·exact ⟨46,rfl,by decide⟩
theorem RC {w h:Int}{v:Int×Int->Str}(a:mR v)(x y:Int):One (gG w h v x y):=by
 unfold gG
 split
 ·exact ⟨43,rfl,by decide⟩
 split
 ·exact ⟨32,rfl,by decide⟩
 split
 ·exact a _
 split
 ·exact ⟨45,rfl,by decide⟩
 ·exact ⟨124,rfl,by decide⟩
theorem qV {w h:Int}{v:Int×Int->Str}(b:mR v)(y:Int):∀ s∈eV w h v y,One s:=fun s a=>by
 unfold eV at a
 obtain ⟨i,_,rfl⟩:=TQ.mp a
 exact RC b _ _
theorem uG (w h:Int)(v:Int×Int->Str)(y:Int):(eV w h v y).length=(4 * w+1).toNat:=by unfold eV;simp
theorem RD (w h:Int)(v:Int×Int->Str)(n:Nat):cY w h v (n+1)=cY w h v n++[T4 "" (eV w h v (0+(n:Int)))]:=by unfold cY;rw [a1R,UW];rfl
theorem Ag (w h:Int)(v:Int×Int->Str)(n:Nat):(cY w h v n).length=n:=by unfold cY;simp
theorem Fu {w h:Int}(hw:w<=6){v:Int×Int->Str}(b:mR v){n:Nat}:∀ s∈cY w h v n,s.length<=25:=fun s a=>by
 unfold cY at a
 obtain ⟨j,_,rfl⟩:=TQ.mp a
 rw [uC (qV b _),uG]
 omega
theorem Fv {w h:Int}{v a:Int×Int->Str}(e:∀ p,v p=a p):mQ w h v=mQ w h a:=by
 have:v=a:=funext e
 rw [this]
theorem RE {m:Int×Int->Str}{ps:List (Int×Int)}(g:ps.Nodup){b:Hm}{a:Nat}(d:b[a]? = some (.dT (aZ (bY m) ps)))(p:Int×Int){Q:D×Hm->Prop}:W (kP (.loc a) [PP p,.str "."] b) Q↔Q (.str (vW m ps p),b):=by
 have e:kP (.loc a) [PP p,.str "."] b=some (.str (vW m ps p),b):=by
  simp only [kP,d,fR,Uj]
  unfold vW
  by_cases c:p∈ps
  ·rw [oS g c,if_pos c];rfl
  ·rw [oT c,if_neg c];rfl
 rw [e]
 exact W_some
theorem RG (k:Nat){x y:Int}(b:¬ x % 2=1)(a:Hm)(Q:D×Hm->Prop):W (f (k+1) "line_of" [P x y] a) Q↔Q (.str (if (y % 4 == 0)=true then "level" else "upright"),a):=by
 rw [ES,bL]
 have e:(x % 2 == 1)=false:=by simpa using b
 simp only [aT,b8,cA,aU,aE,aQ,eM,dU,qP,k5,i5,e,Te,if_false,b7,bJ,tI]
 cases y % 4 == 0<;>simp only [if_true,Te,if_false,aQ]
theorem Fw (k:Nat)(w h x y:Int)(a:Hm)(Q:D×Hm->Prop):W (f (k+1) "is_within" [.int w,.int h,P x y] a) Q↔Q (.bl (decide ((0<x/\x<4 * w)/\0<y/\y<4 * h)),a):=by
 rw [EU,bL]
 simp only [bJ,gD,zL,aE,aF,aQ,aU,eM,dU,jS,tN]
 by_cases b:0<x<;>by_cases c:x<4 * w<;>by_cases d:0<y<;>by_cases e:y<4 * h<;>simp [b,c,d,e]
theorem RH {w h x y:Int}(e:0<=x/\x<=4 * w)(g:0<=y/\y<=4 * h)(a:bO (bD x y) "lufr" = true) (d:¬ ((0<x/\x<4 * w)/\0<y/\y<4 * h)):¬ x % 2=1/\((y % 4=0/\x % 4=2)\/(y % 4=2/\x % 4=0)):=by
 rw [kE] at a
 have c:x % 4=0\/y % 4=0:=by omega
 by_cases b:x % 2=1
 ·rw [if_pos b] at a
  have:y % 2=1:=by simpa using a
  omega
 ·rw [if_neg b,Ti,beq_iff_eq,X9,beq_eq_false_iff_ne] at a
  refine ⟨b,?_⟩
  omega
theorem RI (k:Nat){w h:Int}{T:D}{m:Int×Int->Str}{ps:List (Int×Int)}(G:ps.Nodup){b:Hm}{a:Nat}(j:b[a]? = some (.dT (aZ (bY m) ps))){x y:Int}(r:0<=x/\x<=4 * w)(s:0<=y/\y<=4 * h)(Q:D×Hm->Prop)(H:Q (.str (gG w h (vW m ps) x y),b)) :
  W (f (k+2) "sign_at" [.tup [.int w,.int h,T],.loc a,P x y] b) Q:=by
 rw [Qg,bL,aT]
 simp only [b8,oI,cA,aU,aE,aF,aQ,eM,dU,k5,i5]
 unfold gG at H
 cases c:(x % 4 == 0&&y % 4 == 0) with
 | true=>
  rw [c,if_pos rfl] at H
  rw [Ti] at c
  simp only [c.1,c.2,if_true,bJ,aQ]
  exact H
 | false=>
  rw [c,if_neg (by decide)] at H
  have E:∀ {A B:Prop},B->(if (x % 4 == 0)=true then (if (y % 4 == 0)=true then A else B) else B):=fun {A B} l=>by
   split
   ·rw [if_neg (fun z=>by rename_i I;rw [I,z] at c;cases c)]
    exact l
   ·exact l
  have nx:∀ {R:Prop},(W (bG [some (.tup [.int w,.int h,T]),some (.loc a),some (P x y)] b) fun p=>match p.1 with|.nx=>R|_=>R)↔R:=fun {R}=>by rw [b7]
  have go:W (aL (bH (dO (cH (aI (f (k+1) "is_edge") (aC (aA 2) aD)))) (aS (mC (.str " "))) bG) (aL (bH (cH (aI (f (k+1) "is_within") (aC (aB aJ (aA 0) (mC (.int 0))) (aC (aB aJ (aA 0) (mC (.int 1))) (aC (aA 2) aD))))) (aS (mF kP (aA 1) (aC (aA 2) (aC (mC (.str ".")) aD)))) bG) (aS (iJ (aW (aB (a8 false) (aI (f (k+1) "line_of") (aC (aA 2) aD)) (mC (.str "level")))) (mC (.str "-")) (mC (.str "|"))))) [some (.tup [.int w,.int h,T]),some (.loc a),some (P x y)] b) (fun p=>match p.1 with|.rt d=>Q (d,p.2.2)|.nx=>Q (.non,p.2.2)|_=>False):=by
   rw [aT]
   simp only [b8,gZ,dG,aV,aM,aK,aE,aF]
   rw [tZ,c5]
   cases g:bO (bD x y) "lufr" with
   | false=>
    rw [g,if_pos rfl] at H
    simp only [V5,if_true,bJ,aQ]
    exact H
   | true=>
    rw [g,if_neg (by decide)] at H
    simp only [Ut,Te,if_false,b7]
    rw [aT]
    simp only [b8,dG,aV,aM,aK,aU,aE,aF,aQ]
    have u:∀ (b:Hm)(Q:D×Hm->Prop),W (aJ (.tup [.int w,.int h,T]) (.int 0) b) Q↔Q (.int w,b):=fun _ _=>W_some
    have v:∀ (b:Hm)(Q:D×Hm->Prop),W (aJ (.tup [.int w,.int h,T]) (.int 1) b) Q↔Q (.int h,b):=fun _ _=>W_some
    simp only [u,v]
    rw [Fw]
    by_cases e:(0<x/\x<4 * w)/\0<y/\y<4 * h
    ·rw [if_pos e] at H
     simp only [decide_eq_true e,if_true,c5,bJ]
     refine Q3 ?_
     simp only [aE,aF,aM,aK,aQ]
     exact ⟨Q4 j,(RE G j (x,y)).mpr H⟩
    ·rw [if_neg e] at H
     obtain ⟨n,K⟩:=RH r s g e
     have fin:W (aS (iJ (aW (aB (a8 false) (aI (f (k+1) "line_of") (aC (aA 2) aD)) (mC (.str "level")))) (mC (.str "-")) (mC (.str "|"))) [some (.tup [.int w,.int h,T]),some (.loc a),some (P x y)] b) (fun p=>match p.1 with|.rt d=>Q (d,p.2.2)|.nx=>Q (.non,p.2.2)|_=>False):=by
      simp only [bJ,tI,cA,aU,aV,aM,aK,aE,aF,aQ]
      rw [RG k n]
      cases i:(y % 4 == 0) with
      | true=>
       rw [i,if_pos rfl] at H
       rw [show a8 false (.str (if true=true then "level" else "upright")) (.str "level") b=some (.bl true,b) from by kernel_rfl,W_some]
       simp only [if_true,aQ]
       exact H
      | false=>
       rw [i,if_neg (by decide)] at H
       rw [show a8 false (.str (if false=true then "level" else "upright")) (.str "level") b=some (.bl false,b) from by kernel_rfl,W_some]
       simp only [Te,if_false,aQ]
       exact H
     simp only [decide_eq_false e,Te,if_false,c5,b7]
     exact fin
  simp only [b7]
  cases o:(x % 4 == 0)<;>cases q:(y % 4 == 0)
  ·simp only [Te,if_false];exact go
  ·simp only [Te,if_false];exact go
  ·simp only [if_true,Te,if_false];exact go
  ·rw [o,q] at c;cases c
theorem RJ {ρ:aH}{j:MI}{e:ME}{w h:Int}(hw:1<=w/\w<=6){v:Int×Int->Str}(p:mR v){y:Int}{b:Hm}(hit:j ρ b=some (fK 0 (4 * w+1).toNat,(4 * w+1).toNat+1,b))
  (m:∀ (i:Nat) a,i<(4 * w+1).toNat->b <+: a->W (e (ρ++[some (.int (0+(i:Int)))]) a) fun s=>s.1=.str (gG w h v (0+(i:Int)) y)/\a <+: s.2)(Q:D×Hm->Prop)
  (H:∀ a,b <+: a->Q (.str (T4 "" (eV w h v y)),a)):W (gW iU (mC (.str "")) (aC (cU j eZ e) aD) ρ b) Q:=by
 refine zO ?_
 simp only [aQ,aM,aK]
 refine ⟨_,rfl,?_⟩
 refine gF (xs:=dJ 0 (4 * w+1).toNat) (p:=fun _=>true) (v:=fun d=>.str (gG w h v (iG d) y)) ?_
 rw [hit,W_some]
 refine ⟨zH,by simp [dJ],by rw [TY];simp [dJ];omega,fun d a _ _=>w_mTrue.mpr ⟨rfl,T9 _⟩,fun d a hd _ c=>?_,fun a c g=>?_⟩
 ·obtain ⟨i,n,rfl⟩:=tV hd
  exact m i a n c
 ·have l:((dJ 0 (4 * w+1).toNat).filter fun _=>true).map (fun d=>D.str (gG w h v (iG d) y))=(eV w h v y).map D.str:=by
   unfold dJ eV
   rw [YL.mpr (fun _ _=>rfl),Ud,Ud]
   rfl
  rw [l] at g
  refine (Fs (by decide) g (by rw [uG];omega) fun s o=>?_).mpr (H _ c)
  rw [(qV p y s o).len]
  decide
theorem RK {r j:Nat}{ρ:aH}{q:MI}{e:ME}{w h:Int}(hw:1<=w/\w<=6)(O:1<=h/\h<=6){v:Int×Int->Str}(K:mR v){μ0 n:Hm}{c:Nat}(I:ρ[r]? = some (some (.loc c)))(E:j<ρ.length)(M:j≠r)(m:μ0 <+: n)(lo:μ0.length<=c)(z:n[c]? = some (.lst []))
  (hit:∀ o a,q (ρ.set j o) a=some (fK 0 (4 * w+1).toNat,(4 * w+1).toNat+1,a))
  (A:∀ (y i:Nat) a,y<(4 * h+1).toNat->i<(4 * w+1).toNat->μ0 <+: a->W (e (ρ.set j (some (.int (0+(y:Int))))++[some (.int (0+(i:Int)))]) a) fun s=>s.1=.str (gG w h v (0+(i:Int)) (0+(y:Int)))/\a <+: s.2)(Q:Fl×aH×Hm->Prop)
  (H:∀ o a,μ0 <+: a->a[c]? = some (.lst ((cY w h v (4 * h+1).toNat).map D.str))->Q (.nx,ρ.set j o,a)) :
  W (eA (fK 0 (4 * h+1).toNat) (cT j) (d9 (dF fN (aA r) (aC (gW iU (mC (.str "")) (aC (cU q eZ e) aD)) aD))) ((4 * h+1).toNat+1) 0 ρ n) Q:=by
 refine oJ (lo:=0) (fun i b a=>∃ o,b=ρ.set j o/\μ0 <+: a/\a[c]? = some (.lst ((cY w h v i).map D.str))) ⟨ρ[j],(List.set_getElem_self E).symm,m,z⟩ ?_ ?_
 ·rintro i b a B ⟨o,rfl,l,g⟩
  refine ⟨_,rfl,?_⟩
  rw [List.set_set,mM]
  have N:(ρ.set j (some (.int (0+(i:Int)))))[r]? = some (some (.loc c)):=by rw [UI M];exact I
  refine kY ?_
  rw [mP N]
  refine ⟨kZ g,?_⟩
  simp only [aM,aK]
  refine RJ hw K (hit _ _) (fun x d L G=>A i x d B L (l.trans G)) _ fun d u=>?_
  have p:=aY u g
  refine (tR p (by rw [S6,Ag,TY];omega)).mpr ⟨_,rfl,fP (l.trans u) lo _,?_⟩
  rw [iA p,RD,UW]
  rfl
 ·rintro b a ⟨o,rfl,l,g⟩
  exact H o a l g
theorem uH {w:Int}(hw:1<=w/\w<=6):((4 * w+1).toNat:Int)=4 * w+1:=by omega
theorem Ah {a b c:D}{d:Hm}{Q:D×Hm->Prop}:W (aJ (.tup [a,b,c]) (.int 0) d) Q↔Q (a,d):=W_some
theorem Ai {a b c:D}{d:Hm}{Q:D×Hm->Prop}:W (aJ (.tup [a,b,c]) (.int 1) d) Q↔Q (b,d):=W_some
theorem Fx {a b c:D}{d:Hm}{Q:D×Hm->Prop}:W (aJ (.tup [a,b,c]) (.int 2) d) Q↔Q (c,d):=W_some
theorem Fy:∀ a:List ((Int×Int)×Str),n5 (a.map MD)=some (a.map fun m=>(aX m.1,D.str m.2))
 | []=>rfl
 | m::a=>by
  rw [Tr,Tr]
  show (dA (PP m.1)).bind (fun k=>(n5 (a.map MD)).map fun l=>(k,D.str m.2)::l)=_
  rw [Fy a]
  rfl
theorem Fz (v:Int×Int->D):∀ (l ps:List (Int×Int)),(ps++l).Nodup->(l.map fun p=>(aX p,v p)).foldl (fun q p=>eB q p.1 p.2) (aZ v ps)=aZ v (ps++l)
 | [],ps,_=>by rw [Uz];rfl
 | p::l,ps,nd=>by
  have a:p∉ps:=fun h=>by
   rw [Wi] at nd
   exact nd.2.2 p h p (Tt ..) rfl
  rw [Tr,Zo]
  dsimp only
  rw [qS a,Fz v l (ps++[p]) (by rw [Tu];exact nd),Tu]
  rfl
theorem FC {m:Int×Int->Str}{ps:List (Int×Int)}(b:ps.Nodup){a:Hm}{Q:D×Hm->Prop}:W (mD [.tup ((cQ m ps).map MD)] a) Q↔Q (.loc a.length,a++[.dT (aZ (bY m) ps)]):=by
 have e:mD [.tup ((cQ m ps).map MD)] a=some (.loc a.length,a++[.dT (aZ (bY m) ps)]):=by
  simp only [mD,Fy,Uj]
  have:=Fz (bY m) ps [] (by simpa using b)
  rw [T3] at this
  rw [<- this]
  unfold cQ
  rw [Ud]
  rfl
 rw [e]
 exact W_some
theorem FD (k:Nat){w h:Int}(hw:1<=w/\w<=6)(e:1<=h/\h<=6){m:Int×Int->Str}(ok:∀ p,jT (m p)){ps:List (Int×Int)}(j:ps.Nodup)(b:Hm)(Q:D×Hm->Prop)(H:∀ a,b <+: a->Q (.str (mQ w h (vW m ps)),a)) :
  W (f (k+3) "drawn" [SH w h (cQ m ps)] b) Q:=by
 have g:=Af ok ps
 rw [Qh,bL,aT]
 simp only [bR,aV,aM,aK,aE]
 rw [EV,bL]
 simp only [bJ,aV,aM,aK,aU,aE,aQ,Fx,FC j]
 simp only [Tc,Tf]
 rw [aT]
 simp only [bR,fE,aK]
 refine ⟨Uv _,?_⟩
 simp only [Tc,Tf]
 have d:(b++[C.dT (aZ (bY m) ps)])[b.length]? = some (.dT (aZ (bY m) ps)):=bZ _ _
 have l:b <+: b++[C.dT (aZ (bY m) ps)]:=bF _ _
 generalize b++[C.dT (aZ (bY m) ps)]=μ1 at d l
 rw [aT]
 simp only [eQ,qN (j:=0),aM,aK,aQ,aU,aE,aF,Ai,jS,iZ]
 refine ⟨by omega,?_⟩
 refine RK (r:=2) (j:=3) hw e g rfl (by show (3:Nat)<4;decide) (by decide) (bF μ1 _) (Th _) (bZ _ _) (fun o a=>?_) (fun y i a r q c=>?_) _ fun o a c n=>?_
 ·refine Ae fun Q=>?_
  simp only [Tc,Tf,qN (j:=0),aM,aK,aQ,aU,aE,Ah,jS,iZ]
  exact and_iff_right (by omega)
 ·have s:=uH hw
  have u:=uH e
  simp only [Tc,Tf,TM,T3,aV,aM,aK,fQ,aE,aF,i6,true_and]
  exact RI k j (aY c d) (by omega) (by omega) _ ⟨rfl,T9 _⟩
 ·simp only [Tc,Tf,bJ]
  refine zO ?_
  simp only [aQ,aM,aK,aE,aF]
  refine ⟨_,rfl,(Fs (by decide) n (by rw [Ag];omega) (Fu hw.2 g)).mpr (H _ (l.trans c))⟩
theorem uI {b:Type} [DecidableEq b]:∀ {l t:List b},l.Nodup->t.Nodup->(∀ x,x∈l↔x∈t)->l.Perm t
 | [],t,_,_,h=>by
  cases t with
  | nil=>exact .nil
  | cons y t=>exact absurd ((h y).mpr (Tt ..)) (by simp)
 | x::l,t,n1,n2,h=>by
  rw [Uy] at n1
  have c:x∈t:=(h x).mp (Tt ..)
  refine YW (List.Perm.cons x (uI n1.2 (n2.erase x) fun y=>?_)) (List.perm_cons_erase c).symm
  rw [n2.mem_erase_iff]
  constructor
  ·intro a
   exact ⟨fun e=>n1.1 (e ▸ a),(h y).mp (Tw _ a)⟩
  ·rintro ⟨e,a⟩
   rcases T5.mp ((h y).mpr a) with z|z
   ·exact absurd z e
   ·exact z
theorem RL:∀ w∈[(1:Int),2,3,4,5,6],∀ h∈[(1:Int),2,3,4,5,6],qR (((eD w h).filter qQ).map aX)=true:=by decide +kernel
theorem FE {w h:Int}(hw:1<=w/\w<=6)(a:1<=h/\h<=6):((aP w h "lufr").map aX).Pairwise fun x y=>HT.lexLt x y=true:=by
 rw [EZ]
 exact z7 (RL w (k8 hw) h (k8 a))
theorem RM {w h:Int}(hw:1<=w/\w<=6)(a:1<=h/\h<=6):(aP w h "lufr").Nodup:=by
 have:=FE hw a
 rw [Ur] at this
 exact this.imp fun {x y} h e=>by
  rw [e,kL] at h
  exact Uc h
theorem RN {w h:Int}(hw:1<=w/\w<=6)(a:1<=h/\h<=6){ps:List (Int×Int)}{m:Int×Int->Str}(M:Mk w h ps m):srt ps=(aP w h "lufr").filter fun e=>decide (e∈ps):=by
 have c:ps.Perm ((aP w h "lufr").filter fun e=>decide (e∈ps)):=by
  refine uI M.nd ((RM hw a).filter _) fun x=>?_
  rw [UN,decide_eq_true_iff]
  exact ⟨fun h=>⟨M.ed x h,h⟩,fun h=>h.2⟩
 rw [srt_eq.mpr c]
 refine Ft ?_
 have:=(FE hw a).sublist ((YK (p:=fun e=>decide (e∈ps)) (l:=aP w h "lufr")).map aX)
 exact this.imp fun b=>E7 b
theorem RO {w h:Int}{v:Int×Int->Str}{e:Int×Int}(d:e∈aP w h "lufr"):gG w h v e.1 e.2=v e:=by
 obtain ⟨c,a⟩:=qU d
 unfold gG
 have b:¬ (e.1 % 4 == 0&&e.2 % 4 == 0)=true:=fun z=>by
  rw [Ti,beq_iff_eq,beq_iff_eq] at z
  rw [kE,if_neg (by omega),z.1,z.2] at a
  simp at a
 rw [if_neg b,if_neg (by rw [a];decide),if_pos c]
theorem RP (k:Nat){w h:Int}(hw:1<=w/\w<=6){v:Int×Int->Str}(j:mR v){b:Hm}{a:Nat}(i:b[a]? = some (.lst ((cY w h v (4 * h+1).toNat).map D.str))){e:Int×Int}(d:e∈aP w h "lufr") (Q:D×Hm->Prop)(H:Q (.str (v e),b)):W (f (k+1) "sign_in" [.loc a,PP e] b) Q:=by
 obtain ⟨n,o⟩:=qU d
 rw [Qi,bL]
 simp only [bJ]
 refine RA ?_
 simp only [aU,aE,aF,aQ,PP,dU]
 have m:(cY w h v (4 * h+1).toNat)[e.2.toNat]? = some (T4 "" (eV w h v e.2)):=by
  unfold cY
  rw [TB,VH (by omega)]
  show some (T4 "" (eV w h v (0+(e.2.toNat:Int))))=_
  rw [show (0+(e.2.toNat:Int))=e.2 by omega]
 refine (gE i (jU (by omega) (by rw [TB,m];rfl))).mpr ?_
 refine ⟨_,rfl,?_⟩
 simp only [zK,aU,aE,aF,aQ,eM,iZ]
 have g:=qV (w:=w) (h:=h) j e.2
 have l:(eV w h v e.2)[e.1.toNat]? = some (v e):=by
  unfold eV
  rw [TB,VH (by omega)]
  show some (gG w h v (0+(e.1.toNat:Int)) e.2)=_
  rw [show (0+(e.1.toNat:Int))=e.1 by omega,RO d]
 have c:=Ru g l
 rw [show ((e.1.toNat:Nat):Int)=e.1 by omega] at c
 rw [c]
 refine ⟨?_,H⟩
 rw [uC g,uG,TY]
 omega
theorem RQ (k:Nat){m:Int×Int->Str}(ok:∀ p,jT (m p))(ps:List (Int×Int))(e:Int×Int)(a:Hm)(Q:D×Hm->Prop):W (f (k+1) "is_mark" [.str (vW m ps e)] a) Q↔Q (.bl (decide (e∈ps)),a):=by
 rw [ET,bL]
 simp only [bJ,gD,aV,aM,aK,aE,aQ,zJ,if_true,aU]
 have b:b9 false (.str (vW m ps e)) tT a=some (.bl (decide (e∈ps)),a):=by
  unfold vW
  by_cases h:e∈ps
  ·rw [if_pos h,decide_eq_true h]
   rcases ok e with z|z|z<;>rw [z]<;>rfl
  ·rw [if_neg h,decide_eq_false h]
   rfl
 rw [b,W_some]
theorem RS (k:Nat){w h:Int}(hw:1<=w/\w<=6)(j:1<=h/\h<=6){ps:List (Int×Int)}{m:Int×Int->Str}(M:Mk w h ps m){n:Hm}{a:Nat}(v:n[a]? = some (.lst ((cY w h (vW m ps) (4 * h+1).toNat).map D.str)))(Q:D×Hm->Prop)(H:∀ c,n <+: c->Q (.tup ((cQ m (srt ps)).map MD),c)) :
  W (f (k+3) "creases_in" [.loc a,.int w,.int h] n) Q:=by
 have x:=Af M.ok ps
 have I:=Ac (w:=w) (h:=h) hw.2 j.2 "lufr"
 rw [Qj,bL,aT,bR]
 refine gF (xs:=(aP w h "lufr").map PP) (p:=fun _=>true) (v:=fun d=>.tup [d,.str (vW m ps (b6 d))]) ?_
 simp only [dH,aV,aM,aK,aE,aF]
 refine QX k w h hw j _ _ fun b A r o G=>?_
 refine (dM o).mpr ⟨hZ o,rfl,by rw [S6,TY];omega,fun d c _ _=>w_mTrue.mpr ⟨rfl,T9 _⟩,fun d c hd _ l=>?_,fun B y i=>?_⟩
 ·obtain ⟨e,g,rfl⟩:=TQ.mp hd
  simp only [TM,T3,fQ,aM,aK,aV,aE,aF]
  exact RP (k+1) hw x (aY (r.trans l) v) g _ ⟨i6,rfl,T9 _⟩
 ·have s:(((aP w h "lufr").map PP).filter fun _=>true).map (fun d=>D.tup [d,.str (vW m ps (b6 d))])=(aP w h "lufr").map fun e=>MD (e,vW m ps e):=by
   rw [YL.mpr (fun _ _=>rfl),Ud]
   rfl
  rw [s] at i
  simp only [Tc,Tf,bJ,aV,aM,aK]
  refine gF (xs:=(aP w h "lufr").map fun e=>MD (e,vW m ps e)) (p:=fun d=>match d with|.tup [q,_]=>decide (b6 q∈ps)|_=>false) (v:=fun d=>d) ?_
  simp only [dH,aE,aF]
  refine (dM i).mpr ⟨hZ i,rfl,by rw [S6,TY];omega,fun d c hd l=>?_,fun d c hd _ l=>?_,fun E z p=>?_⟩
  ·obtain ⟨e,g,rfl⟩:=TQ.mp hd
   simp only [TM,T3,dG,aV,aM,aK,aU,aE,aF,aQ,MD,dU]
   rw [RQ (k+1) M.ok ps e,c5]
   exact ⟨rfl,T9 _⟩
  ·simp only [TM,T3,aE,aF]
   exact ⟨trivial,T9 _⟩
  ·have u:(((aP w h "lufr").map fun e=>MD (e,vW m ps e)).filter fun d=>match d with|.tup [q,_]=>decide (b6 q∈ps)|_=>false).map (fun d=>d)=(cQ m (srt ps)).map MD:=by
    rw [a0b,XE,RN hw j M]
    unfold cQ
    rw [Ud]
    refine UX fun e g=>?_
    have g:=(UN.mp g).2
    show MD (e,vW m ps e)=MD (e,m e)
    unfold vW
    rw [if_pos (of_decide_eq_true (show decide (e∈ps)=true from g))]
   rw [u] at p
   exact (PR p).mpr (H _ (r.trans (y.trans z)))
theorem RT {z:Str}(hz:z.length<=Tj){a:Hm}{Q:D×Hm->Prop}:W (cX [.str z] a) Q↔Q (.int z.length,a):=by
 have e:cX [.str z] a=some (.int z.length,a):=by
  show (if z.length<=Tj then some (D.int z.length,a) else none)=_
  rw [if_pos hz]
 rw [e]
 exact W_some
theorem RU {z:Str}{a:Hm}{Q:D×Hm->Prop}:W (a8 true (.str z) (.str z) a) Q↔Q (.bl false,a):=by
 have e:a8 true (.str z) (.str z) a=some (.bl (!(z == z)),a):=rfl
 rw [e,beq_self_eq_true]
 exact W_some
theorem Mk.srt {w h:Int}{ps:List (Int×Int)}{m:Int×Int->Str}(M:Mk w h ps m):Mk w h (srt ps) m:=M.perm (iC ps)
theorem FF (m:Int×Int->Str)(ps:List (Int×Int))(p:Int×Int):vW m (srt ps) p=vW m ps p:=by
 unfold vW
 by_cases h:p∈ps
 ·rw [if_pos h,if_pos ((iC ps).mem_iff.mpr h)]
 ·rw [if_neg h,if_neg fun z=>h ((iC ps).mem_iff.mp z)]
theorem RV (k:Nat){w h:Int}(hw:1<=w/\w<=6)(d:1<=h/\h<=6){ps:List (Int×Int)}{m:Int×Int->Str}(M:Mk w h ps m)(a:Hm)(Q:D×Hm->Prop)(H:∀ b,a <+: b->Q (SH w h (cQ m (srt ps)),b)) :
  W (f (k+4) "read_sheet" [.str (mQ w h (vW m ps))] a) Q:=by
 have g:=Af M.ok ps
 have e:=Ag w h (vW m ps) (4 * h+1).toNat
 have i:=Fu (w:=w) (h:=h) hw.2 g (n:=(4 * h+1).toNat)
 have s:=uH hw
 have u:=uH d
 rw [Qk,bL,aT]
 simp only [b8,gZ,dG,aV,aM,aK,aE,aF,aQ,zJ,c5,Ut,Te,if_false,b7]
 rw [aT,bR]
 refine zO ?_
 simp only [aE,aM,aK,aQ]
 refine ⟨_,rfl,?_⟩
 have hd:(mQ w h (vW m ps)).length<=650:=Rz (by decide) (by rw [e];omega) i
 have p:oB (.str (mQ w h (vW m ps))) [.str "\n"] a=some (.loc a.length,a++[.lst ((cY w h (vW m ps) (4 * h+1).toNat).map D.str)]):=by
  unfold oB
  dsimp only
  rw [if_pos ⟨rfl,by rw [TY];omega⟩]
  unfold mQ
  rw [Rw]
  ·intro z
   rw [z] at e
   have:(0:Nat)=(4 * h+1).toNat:=e
   omega
  ·intro r l
   unfold cY at l
   obtain ⟨j,_,rfl⟩:=TQ.mp l
   exact Ry (qV g _)
 rw [p,W_some]
 simp only [Tc,Tf]
 have c:=bZ a (C.lst ((cY w h (vW m ps) (4 * h+1).toNat).map D.str))
 have o:=bF a (C.lst ((cY w h (vW m ps) (4 * h+1).toNat).map D.str))
 generalize a++[C.lst ((cY w h (vW m ps) (4 * h+1).toNat).map D.str)]=μ1 at c o
 rw [aT]
 simp only [bR,aU,aV,aM,aK,aE,aF,aQ]
 have q:(cY w h (vW m ps) (4 * h+1).toNat)[0]? = some (T4 "" (eV w h (vW m ps) (0+((0:Nat):Int)))):=by
  unfold cY
  rw [TB,VH (by omega)]
  rfl
 refine (gE c (jU (by decide) (by rw [TB];show ((cY w h (vW m ps) (4 * h+1).toNat)[0]?).map D.str=_;rw [q];rfl))).mpr ?_
 have n:(T4 "" (eV w h (vW m ps) (0+((0:Nat):Int)))).length=(4 * w+1).toNat:=by rw [uC (qV g _),uG]
 rw [RT (by rw [n,TY];omega),n,s,zQ,show (4 * w+1) / 4=w by omega]
 simp only [Tc,Tf]
 rw [aT]
 simp only [bR,aU,aV,aM,aK,aE,aF,aQ]
 refine (oM c).mpr ?_
 rw [S6,e,u,zQ,show (4 * h+1) / 4=h by omega]
 simp only [Tc,Tf]
 rw [aT]
 simp only [b8,gZ,oI,dG,aV,aM,aK,aE,aF]
 refine t8 (k+1) hw _ _ ?_
 simp only [c5,if_true]
 refine t8 (k+1) d _ _ ?_
 simp only [c5,Ut,Te,if_false,b7]
 rw [aT]
 simp only [bR,fQ,aV,aM,aK,aE,aF]
 refine RS k hw d M c _ fun y v=>?_
 refine ⟨by show (3:Nat)<=Tj;decide,?_⟩
 simp only [Tc,Tf]
 rw [aT]
 simp only [b8,cA,aU,aV,aM,aK,aE,aF]
 refine FD k hw d M.ok M.srt.nd _ _ fun A x=>?_
 rw [Fv (FF m ps),RU]
 simp only [Te,if_false,b7,bJ,aE,aF]
 exact H _ (o.trans (v.trans x))
theorem RW {m:ME}{ρ:aH}{b:Hm}{a:Nat}{mk:Int×Int->Str}{ps:List (Int×Int)}(h:b[a]? = some (.dT (aZ (bY mk) ps)))(c:∀ Q:D×Hm->Prop,W (m ρ b) Q↔Q (.loc a,b)){Q:D×Hm->Prop}:W (kR m ρ b) Q↔Q (.tup ((cQ mk (srt ps)).map MD),b):=by
 have e:oA (.loc a) b=some (.tup ((cQ mk (srt ps)).map MD),b):=by
  simp only [oA,h]
  rw [if_pos trivial,z8,Aa]
  unfold aZ
  rw [Ud]
  rfl
 unfold kR
 rw [W_bind,c]
 dsimp only
 rw [e]
 exact W_some
noncomputable def gH (x y:Int):List (Int×Int):=[(x - 1,y),(x,y - 1),(x,y+1),(x+1,y)]
noncomputable def cE (x y:Int)(s:Str):List (Int×Int):=(gH x y).filter fun p=>bO (bD p.1 p.2) s
theorem RX (x y:Int):bO (bD x y) "q" = true↔(x % 2=1/\y % 4=2)\/(x % 4=2/\y % 2=1):=by
 rw [zT,kQ]
 by_cases h:x % 2=1
 ·rw [if_pos h,beq_iff_eq];omega
 ·rw [if_neg h,Ti,beq_iff_eq,beq_iff_eq];omega
noncomputable def i7 (w h:Int)(e:Int×Int):Prop:=(0<e.1/\e.1<4 * w)/\0<e.2/\e.2<4 * h
noncomputable def eW (q e:Int×Int):Int×Int:=if e.1 % 2=1 then (if e.1 % 4=e.2 % 4 then (q.2+(e.1 - e.2),q.1 - (e.1 - e.2)) else (e.1+e.2 - q.2,e.1+e.2 - q.1)) else if e.2 % 4=0 then (q.1,2 * e.2 - q.2) else (2 * e.1 - q.1,q.2)
theorem mem_near {p e:Int×Int}{s:Str}:e∈cE p.1 p.2 s↔(e=(p.1 - 1,p.2)\/e=(p.1,p.2 - 1)\/e=(p.1,p.2+1)\/e=(p.1+1,p.2))/\bO (bD e.1 e.2) s=true:=by
 unfold cE gH
 rw [UN]
 simp only [T5,List.not_mem_nil,or_false]
theorem pr_eq {p:Int×Int}{a b:Int}:p=(a,b)↔p.1=a/\p.2=b:=by
 obtain ⟨x,y⟩:=p
 simp
theorem FG {p e:Int×Int}(h:e=(p.1 - 1,p.2)\/e=(p.1,p.2 - 1)\/e=(p.1,p.2+1)\/e=(p.1+1,p.2)):p=(e.1 - 1,e.2)\/p=(e.1,e.2 - 1)\/p=(e.1,e.2+1)\/p=(e.1+1,e.2):=by
 rcases h with rfl|rfl|rfl|rfl
 ·exact .inr (.inr (.inr (pr_eq.mpr ⟨(XY ..).symm,rfl⟩)))
 ·exact .inr (.inr (.inl (pr_eq.mpr ⟨rfl,(XY ..).symm⟩)))
 ·exact .inr (.inl (pr_eq.mpr ⟨rfl,(a1v ..).symm⟩))
 ·exact .inl (pr_eq.mpr ⟨(a1v ..).symm,rfl⟩)
theorem bes_sym {p e:Int×Int}:(e=(p.1 - 1,p.2)\/e=(p.1,p.2 - 1)\/e=(p.1,p.2+1)\/e=(p.1+1,p.2))↔(p=(e.1 - 1,e.2)\/p=(e.1,e.2 - 1)\/p=(e.1,e.2+1)\/p=(e.1+1,e.2)):=⟨FG,FG⟩
noncomputable def jV (r c:Int)(s:Str):List (Int×Int):=[((-1:Int),(0:Int)),(0,-1),(0,1),(1,0)].filter fun d=>bO (eS ((r+d.1) % 4) ((c+d.2) % 4)) s
theorem Aj (x y:Int)(s:Str):cE x y s=(jV (x % 4) (y % 4) s).map fun d=>(x+d.1,y+d.2):=by
 have e:gH x y=[((-1:Int),(0:Int)),(0,-1),(0,1),(1,0)].map fun d=>(x+d.1,y+d.2):=by
  simp only [gH,Tr,Ym,Xa]
  rfl
 unfold cE jV
 rw [e,XE]
 congr 1
 refine W0 fun d _=>?_
 show bO (eS ((x+d.1) % 4) ((y+d.2) % 4)) s=_
 rw [Wm,Wm]
noncomputable def mS (r c:Int)(d:Int×Int):Int×Int:=if (r+d.1) % 4 % 2=1 then (if (r+d.1) % 4=(c+d.2) % 4 then (d.1 - d.2,d.2 - d.1) else (d.1+d.2,d.1+d.2)) else if (c+d.2) % 4=0 then (0,2 * d.2) else (2 * d.1,0)
theorem RY (x y:Int)(d:Int×Int):eW (x,y) (x+d.1,y+d.2)=(x+(mS (x % 4) (y % 4) d).1,y+(mS (x % 4) (y % 4) d).2):=by
 unfold eW mS
 dsimp only
 rw [Wm,Wm,<- mO]
 have a:y+(x+d.1 - (y+d.2))=x+(d.1 - d.2):=by omega
 have b:x - (x+d.1 - (y+d.2))=y+(d.2 - d.1):=by omega
 have c:x+d.1+(y+d.2) - y=x+(d.1+d.2):=by omega
 have e:x+d.1+(y+d.2) - x=y+(d.1+d.2):=by omega
 have g:2 * (y+d.2) - y=y+2 * d.2:=by omega
 have h:2 * (x+d.1) - x=x+2 * d.1:=by omega
 rw [a,b,c,e,g,h]
 split
 ·split<;>rfl
 ·split
  ·rw [Xa]
  ·rw [Xa]
theorem RZ:∀ r∈[(0:Int),1,2,3],∀ c∈[(0:Int),1,2,3],bO (eS r c) "q" = true->∀ d∈jV r c "lufr",((jV ((r+d.1) % 4) ((c+d.2) % 4) "q").all fun b=>decide ((d.1+b.1,d.2+b.2)=(0,0))||decide ((d.1+b.1,d.2+b.2)=mS r c d))=true /\
  (jV ((r+d.1) % 4) ((c+d.2) % 4) "q").contains (-d.1,-d.2)=true/\(jV ((r+d.1) % 4) ((c+d.2) % 4) "q").contains ((mS r c d).1 - d.1,(mS r c d).2 - d.2)=true:=by decide +kernel
theorem uJ (x:Int):x % 4∈[(0:Int),1,2,3]:=by
 rcases oO x with h|h|h|h<;>rw [h]<;>decide
theorem FH {q e:Int×Int}(j:bO (bD q.1 q.2) "q" = true) (h:e∈cE q.1 q.2 "lufr") {p:Int×Int}:p∈cE e.1 e.2 "q"↔p=q\/p=eW q e:=by
 obtain ⟨x,y⟩:=q
 rw [Aj] at h
 obtain ⟨d,hd,rfl⟩:=TQ.mp h
 obtain ⟨a,g,c⟩:=RZ _ (uJ x) _ (uJ y) j d hd
 dsimp only
 rw [RY,Aj,TQ,<- Wm x 4,<- Wm y 4]
 generalize mS (x % 4) (y % 4) d=o at a c
 generalize jV ((x % 4+d.1) % 4) ((y % 4+d.2) % 4) "q" = L at a g c
 constructor
 ·rintro ⟨b,i,rfl⟩
  have:=Ww.mp a b i
  rw [WH,decide_eq_true_iff,decide_eq_true_iff] at this
  rcases this with z|z
  ·injection z with z1 z2
   left
   rw [We,We,z1,z2,Xa,Xa]
  ·right
   rw [We,We,<- z]
 ·rintro (rfl|rfl)
  ·refine ⟨_,a0o.mp g,?_⟩
   rw [We,We,a1I,a1I,Xa,Xa]
  ·refine ⟨_,a0o.mp c,?_⟩
   rw [We,We,a2N d.1,a2N d.2,XY,XY]
theorem R0 {w h:Int}{p:Int×Int}:p∈eD w h↔i7 w h p:=by
 refine ⟨Fe,fun ⟨a,b⟩=>?_⟩
 unfold eD eU fF
 refine Xh.mpr ⟨(p.1 - 1).toNat,Ul.mpr (by omega),TQ.mpr ⟨(p.2 - 1).toNat,Ul.mpr (by omega),?_⟩⟩
 obtain ⟨x,y⟩:=p
 dsimp only at a b ⊢
 rw [Prod.mk.injEq]
 omega
theorem mem_partI {w h:Int}{s:Str}{p:Int×Int}:p∈aP w h s↔i7 w h p/\bO (bD p.1 p.2) s=true:=by
 unfold aP
 rw [UN,R0]
section
variable (w h:Int)(ps:List (Int×Int))
noncomputable def St (p q:Int×Int):Prop:=∃ e,e∈cE p.1 p.2 "lufr"/\i7 w h e/\e∉ps/\q∈cE e.1 e.2 "q"
inductive Rc (s:Int×Int):Int×Int->Prop
 | refl:Rc s s
 | step {p q:Int×Int}:Rc s p->St w h ps p q->Rc s q
end
section
variable {w h:Int}{ps:List (Int×Int)}{s p q r:Int×Int}
theorem R6 {x y:Int}(c:bO (bD x y) "q" = true):x % 4≠0/\y % 4≠0:=by
 rcases (RX x y).mp c with ⟨a,b⟩|⟨a,b⟩
 ·exact ⟨fun z=>by rw [mO,z] at a;exact absurd a (by decide),fun z=>by rw [z] at b;exact absurd b (by decide)⟩
 ·exact ⟨fun z=>by rw [z] at a;exact absurd a (by decide),fun z=>by rw [mO,z] at b;exact absurd b (by decide)⟩
theorem uK {u v w:Int}(h:0<u/\u<4 * w)(a:v % 4≠0)(e:v=u - 1\/v=u\/v=u+1):0<v/\v<4 * w:=by
 rcases e with rfl|rfl|rfl
 ·omega
 ·exact h
 ·omega
theorem St.in (a:St w h ps p q):q∈aP w h "q":=by
 obtain ⟨e,_,⟨b,c⟩,_,d⟩:=a
 rw [mem_near] at d
 rw [mem_partI]
 refine ⟨?_,d.2⟩
 have g:=R6 d.2
 rcases d.1 with rfl|rfl|rfl|rfl
 ·exact ⟨uK b g.1 (.inl rfl),c⟩
 ·exact ⟨b,uK c g.2 (.inl rfl)⟩
 ·exact ⟨b,uK c g.2 (.inr (.inr rfl))⟩
 ·exact ⟨uK b g.1 (.inr (.inr rfl)),c⟩
theorem St.symm (i:p∈aP w h "q") (a:St w h ps p q):St w h ps q p:=by
 obtain ⟨e,b,d,g,c⟩:=a
 rw [mem_near] at b c
 refine ⟨e,mem_near.mpr ⟨bes_sym.mp c.1,b.2⟩,d,g,mem_near.mpr ⟨bes_sym.mp b.1,(mem_partI.mp i).2⟩⟩
theorem Rc.trans (a:Rc w h ps s p)(b:Rc w h ps p q):Rc w h ps s q:=by
 induction b with
 | refl=>exact a
 | step _ c d=>exact d.step c
theorem Rc.in (b:s∈aP w h "q") (a:Rc w h ps s p):p∈aP w h "q":=by
 cases a with
 | refl=>exact b
 | step _ c=>exact c.in
theorem Rc.symm (b:s∈aP w h "q") (a:Rc w h ps s p):Rc w h ps p s:=by
 induction a with
 | refl=>exact .refl
 | step a c d=>exact (Rc.step .refl (c.symm (a.in b))).trans d
theorem R8 {F:List (Int×Int)}(b:s∈F)(hc:∀ x∈F,∀ y,St w h ps x y->y∈F)(a:Rc w h ps s p):p∈F:=by
 induction a with
 | refl=>exact b
 | step _ c d=>exact hc _ d _ c
theorem FI:∀ w∈[(1:Int),2,3,4,5,6],∀ h∈[(1:Int),2,3,4,5,6],qR (((eD w h).filter t6).map aX)=true/\((eD w h).filter t6).length<=144:=by decide +kernel
theorem uL (hw:1<=w/\w<=6)(a:1<=h/\h<=6):((aP w h "q").map aX).Pairwise fun x y=>HT.lexLt x y=true:=by
 rw [EY]
 exact z7 (FI w (k8 hw) h (k8 a)).1
theorem k9 (hw:1<=w/\w<=6)(a:1<=h/\h<=6):(aP w h "q").length<=144:=by
 rw [EY]
 exact (FI w (k8 hw) h (k8 a)).2
theorem uM {l:List (Int×Int)}(u:(l.map aX).Pairwise fun x y=>HT.lexLt x y=true):l.Nodup:=by
 rw [Ur] at u
 exact u.imp fun {x y} h e=>by
  rw [e,kL] at h
  exact Uc h
theorem uN {l:List (Int×Int)}(u:(l.map aX).Pairwise fun x y=>HT.lexLt x y=true):srt l=l:=Ft (u.imp fun h1=>E7 h1)
theorem Ak (hw:1<=w/\w<=6)(a:1<=h/\h<=6):(aP w h "q").Nodup:=uM (uL hw a)
noncomputable def lA (w h:Int)(ps:List (Int×Int))(s p:Int×Int):Bool:=@decide (Rc w h ps s p) (Zq _)
theorem rcB_iff:lA w h ps s p=true↔Rc w h ps s p:=by
 unfold lA
 exact @decide_eq_true_iff _ (Zq _)
noncomputable def bA (w h:Int)(ps:List (Int×Int))(s:Int×Int):List (Int×Int):=(aP w h "q").filter (lA w h ps s)
theorem iE (a:s∈aP w h "q"):p∈bA w h ps s↔Rc w h ps s p:=by
 unfold bA
 rw [UN,rcB_iff]
 exact ⟨fun h=>h.2,fun h=>⟨h.in a,h⟩⟩
theorem uO (hw:1<=w/\w<=6)(a:1<=h/\h<=6)(s:Int×Int):((bA w h ps s).map aX).Pairwise fun x y=>HT.lexLt x y=true:=
 (uL hw a).sublist (YK.map aX)
theorem FJ (hw:1<=w/\w<=6)(a:1<=h/\h<=6)(s:Int×Int):(bA w h ps s).length<=144:=T8 (Um _ _) (k9 hw a)
theorem Sa (hw:1<=w/\w<=6)(c:1<=h/\h<=6)(d:s∈aP w h "q") {F:List (Int×Int)}(e:F.Nodup)(b:∀ x∈F,Rc w h ps s x)(a:s∈F)(hc:∀ x∈F,∀ y,St w h ps x y->y∈F):F.Perm (bA w h ps s):=
 uI e (uM (uO hw c s)) fun x=>by
  rw [iE d]
  exact ⟨b x,R8 a hc⟩
theorem Sb (hw:1<=w/\w<=6)(a:1<=h/\h<=6){F:List (Int×Int)}(p:F.Perm (bA w h ps s)):srt F=bA w h ps s:=by
 rw [srt_eq.mpr p,uN (uO hw a s)]
theorem Al (c:s∈aP w h "q") (a:Rc w h ps s p):bA w h ps p=bA w h ps s:=by
 unfold bA
 refine W0 fun x _=>?_
 rw [a1V,rcB_iff,rcB_iff]
 exact ⟨fun b=>a.trans b,fun b=>(a.symm c).trans b⟩
theorem Am (a:s∈aP w h "q"):s∈bA w h ps s:=(iE a).mpr .refl
noncomputable def fG (w h:Int)(ps:List (Int×Int))(s:Int×Int):Bool:=(bA w h ps s).head? == some s
noncomputable def dZ (w h:Int)(ps:List (Int×Int))(n:Nat):List (Int×Int):=((aP w h "q").take n).filter (fG w h ps)
theorem FK (hw:1<=w/\w<=6)(n:1<=h/\h<=6){i:Nat}(c:(aP w h "q")[i]? = some s):fG w h ps s=true↔∀ p∈(aP w h "q").take i,¬ Rc w h ps p s:=by
 have x:s∈aP w h "q":=Ts c
 obtain ⟨o,m⟩:=S2.mp c
 have A:bA w h ps s=((aP w h "q").take i).filter (lA w h ps s)++s::((aP w h "q").drop (i+1)).filter (lA w h ps s):=by
  unfold bA
  conv=>lhs;rw [<- Ue i (aP w h "q"),U7 o,m]
  rw [WM,Wv,if_pos (rcB_iff.mpr .refl)]
 unfold fG
 rw [beq_iff_eq,A]
 constructor
 ·intro e p g a
  have d:p∈aP w h "q":=Vx g
  have:p∈((aP w h "q").take i).filter (lA w h ps s):=UN.mpr ⟨g,rcB_iff.mpr (a.symm d)⟩
  cases b:((aP w h "q").take i).filter (lA w h ps s) with
  | nil=>rw [b] at this;cases this
  | cons y B=>
   rw [b,TM,List.head?_cons] at e
   have l:y=s:=TZ e
   have j:y∈(aP w h "q").take i:=(UN.mp (by rw [b];exact Tt ..)).1
   rw [l] at j
   exact t7 (Ak hw n) c j
 ·intro u
  have:((aP w h "q").take i).filter (lA w h ps s)=[]:=by
   rw [a0d]
   intro q v z
   exact u q v ((rcB_iff.mp z).symm x)
  rw [this,T3]
  rfl
theorem FL {i:Nat}(a:(aP w h "q")[i]? = some s):dZ w h ps (i+1)=dZ w h ps i++(if fG w h ps s=true then [s] else []):=by
 unfold dZ
 rw [iB a,WM,Wv]
 rfl
end
noncomputable def Mz (F U:List (Int×Int)):Nat:=2 * (144 - F.length)+U.length
structure Go (w h:Int)(ps:List (Int×Int))(s:Int×Int)(F U X:List (Int×Int)):Prop where
 nd:F.Nodup
 s0:s∈F
 rc:∀ x∈F,Rc w h ps s x
 sub:∀ x∈U,x∈F
 cl:∀ x∈F,x∉U->x∉X->∀ y,St w h ps x y->y∈F
section
variable {w h:Int}{ps:List (Int×Int)}{s y z:Int×Int}{F U X:List (Int×Int)}
theorem Go.start:Go w h ps s [s] [s] []:=⟨by simp,by simp,fun x a=>by rw [TN.mp a];exact .refl,fun x a=>a,fun x a b=>absurd a b⟩
theorem Go.len (G:Go w h ps s F U X)(hw:1<=w/\w<=6)(a:1<=h/\h<=6)(b:s∈aP w h "q"):F.length<=144:=
 T8 (qT G.nd fun x c=>(G.rc x c).in b) (k9 hw a)
theorem Go.push (G:Go w h ps s F U X)(m:y∉F)(n:Rc w h ps s y):Go w h ps s (F++[y]) (U++[y]) X:=by
 refine ⟨Wi.mpr ⟨G.nd,by simp,fun a j b g e=>?_⟩,by simp [G.s0],fun x c=>?_,fun x c=>?_,fun x c d i t l=>?_⟩
 ·rw [TN] at g
  exact m (by rw [<- g,<- e];exact j)
 ·rcases TU.mp c with c|c
  ·exact G.rc x c
  ·rw [TN.mp c];exact n
 ·rcases TU.mp c with c|c
  ·exact UH _ (G.sub x c)
  ·exact Uu _ c
 ·rw [TU,not_or] at d
  rcases TU.mp c with c|c
  ·exact UH _ (G.cl x c d.1 i t l)
  ·exact absurd c d.2
theorem Go.less (G:Go w h ps s F U X)(hw:1<=w/\w<=6)(a:1<=h/\h<=6)(b:s∈aP w h "q") (c:y∉F)(d:Rc w h ps s y):Mz (F++[y]) (U++[y])<=Mz F U:=by
 have:=(G.push c d).len hw a b
 unfold Mz
 simp only [Td,TF,Vh] at this ⊢
 omega
theorem Go.pop (G:Go w h ps s F (U++[z]) []):Go w h ps s F U [z]/\z∈F:=
 ⟨⟨G.nd,G.s0,G.rc,fun x a=>G.sub x (UH _ a),fun x a c b=>G.cl x a (fun m=>(TU.mp m).elim c b) (by simp)⟩,G.sub z (by simp)⟩
theorem Go.done (G:Go w h ps s F U [z])(hz:∀ t,St w h ps z t->t∈F):Go w h ps s F U []:=
 ⟨G.nd,G.s0,G.rc,G.sub,fun x c b _ t a=>by
  by_cases e:x=z
  ·rw [e] at a;exact hz t a
  ·exact G.cl x c b (fun m=>e (TN.mp m)) t a⟩
theorem Go.fin (G:Go w h ps s F [] [])(hw:1<=w/\w<=6)(a:1<=h/\h<=6)(b:s∈aP w h "q"):F.Perm (bA w h ps s):=
 Sa hw a b G.nd G.rc G.s0 fun x c=>G.cl x c (by simp) (by simp)
structure Hd (μ0 μ:Hm)(a b:Nat)(F U:List (Int×Int)):Prop where
 pre:μ0 <+: μ
 la:μ0.length<=a
 lb:μ0.length<=b
 ne:a≠b
 dic:μ[a]? = some (.dT (aZ (fun _=>.bl true) F))
 due:μ[b]? = some (.lst (U.map PP))
theorem Hd.more {μ0 d c:Hm}{a b:Nat}(I:Hd μ0 d a b F U)(p:d <+: c):Hd μ0 c a b F U:=⟨I.pre.trans p,I.la,I.lb,I.ne,aY p I.dic,aY p I.due⟩
theorem eE {b:Hm}{a n:Nat}(h:n≠a)(c:C):(b.set a c)[n]? = b[n]?:=UI (U6 h)
theorem qW {b:Hm}{a:Nat}{v:Int×Int->D}{F:List (Int×Int)}(d:F.Nodup)(c:b[a]? = some (.dT (aZ v F)))(y:Int×Int){Q:D×Hm->Prop}:W (b9 true (PP y) (.loc a) b) Q↔Q (.bl (!decide (y∈F)),b):=by
 rw [zN c (fR y)]
 by_cases h:y∈F
 ·rw [oS d h,decide_eq_true h];rfl
 ·rw [oT h,decide_eq_false h];rfl
theorem FN {i ia ib:Nat}{ρ:aH}{μ0 e:Hm}{a b:Nat}(g:ρ[i]? = some (some (PP y)))(j:ρ[ia]? = some (some (.loc a)))(q:ρ[ib]? = some (some (.loc b)))(I:Hd μ0 e a b F U)(r:F.Nodup)(u:F.length<=144)(hd:U.length<=300)(Q:Fl×aH×Hm->Prop)
  (l:y∈F->Q (.nx,ρ,e))(m:y∉F->∀ d,Hd μ0 d a b (F++[y]) (U++[y])->(∀ n,n≠a->n≠b->d[n]? = e[n]?)->Q (.nx,ρ,d)) :
  W (bH (aW (aB (b9 true) (aA i) (aA ia))) (aL (dX (aA ia) (aA i) (mC (.bl true))) (d9 (dF fN (aA ib) (aC (aA i) aD)))) bG ρ e) Q:=by
 simp only [b8,cA,aU]
 rw [mP g,mP j,qW r I.dic]
 dsimp only
 by_cases h:y∈F
 ·rw [decide_eq_true h,if_neg (by decide),b7]
  exact l h
 ·rw [decide_eq_false h,V5,if_pos rfl,aT]
  simp only [oN,aQ]
  rw [mP j,mP g]
  refine (qO I.dic (fR y) (by rw [S6,TY];omega)).mpr ?_
  rw [qS (v:=fun _=>.bl true) h]
  rw [mM]
  refine kY ?_
  rw [mP q]
  have c:(e.set a (.dT (aZ (fun _=>D.bl true) (F++[y]))))[b]? = some (.lst (U.map PP)):=by rw [eE (U6 I.ne)];exact I.due
  refine ⟨kZ c,?_⟩
  simp only [aM,aK]
  rw [mP g]
  refine (tR c (by rw [S6,TY];omega)).mpr ?_
  refine m h _ ⟨fP (fP I.pre I.la _) I.lb _,I.la,I.lb,I.ne,?_,?_⟩ fun n o p=>by rw [eE p,eE o]
  ·rw [eE I.ne,iA I.dic]
  ·rw [iA c,UW];rfl
end
theorem Se (k:Nat)(p:Int×Int)(a:Hm)(Q:D×Hm->Prop):W (f (k+1) "beside" [PP p] a) Q↔Q (.loc a.length,a++[.lst ((gH p.1 p.2).map PP)]):=by
 have e:f (k+1) "beside" [PP p] a=some (.loc a.length,a++[.lst ((gH p.1 p.2).map PP)]):=by
  rw [P2]
  rfl
 rw [e]
 exact W_some
theorem Sf (k:Nat)(p:Int×Int)(c:Hm)(Q:D×Hm->Prop)(H:∀ a b,c <+: b->b[a]? = some (.lst ((cE p.1 p.2 "lufr").map PP))->Q (.loc a,b)):W (f (k+2) "edges_of" [PP p] c) Q:=by
 rw [P4,bL]
 simp only [bJ]
 have g:(c++[C.lst ((gH p.1 p.2).map PP)])[c.length]? = some (.lst ((gH p.1 p.2).map PP)):=bZ _ _
 refine gF (xs:=(gH p.1 p.2).map PP) (p:=fun d=>bO (bD (b6 d).1 (b6 d).2) "lufr") (v:=fun d=>d) ?_
 simp only [dH,aV,aM,aK,aE,Se]
 refine (dM g).mpr ?_
 refine ⟨hZ g,by rfl,by show (4:Nat)<=Tj;decide,?_,?_,?_⟩
 ·intro d b hd e
  obtain ⟨u,v,rfl⟩:=oP hd
  simp only [TM,T3,dG,aV,aM,aK,aE,aF,tZ,c5]
  exact ⟨rfl,T9 _⟩
 ·intro d b hd _ e
  simp only [TM,T3,aE,aF]
  exact ⟨trivial,T9 _⟩
 ·intro b e h
  refine H _ _ ((bF _ _).trans e) ?_
  rw [h,zS fun p=>bO (bD p.1 p.2) "lufr"]
  rfl
theorem Sg (k:Nat)(e:Int×Int)(c:Hm):(e.1 % 2=1->e.1 % 4=e.2 % 4->f (k+1) "line_of" [PP e] c=some (.str "falling",c))/\(e.1 % 2=1->e.1 % 4≠e.2 % 4->f (k+1) "line_of" [PP e] c=some (.str "rising",c))/\(e.1 % 2≠1->e.2 % 4=0->f (k+1) "line_of" [PP e] c=some (.str "level",c))/\(e.1 % 2≠1->e.2 % 4≠0->f (k+1) "line_of" [PP e] c=some (.str "upright",c)):=by
 have d:∀ (Q:D×Hm->Prop),W (f (k+1) "line_of" [PP e] c) Q↔Q (.str (if e.1 % 2=1 then (if e.1 % 4=e.2 % 4 then "falling" else "rising") else if e.2 % 4=0 then "level" else "upright"),c):=fun Q=>by
  rw [ES,bL]
  simp only [aT,b8,cA,aU,aE,aQ,PP,P,eM,dU,qP,k5,i5,beq_iff_eq]
  by_cases b:e.1 % 2=1
  ·simp only [b,if_true,bJ,tI,cA,aU,aE,aQ,eM,dU,k5,i5,beq_iff_eq]
   by_cases a:e.1 % 4=e.2 % 4
   ·simp only [if_pos a,aQ]
   ·simp only [if_neg a,aQ]
  ·simp only [if_neg b,b7,bJ,tI,cA,aU,aE,aQ,dU,k5,i5,beq_iff_eq]
   by_cases a:e.2 % 4=0
   ·simp only [if_pos a,aQ]
   ·simp only [if_neg a,aQ]
 have:=Ae d
 refine ⟨fun b a=>?_,fun b a=>?_,fun b a=>?_,fun b a=>?_⟩
 ·rw [this,if_pos b,if_pos a]
 ·rw [this,if_pos b,if_neg a]
 ·rw [this,if_neg b,if_pos a]
 ·rw [this,if_neg b,if_neg a]
noncomputable def qX:MS:=aL (bH (aW (aB (a8 false) (aA 4) (mC (.str "level")))) (aS (cC (aC (aA 2) (aC (aB c7 (aB cF (mC (.int 2)) (aA 5)) (aA 3)) aD)))) bG) (aL (bH (aW (aB (a8 false) (aA 4) (mC (.str "upright")))) (aS (cC (aC (aB c7 (aB cF (mC (.int 2)) (aA 5)) (aA 2)) (aC (aA 3) aD)))) bG) (aL (bH (aW (aB (a8 false) (aA 4) (mC (.str "falling")))) (aS (cC (aC (aB cM (aA 3) (aA 5)) (aC (aB c7 (aA 2) (aA 5)) aD)))) bG) (aS (cC (aC (aB c7 (aA 5) (aA 3)) (aC (aB c7 (aA 5) (aA 2)) aD))))))
theorem uP (k:Nat)(q e:Int×Int)(a:Hm){b:Str}{n:Int}{r:Int×Int}(h1:f (k+1) "line_of" [PP e] a=some (.str b,a)) (c:f (k+1) "number_by" [.str b,PP e] a=some (.int n,a)) (d:∀ Q:D×Hm->Prop,W (fin (qX [some (PP q),some (PP e),some (.int q.1),some (.int q.2),some (.str b),some (.int n)] a)) Q↔Q (PP r,a))(Q:D×Hm->Prop)(H:Q (PP r,a)):W (f (k+2) "mirrored" [PP q,PP e] a) Q:=by
 rw [P5]
 exact uE (uF rfl) (uE (uF rfl) (uE (uF h1) (uE (uF c) ((d Q).mpr H))))
theorem Sh (k:Nat)(q e:Int×Int)(a:Hm)(Q:D×Hm->Prop)(H:Q (PP (eW q e),a)):W (f (k+2) "mirrored" [PP q,PP e] a) Q:=by
 obtain ⟨d,g,h,i⟩:=Sg k e a
 unfold eW at H
 have j:∀ z:Int,cF (.int 2) (.int z) a=some (.int (2 * z),a):=fun z=>Ae fun Q=>zP
 by_cases c:e.1 % 2=1
 ·rw [if_pos c] at H
  by_cases b:e.1 % 4=e.2 % 4
  ·rw [if_pos b] at H
   exact uP k q e a (n:=e.1 - e.2) (d c b) (by rw [tU];rfl) (fun Q=>by rw [show qX [some (PP q),some (PP e),some (.int q.1),some (.int q.2),some (.str "falling"),some (.int (e.1 - e.2))] a=some (.rt (PP (q.2+(e.1 - e.2),q.1 - (e.1 - e.2))),[some (PP q),some (PP e),some (.int q.1),some (.int q.2),some (.str "falling"),some (.int (e.1 - e.2))],a) from by kernel_rfl];exact W_some) Q H
  ·rw [if_neg b] at H
   exact uP k q e a (n:=e.1+e.2) (g c b) (by rw [tU];rfl) (fun Q=>by rw [show qX [some (PP q),some (PP e),some (.int q.1),some (.int q.2),some (.str "rising"),some (.int (e.1+e.2))] a=some (.rt (PP (e.1+e.2 - q.2,e.1+e.2 - q.1)),[some (PP q),some (PP e),some (.int q.1),some (.int q.2),some (.str "rising"),some (.int (e.1+e.2))],a) from by kernel_rfl];exact W_some) Q H
 ·rw [if_neg c] at H
  by_cases b:e.2 % 4=0
  ·rw [if_pos b] at H
   exact uP k q e a (n:=e.2) (h c b) (by rw [tU];rfl) (fun Q=>by
    unfold qX
    simp only [bL,aT,b8,cA,aU,aE,aF,aQ,EG,beq_self_eq_true,if_true,bJ,fQ,aM,aK,zP,tK,i6,true_and]) Q H
  ·rw [if_neg b] at H
   exact uP k q e a (n:=e.1) (i c b) (by rw [tU];rfl) (fun Q=>by
    unfold qX
    simp only [bL,aT,b8,cA,aU,aE,aF,aQ,EG,show (("upright":Str) == "level")=false by decide +kernel,Te,if_false,b7,beq_self_eq_true,if_true,bJ,fQ,aM,aK,zP,tK,i6,true_and]) Q H
noncomputable def mT (w h:Int)(q:Int×Int):List (Int×Int):=(cE q.1 q.2 "lufr").filter fun e=>decide ((0<e.1/\e.1<4 * w)/\0<e.2/\e.2<4 * h)
noncomputable def NB (q e:Int×Int):D:=.tup [PP e,PP (eW q e)]
theorem Si (x y:Int)(s:Str):(cE x y s).length<=4:=Um _ _
theorem Sj (k:Nat)(w h:Int)(q:Int×Int)(g:Hm)(Q:D×Hm->Prop)(H:∀ a c,g <+: c->g.length<=a->c[a]? = some (.lst ((mT w h q).map (NB q)))->Q (.loc a,c)):W (f (k+3) "neighbours_in" [.int w,.int h,PP q] g) Q:=by
 rw [Qc,bL]
 simp only [bJ]
 refine gF (xs:=(cE q.1 q.2 "lufr").map PP) (p:=fun d=>decide ((0<(b6 d).1/\(b6 d).1<4 * w)/\0<(b6 d).2/\(b6 d).2<4 * h)) (v:=fun d=>NB q (b6 d)) ?_
 simp only [dH,aV,aM,aK,aE,aF]
 refine Sf k q _ _ fun b m j i=>?_
 refine (dM i).mpr ⟨hZ i,rfl,by rw [S6,TY];have:=Si q.1 q.2 "lufr";omega,?_,?_,?_⟩
 ·intro d c hd e
  obtain ⟨u,v,rfl⟩:=oP hd
  simp only [TM,T3,dG,aV,aM,aK,aE,aF,Fw,c5]
  exact ⟨rfl,T9 _⟩
 ·intro d c hd _ e
  obtain ⟨u,v,rfl⟩:=oP hd
  simp only [TM,T3,fQ,aV,aM,aK,aE,aF]
  exact Sh (k+0) q (u,v) _ _ ⟨i6,rfl,T9 _⟩
 ·intro c e l
  refine H _ _ (j.trans e) (kX j) ?_
  rw [l]
  unfold mT
  rw [XE,Ud]
  rfl
theorem Sk {b:Hm}{a:Nat}{xs:List D}{Q:Bool->Prop}(h:b[a]? = some (.lst xs)):W (kI b (.loc a)) Q↔Q (!xs.isEmpty):=by
 simp only [kI,h]
 exact W_some
theorem FP {b:Hm}{a:Nat}{xs:List D}{y:D}{Q:D×Hm->Prop}(h:b[a]? = some (.lst (xs++[y]))):W (kH (.loc a) [] b) Q↔Q (y,b.set a (.lst xs)):=by
 have:kH (.loc a) [] b=some (y,b.set a (.lst xs)):=by
  simp only [kH,h]
  simp
 rw [this]
 exact W_some
theorem FQ {i:Nat}{y:D}{ρ:aH}{a:Hm}{x:D}{k:List Int}{Q:D×Hm->Prop}(h:ρ[i]? = some (some x))(b:dA x=some k):W (mE (aA i) (mC y) ρ a) Q↔Q (.loc a.length,a++[.dT [(k,y)]]):=by
 have:mE (aA i) (mC y) ρ a=some (.loc a.length,a++[.dT [(k,y)]]):=by
  unfold mE aA mC
  simp only [h,T6,bZ,b,Uj,Q2]
 rw [this]
 exact W_some
theorem Sm {c:MT}{b:MS}{Q:Fl×aH×Hm->Prop}(I:Nat->aH->Hm->Prop)
  (u:∀ m ρ e,I m ρ e->W (c ρ e) fun p=>if p.1=true then W (b ρ p.2) fun q=>match q.1 with
   | .nx=>∃ a,a<m/\I a q.2.1 q.2.2
   | .ct=>∃ a,a<m/\I a q.2.1 q.2.2
   | .bk=>Q (.nx,q.2.1,q.2.2)
   | .rt d=>Q (.rt d,q.2.1,q.2.2) else Q (.nx,ρ,p.2)):∀ (n m:Nat)(ρ:aH)(e:Hm),m<n->I m ρ e->W (lU c b n ρ e) Q:=by
 intro n
 induction n with
 | zero=>intro m ρ e h;omega
 | succ n l=>
  intro m ρ e z s
  unfold lU
  rw [W_bind]
  refine bQ (u m ρ e s) fun p j=>?_
  obtain ⟨v,w⟩:=p
  cases v with
  | false=>exact W_some.mpr (by simpa using j)
  | true=>
   simp only [if_true] at j
   dsimp only
   rw [W_bind]
   refine bQ j fun q g=>?_
   obtain ⟨o,y,x⟩:=q
   cases o with
   | nx=>obtain ⟨a,r,i⟩:=g;exact l a _ _ (by omega) i
   | ct=>obtain ⟨a,r,i⟩:=g;exact l a _ _ (by omega) i
   | bk=>exact W_some.mpr g
   | rt d=>exact W_some.mpr g
theorem FR {c:MT}{b:MS}{ρ:aH}{a:Hm}{Q:Fl×aH×Hm->Prop}(I:Nat->aH->Hm->Prop)(m:Nat)(h:m<1000000000)(g:I m ρ a)
  (i:∀ m ρ a,I m ρ a->W (c ρ a) fun p=>if p.1=true then W (b ρ p.2) fun q=>match q.1 with
   | .nx=>∃ e,e<m/\I e q.2.1 q.2.2
   | .ct=>∃ e,e<m/\I e q.2.1 q.2.2
   | .bk=>Q (.nx,q.2.1,q.2.2)
   | .rt d=>Q (.rt d,q.2.1,q.2.2) else Q (.nx,ρ,p.2)):W (nN oG c b ρ a) Q:=by
 unfold nN
 exact Sm I i oG m ρ a (by unfold oG;exact h) g
theorem Sn {q:Int×Int}{es:List (Int×Int)}{i:Nat}{d:D}(h:(es.map (NB q))[i]? = some d):∃ e,es[i]? = some e/\d=NB q e:=by
 rw [TB] at h
 obtain ⟨e,a,b⟩:=S8.mp h
 exact ⟨e,a,b.symm⟩
theorem mem_nbE {w h:Int}{q e:Int×Int}:e∈mT w h q↔e∈cE q.1 q.2 "lufr"/\i7 w h e:=by
 unfold mT i7
 rw [UN,decide_eq_true_iff]
theorem FT {b:Hm}{a:Nat}{v:Int×Int->D}{ps:List (Int×Int)}{Q:D×Hm->Prop}(h:b[a]? = some (.dT (aZ v ps))):W (kS [.loc a] b) Q↔Q (.loc b.length,b++[.lst ((srt ps).map PP)]):=by
 have e:kS [.loc a] b=some (.loc b.length,b++[.lst ((srt ps).map PP)]):=by
  simp only [kS,h]
  rw [if_pos (fun p c=>by
   obtain ⟨q,_,rfl⟩:=TQ.mp c
   simp [aX]),z8]
  unfold aZ
  rw [Ud]
  rfl
 rw [e]
 exact W_some
noncomputable abbrev RF (w h:Int)(T:D)(c:Nat)(s:Int×Int)(a:Nat)(b d e:Option D):aH:=[some (.tup [.int w,.int h,T]),some (.loc c),some (PP s),some (.loc a),some (.loc (a+1)),b,d,e]
noncomputable abbrev So (w h:Int)(ps:List (Int×Int))(s:Int×Int)(T:D)(c:Nat)(a:Hm)(m:Nat)(ρ:aH)(b:Hm):Prop:=∃ F U,m=Mz F U/\m<=287/\Go w h ps s F U []/\Hd a b a.length (a.length+1) F U/\∃ d e g,ρ=RF w h T c s a.length d e g
noncomputable abbrev FU (w h:Int)(ps:List (Int×Int))(s:Int×Int)(T:D)(c:Nat)(i:Hm)(a:Int×Int)(m b j:Nat)(ρ:aH)(g:Hm):Prop:=∃ d l,Mz d l<=m/\Go w h ps s d l [a]/\Hd i g i.length (i.length+1) d l/\g[b]? = some (.lst ((mT w h a).map (NB a)))/\(∀ e∈(mT w h a).take j,e∉ps->eW a e∈d)/\a∈d/\∃ n o,ρ=RF w h T c s i.length (some (PP a)) n o
theorem Sq (k:Nat){w h:Int}(hw:1<=w/\w<=6)(hh:1<=h/\h<=6){T:D}{v:Int×Int->D}{ps:List (Int×Int)}(np:ps.Nodup){l:Hm}{c:Nat}(hc:l[c]? = some (.dT (aZ v ps))){s:Int×Int}(hs:s∈aP w h "q") (Q:D×Hm->Prop)
  (H:∀ a p,l <+: p->l.length<=a->p[a]? = some (.lst ((bA w h ps s).map PP))->Q (.loc a,p)):W (f (k+4) "face_with" [.tup [.int w,.int h,T],.loc c,PP s] l) Q:=by
 rw [Qe,bL,aT,bR]
 rw [FQ (x:=PP s) rfl (fR s)]
 simp only [Tc,Tf]
 rw [aT]
 simp only [bR,fE,aM,aK,aE,aF]
 refine ⟨by show (1:Nat)<=Tj;decide,?_⟩
 simp only [Tc,Tf]
 rw [aT]
 have hI:Hd l (l++[C.dT [(aX s,D.bl true)]]++[C.lst [PP s]]) l.length (l.length+1) [s] [s]:=by
  refine ⟨(bF _ _).trans (bF _ _),Th _,YF _,by omega,aY (bF _ _) (bZ _ _),?_⟩
  have:=bZ (l++[C.dT [(aX s,D.bl true)]]) (C.lst [PP s])
  rw [Td] at this
  exact this
 have el:(l++[C.dT [(aX s,D.bl true)]]).length=l.length+1:=Td
 rw [el]
 generalize l++[C.dT [(aX s,D.bl true)]]++[C.lst [PP s]]=μ1 at hI
 refine FR (So w h ps s T c l) 287 (by decide) ⟨[s],[s],rfl,Th _,.start,hI,none,none,none,rfl⟩ ?_
 rintro m ρ X ⟨F,U,rfl,hm,G,I,o5,o6,o7,rfl⟩
 simp only [dG,aE,aF]
 refine (Sk I.due).mpr ?_
 rcases Xf U with rfl|⟨o,i,rfl⟩
 ·rw [if_neg (by simp)]
  simp only [bJ,aV,aM,aK,aE,aF]
  rw [FT I.dic,Sb hw hh (G.fin hw hh hs)]
  exact H _ _ (I.pre.trans (bF _ _)) (kX I.pre) (bZ _ _)
 ·rw [if_pos (by simp),aT,bR]
  rw [Xg] at G I hm ⊢
  refine kY ?_
  simp only [aE,aF]
  refine ⟨kZ I.due,?_⟩
  simp only [aK]
  have y:=I.due
  rw [UW] at y
  refine (FP y).mpr ?_
  obtain ⟨G1,hz⟩:=G.pop
  have I1:Hd l (X.set (l.length+1) (.lst (o.map PP))) l.length (l.length+1) F o:=⟨fP I.pre I.lb _,I.la,I.lb,I.ne,by rw [eE I.ne];exact I.dic,iA y⟩
  have m1:Mz F o+1=Mz F (o++[i]):=by unfold Mz;rw [Td];rfl
  have rh:=G.rc i hz
  have hq:=(mem_partI.mp (rh.in hs)).2
  generalize X.set (l.length+1) (.lst (o.map PP))=μ3 at I1
  simp only [Tc,Tf,eQ,dH,aV,aM,aK,aU,aQ,aE,aF,Ah,Ai]
  refine Sj k w h i _ _ fun b μ4 p4 l4 g4=>?_
  refine (dM g4).mpr ?_
  have lb:l.length+1<b:=by
   have:l.length+1<μ3.length:=(S2.mp I1.due).1
   omega
  refine jR (FU w h ps s T c l i (Mz F o) b)
   ⟨F,o,Th _,G1,I1.more p4,g4,(fun e he=>by simp at he),hz,o6,o7,rfl⟩ (fun j ρ p ⟨_,_,_,_,_,g,_⟩=>g) ?_ ?_
  ·rintro j d ρ μ5 hd ⟨K,Y,R,q,E,Z,hn,B,o6,o7,rfl⟩
   obtain ⟨e,he,rfl⟩:=Sn hd
   refine ⟨RF w h T c s l.length (some (PP i)) (some (PP e)) (some (PP (eW i e))),rfl,?_⟩
   have A:=mem_nbE.mp (Ts he)
   have tk:=iB he
   have fin:∀ {u L:List (Int×Int)}{n:Hm},Mz u L<=Mz F o->Go w h ps s u L [i]->Hd l n l.length (l.length+1) u L->n[b]? = some (.lst ((mT w h i).map (NB i)))->(∀ x∈K,x∈u)->(e∉ps->eW i e∈u)->
     FU w h ps s T c l i (Mz F o) b (j+1) (RF w h T c s l.length (some (PP i)) (some (PP e)) (some (PP (eW i e)))) n:=
    fun {u L n} a1 a2 a3 a4 a5 a6=>⟨u,L,a1,a2,a3,a4,fun e' M r=>by
     rw [tk] at M
     rcases TU.mp M with z|z
     ·exact a5 _ (hn e' z r)
     ·rw [TN.mp z] at r ⊢
      exact a6 r,a5 _ B,_,_,rfl⟩
   have hcm:=aY E.pre hc
   simp only [b8,oI,cA,aU,aE,aF]
   rw [qW np hcm]
   by_cases r:e∈ps
   ·rw [decide_eq_true r]
    simp only [Ut,Te,if_false,b7]
    exact fin R q E Z (fun x N=>N) fun z=>absurd r z
   ·rw [decide_eq_false r]
    simp only [V5,if_true]
    have ml:=T8 (a1Z _ _) (show 2 * (144 - K.length)+Y.length<=Mz F o from R)
    have st:St w h ps i (eW i e):=⟨e,A.1,A.2,r,(FH hq A.1).mpr (.inr rfl)⟩
    have pw:=FN (i:=7) (ia:=3) (ib:=4) (ρ:=RF w h T c s l.length (some (PP i)) (some (PP e)) (some (PP (eW i e)))) (y:=eW i e) rfl rfl rfl E q.nd (q.len hw hh hs) (by omega)
    simp only [b8,cA,aU,aE,aF] at pw
    refine pw _ (fun hy=>?_) fun hy n I6 O=>?_
    ·exact fin R q E Z (fun x N=>N) fun _=>hy
    ·exact fin (T8 (q.less hw hh hs hy (rh.step st)) R) (q.push hy (rh.step st)) I6 (by rw [O b (by omega) (by omega)];exact Z) (fun x N=>UH _ N) fun _=>by simp
  ·rintro ρ μ5 ⟨K,Y,R,q,E,Z,hn,B,o6',o7',rfl⟩
   rw [S6,Ux] at hn
   refine ⟨Mz K Y,by omega,K,Y,rfl,by omega,q.done fun t ⟨e,h1,h2,h3,h4⟩=>?_,E,_,_,_,rfl⟩
   rcases (FH hq h1).mp h4 with rfl|rfl
   ·exact B
   ·exact hn e (mem_nbE.mpr ⟨h1,h2⟩) h3
theorem An (k:Nat)(p:Int×Int)(s:Str)(c:Hm)(Q:D×Hm->Prop)(H:∀ a b,c <+: b->c.length<=a->b[a]? = some (.lst ((cE p.1 p.2 s).map PP))->Q (.loc a,b)):W (f (k+2) "_law_near" [PP p,.str s] c) Q:=by
 rw [Qn,bL]
 simp only [aT,EF,aE,aF,PP,P]
 refine (Pw).mpr ?_
 simp only [bR,bJ,fE,aM,aK,fQ,aU,aE,aF,aQ,tK,iZ,Tc,Tf,i6,true_and]
 refine ⟨by show (4:Nat)<=Tj;decide,?_⟩
 have g:(c++[C.lst ((gH p.1 p.2).map PP)])[c.length]? = some (.lst ((gH p.1 p.2).map PP)):=bZ _ _
 refine gF (xs:=(gH p.1 p.2).map PP) (p:=fun d=>bO (bD (b6 d).1 (b6 d).2) s) (v:=fun d=>d) ?_
 simp only [dH,aE,aF]
 refine (dM g).mpr ?_
 refine ⟨hZ g,by rfl,by show (4:Nat)<=Tj;decide,?_,?_,?_⟩
 ·intro d b hd e
  obtain ⟨u,v,rfl⟩:=oP hd
  simp only [TM,T3,cA,aU,aV,aM,aK,aE,aF]
  refine zR k u v _ _ fun j i=>?_
  refine (EW).mpr ?_
  exact ⟨rfl,i⟩
 ·intro d b hd _ e
  simp only [TM,T3,aE,aF]
  exact ⟨trivial,T9 _⟩
 ·intro b e h
  refine H _ _ ((bF _ _).trans e) (kX (bF _ _)) ?_
  rw [h,zS fun p=>bO (bD p.1 p.2) s]
  rfl
noncomputable abbrev RR (w h:Int)(c:Nat)(s:Int×Int)(a:Nat)(b d e:Option D):aH:=[some (PP s),some (.loc c),some (.int w),some (.int h),some (.loc a),some (.loc (a+1)),b,d,e]
noncomputable def Lk (w h:Int)(ps:List (Int×Int))(s a:Int×Int)(m:Nat)(μ0 b:Hm)(F U:List (Int×Int)):Prop:=Mz F U<=m/\Go w h ps s F U [a]/\Hd μ0 b μ0.length (μ0.length+1) F U/\a∈F
theorem Ss {w h:Int}(hw:1<=w/\w<=6)(Z:1<=h/\h<=6){ps:List (Int×Int)}{s a e:Int×Int}(hs:s∈aP w h "q") (rh:Rc w h ps s a)(he:e∈cE a.1 a.2 "lufr") (hi:i7 w h e)(hp:e∉ps){m:Nat}(hm:m<=290){n o:Hm}{F U:List (Int×Int)}(L:Lk w h ps s a m n o F U)
  {y A c:Nat}{E:List (Int×Int)}(l1:n.length+1<y)(l2:n.length+1<A)(g1:o[y]? = some (.lst (E.map PP)))(g2:o[A]? = some (.lst ((cE e.1 e.2 "q").map PP))) {O r:Option D}(Q:Fl×aH×Hm->Prop)
  (H:∀ i p b r,Lk w h ps s a m n b i p->b[y]? = some (.lst (E.map PP))->(∀ x∈F,x∈i)->(∀ t∈cE e.1 e.2 "q",t∈i)->Q (.nx,RR w h c s n.length (some (PP e)) O r,b)) :
  W (eA (gT (.loc A)) (cT 8) (bH (aW (aB (b9 true) (aA 8) (aA 4))) (aL (dX (aA 4) (aA 8) (mC (.bl true))) (d9 (dF fN (aA 5) (aC (aA 8) aD)))) bG) (((cE e.1 e.2 "q").map PP).length+1) 0 (RR w h c s n.length (some (PP e)) O r) o) Q:=by
 refine jR (fun j R b=>∃ i p r,Lk w h ps s a m n b i p/\b[y]? = some (.lst (E.map PP))/\b[A]? = some (.lst ((cE e.1 e.2 "q").map PP))/\(∀ x∈F,x∈i)/\(∀ t∈(cE e.1 e.2 "q").take j,t∈i)/\R=RR w h c s n.length (some (PP e)) O r)
  ⟨F,U,r,L,g1,g2,fun x l=>l,(fun t M=>by simp at M),rfl⟩ (fun j R b ⟨_,_,_,_,_,g,_⟩=>g) ?_ ?_
 ·rintro j d R G hd ⟨i,p,B,L2,I,T,K,v,rfl⟩
  obtain ⟨t,M,rfl⟩:=oQ hd
  refine ⟨RR w h c s n.length (some (PP e)) O (some (PP t)),rfl,?_⟩
  have tk:=iB M
  obtain ⟨X,u,Y,hz⟩:=L2
  have ml:=T8 (a1Z _ _) (show 2 * (144 - i.length)+p.length<=m from X)
  have st:St w h ps a t:=⟨e,he,hi,hp,Ts M⟩
  refine FN (i:=8) (ia:=4) (ib:=5) (y:=t) rfl rfl rfl Y u.nd (u.len hw Z hs) (by omega) _ (fun N=>?_) fun N μ6 I6 q=>?_
  ·refine ⟨i,p,some (PP t),⟨X,u,Y,hz⟩,I,T,K,fun x l=>?_,rfl⟩
   rw [tk] at l
   rcases TU.mp l with z|z
   ·exact v x z
   ·rw [TN.mp z];exact N
  ·refine ⟨_,_,some (PP t),⟨T8 (u.less hw Z hs N (rh.step st)) X,u.push N (rh.step st),I6,UH _ hz⟩,by rw [q y (by omega) (by omega)];exact I,by rw [q A (by omega) (by omega)];exact T,fun x l=>UH _ (K x l),fun x l=>?_,rfl⟩
   rw [tk] at l
   rcases TU.mp l with z|z
   ·exact UH _ (v x z)
   ·exact Uu _ z
 ·rintro R G ⟨i,p,B,L2,I,T,K,v,rfl⟩
  rw [S6,Ux] at v
  exact H i p G B L2 I K v
theorem Su (k:Nat){w h:Int}(hw:1<=w/\w<=6)(hh:1<=h/\h<=6){v:Int×Int->D}{ps:List (Int×Int)}(np:ps.Nodup){i:Hm}{c:Nat}(hc:i[c]? = some (.dT (aZ v ps))){s:Int×Int}(hs:s∈aP w h "q") (Q:D×Hm->Prop)
  (H:∀ l,i <+: l->Q (.int ((bA w h ps s).length:Nat),l)):W (f (k+3) "_law_reached" [PP s,.loc c,.int w,.int h] i) Q:=by
 rw [Qv,bL,aT,bR]
 rw [FQ (x:=PP s) rfl (fR s)]
 simp only [Tc,Tf]
 rw [aT]
 simp only [bR,fE,aM,aK,aE,aF]
 refine ⟨by show (1:Nat)<=Tj;decide,?_⟩
 simp only [Tc,Tf]
 rw [aT]
 have hI:Hd i (i++[C.dT [(aX s,D.bl true)]]++[C.lst [PP s]]) i.length (i.length+1) [s] [s]:=by
  refine ⟨(bF _ _).trans (bF _ _),Th _,YF _,by omega,aY (bF _ _) (bZ _ _),?_⟩
  have:=bZ (i++[C.dT [(aX s,D.bl true)]]) (C.lst [PP s])
  rw [Td] at this
  exact this
 have el:(i++[C.dT [(aX s,D.bl true)]]).length=i.length+1:=Td
 rw [el]
 generalize i++[C.dT [(aX s,D.bl true)]]++[C.lst [PP s]]=μ1 at hI
 refine FR (fun m L l=>∃ F U,m=Mz F U/\m<=287/\Go w h ps s F U []/\Hd i l i.length (i.length+1) F U/\∃ B E K,L=RR w h c s i.length B E K) 287 (by decide) ⟨[s],[s],rfl,Th _,.start,hI,none,none,none,rfl⟩ ?_
 rintro m L q ⟨F,U,rfl,hm,G,I,B,E,K,rfl⟩
 simp only [cA,aU,aE,aF,fE,aK]
 refine ⟨Uv _,?_⟩
 have ee:∀ Q:D×Hm->Prop,W (a8 true (.loc (i.length+1)) (.loc q.length) (q++[C.lst []])) Q↔Q (.bl (!(U == [])),q++[C.lst []]):=fun Q=>oK (ps:=U) (qs:=[]) (ne:=true) (aY (bF _ _) I.due) (bZ _ _)
 rw [ee]
 dsimp only
 have n:=I.more (bF q (C.lst []))
 generalize q++[C.lst []]=μ2' at n
 rcases Xf U with rfl|⟨u,a,rfl⟩
 ·rw [if_neg (by decide)]
  simp only [bJ,aV,aM,aK,aE,aF]
  refine (PU n.dic).mpr ?_
  rw [S6,(G.fin hw hh hs).length_eq]
  exact H _ n.pre
 ·rw [Xg] at G n hm ⊢
  rw [if_pos (by simp),eQ,dH]
  simp only [aV,aM,aK,aQ]
  refine kY ?_
  simp only [aE,aF]
  refine ⟨kZ n.due,?_⟩
  simp only [aK]
  have A:=n.due
  rw [UW] at A
  refine (FP A).mpr ?_
  obtain ⟨G1,hz⟩:=G.pop
  have I1:Hd i (μ2'.set (i.length+1) (.lst (u.map PP))) i.length (i.length+1) F u:=⟨fP n.pre n.lb _,n.la,n.lb,n.ne,by rw [eE n.ne];exact n.dic,iA A⟩
  have m1:Mz F u+1=Mz F (u++[a]):=by unfold Mz;rw [Td];rfl
  have rh:=G.rc a hz
  have hq:=(mem_partI.mp (rh.in hs)).2
  generalize μ2'.set (i.length+1) (.lst (u.map PP))=μ3 at I1
  refine An k a "lufr" _ _ fun b μ4 p4 l4 g4=>?_
  refine (dM g4).mpr ?_
  have lb:i.length+1<b:=by
   have h5:i.length+1<μ3.length:=(S2.mp I1.due).1
   have h6:μ3.length<=b:=l4
   omega
  refine jR (fun j L l=>∃ r x B E K,Lk w h ps s a (Mz F u) i l r x/\l[b]? = some (.lst ((cE a.1 a.2 "lufr").map PP))/\(∀ e∈(cE a.1 a.2 "lufr").take j,i7 w h e->e∉ps->∀ t∈cE e.1 e.2 "q",t∈r)/\L=RR w h c s i.length B E K)
   ⟨F,u,B,E,K,⟨Th _,G1,I1.more p4,hz⟩,g4,(fun e Y=>by simp at Y),rfl⟩ (fun j L l ⟨_,_,_,_,_,_,g,_⟩=>g) ?_ ?_
  ·rintro j d L o hd ⟨r,x,p6,p7,p8,L2,gb,N,rfl⟩
   obtain ⟨e,Y,rfl⟩:=oQ hd
   refine ⟨RR w h c s i.length (some (PP e)) p7 p8,rfl,?_⟩
   have hem:=Ts Y
   have tk:=iB Y
   rw [aT,bR]
   have tst:∀ Q:D×Hm->Prop,W ((cS (aB dQ (mC (.int 0)) (aB aJ (aA 6) (mC (.int 0)))) (cS (aB dQ (aB aJ (aA 6) (mC (.int 0))) (aB cF (mC (.int 4)) (aA 2))) (cS (aB dQ (mC (.int 0)) (aB aJ (aA 6) (mC (.int 1)))) (aB dQ (aB aJ (aA 6) (mC (.int 1))) (aB cF (mC (.int 4)) (aA 3)))))) (RR w h c s i.length (some (PP e)) p7 p8) o) Q↔Q (.bl (decide ((0<e.1/\e.1<4 * w)/\0<e.2/\e.2<4 * h)),o):=fun Q=>by
    simp only [gD,aU,aE,aF,aQ,PP,P,eM,dU,jS,tN]
    by_cases a1:0<e.1<;>by_cases a2:e.1<4 * w<;>by_cases a3:0<e.2<;>by_cases a4:e.2<4 * h<;>simp [a1,a2,a3,a4]
   rw [tst]
   simp only [Tc,Tf,b8,oI,dG,cA,aU,aE,aF,c5]
   have stay:(i7 w h e->e∉ps->False)->∃ r x B E K,Lk w h ps s a (Mz F u) i o r x/\o[b]? = some (.lst ((cE a.1 a.2 "lufr").map PP))/\(∀ e∈(cE a.1 a.2 "lufr").take (j+1),i7 w h e->e∉ps->∀ t∈cE e.1 e.2 "q",t∈r)/\RR w h c s i.length (some (PP e)) (some (.bl (decide ((0<e.1/\e.1<4 * w)/\0<e.2/\e.2<4 * h)))) p8=RR w h c s i.length B E K:=fun z=>
    ⟨r,x,_,_,_,L2,gb,fun e' p R T=>by
     rw [tk] at p
     rcases TU.mp p with y|y
     ·exact N e' y R T
     ·rw [TN.mp y] at R T
      exact (z R T).elim,rfl⟩
   by_cases M:(0<e.1/\e.1<4 * w)/\0<e.2/\e.2<4 * h
   ·rw [if_pos (decide_eq_true M),qW np (aY L2.2.2.1.pre hc)]
    by_cases Z:e∈ps
    ·rw [decide_eq_true Z]
     simp only [Ut,Te,if_false,b7]
     exact stay fun _ z=>z Z
    ·rw [decide_eq_false Z]
     simp only [V5,if_true,eQ,dH,aV,aM,aK,aQ,aE,aF]
     refine An k e "q" _ _ fun b2 μ6 p6 l6 g6=>?_
     refine (dM g6).mpr ?_
     obtain ⟨m2,G2,X,O⟩:=L2
     have l2:i.length+1<b2:=by
      have:i.length+1<o.length:=(S2.mp X.due).1
      omega
     refine Ss hw hh hs rh hem M Z (by omega) ⟨m2,G2,X.more p6,O⟩ lb l2 (aY p6 gb) g6 _ fun F3 U3 μ7 o8' L3 g7 R T=>?_
     refine ⟨F3,U3,_,_,_,L3,g7,fun e' p z1 z2 t ht=>?_,rfl⟩
     rw [tk] at p
     rcases TU.mp p with y|y
     ·exact R t (N e' y z1 z2 t ht)
     ·rw [TN.mp y] at ht
      exact T t ht
   ·rw [if_neg (fun z=>M (of_decide_eq_true z))]
    simp only [Te,if_false,b7]
    exact stay fun z _=>M z
  ·rintro L o ⟨r,x,p6,p7,p8,⟨m2,G2,X,O⟩,gb,N,rfl⟩
   rw [S6,Ux] at N
   exact ⟨Mz r x,by omega,r,x,rfl,by omega,G2.done fun t ⟨e,h1,h2,M,h4⟩=>N e h1 h2 M t h4,X,_,_,_,rfl⟩
theorem qY {d c:Type}{R:d->c->Prop}:∀ {as:List d}{bs:List c}{i:Nat}{b:c},Vr R as bs->bs[i]? = some b->∃ a,as[i]? = some a/\R a b
 | _,_,_,_,.nil,h=>by simp at h
 | _,_,0,_,.cons r _,h=>by
  have:_=_:=TZ h
  subst this
  exact ⟨_,rfl,r⟩
 | _,_,i+1,_,.cons _ t,h=>by
  obtain ⟨a,e,g⟩:=qY (i:=i) t (by simpa using h)
  exact ⟨a,by simpa using e,g⟩
noncomputable def FA (a:Hm)(lo t:Nat)(c:List (List (Int×Int))):Prop:=lo<=t/\∃ bs:List Nat,a[t]? = some (.lst (bs.map D.loc))/\Vr (fun b L=>t<b/\a[b]? = some (.lst (L.map PP))) bs c
theorem FA.more {c a:Hm}{lo t:Nat}{b:List (List (Int×Int))}(h:FA c lo t b)(p:c <+: a):FA a lo t b:=by
 obtain ⟨l,bs,d,e⟩:=h
 exact ⟨l,bs,aY p d,Vr.mapP e fun _ _ z=>⟨z.1,aY p z.2⟩⟩
structure FcI (w h:Int)(ps:List (Int×Int))(μ0 μ:Hm)(i:Nat)(K:List (Int×Int))(bs:List Nat):Prop where
 pre:μ0 <+: μ
 tl:μ[μ0.length]? = some (.lst (bs.map D.loc))
 sn:μ[μ0.length+1]? = some (.dT (aZ (fun _=>.bl true) K))
 nd:K.Nodup
 mem:∀ p,p∈K↔∃ x∈(aP w h "q").take i,Rc w h ps x p
 at_:Vr (fun b l=>μ0.length+1<b/\μ[b]? = some (.lst ((bA w h ps l).map PP))) bs (dZ w h ps i)
theorem Sv (c:D){K:List (Int×Int)}(a:K.Nodup)(p:Int×Int):eB (aZ (fun _=>c) K) (aX p) c=aZ (fun _=>c) (if p∈K then K else K++[p]):=by
 by_cases h:p∈K
 ·rw [if_pos h]
  unfold eB
  rw [oS a h,a0x,if_pos rfl]
  unfold aZ
  rw [Ud]
  refine UX fun q _=>?_
  show (if aX q=aX p then (aX q,c) else (aX q,c))=_
  split<;>rfl
 ·rw [if_neg h]
  exact qS (v:=fun _=>c) h
theorem Sw {w A B E G O:Option D}{μ0 i:Hm}{d b:Nat}{K L:List (Int×Int)}(lo:μ0.length<=d)(Z:d<b)(v:μ0 <+: i)(hd:i[d]? = some (.dT (aZ (fun _=>.bl true) K)))(R:i[b]? = some (.lst (L.map PP)))(Y:K.Nodup)(hl:K.length+L.length<=600)(Q:Fl×aH×Hm->Prop)
  (H:∀ c a o,μ0 <+: a->a[d]? = some (.dT (aZ (fun _=>.bl true) c))->c.Nodup->(∀ p,p∈c↔p∈K\/p∈L)->(∀ n,n≠d->a[n]? = i[n]?)->Q (.nx,[w,A,B,some (.loc d),E,G,o],a)) :
  W (eA (gT (.loc b)) (cT 6) (dX (aA 3) (aA 6) (mC (.bl true))) ((L.map PP).length+1) 0 [w,A,B,some (.loc d),E,G,O] i) Q:=by
 refine jR (fun j r a=>∃ c o,μ0 <+: a/\a[d]? = some (.dT (aZ (fun _=>.bl true) c))/\c.Nodup/\(∀ p,p∈c↔p∈K\/p∈L.take j)/\c.length<=K.length+j/\(∀ n,n≠d->a[n]? = i[n]?)/\r=[w,A,B,some (.loc d),E,G,o])
  ⟨K,O,v,hd,Y,by simp,Th _,fun _ _=>rfl,rfl⟩ (fun j r a ⟨_,_,_,_,_,_,_,k,_⟩=>by rw [k b (by omega)];exact R) ?_ ?_
 ·rintro j e r a T ⟨c,o,u,m,l,g,X,s,rfl⟩
  obtain ⟨p,M,rfl⟩:=oQ T
  refine ⟨_,rfl,?_⟩
  have hj:j<L.length:=(S2.mp M).1
  simp only [Tc,Tf,oN,aQ,aE,aF]
  refine (qO m (fR p) (by rw [S6,TY];omega)).mpr ?_
  rw [Sv (.bl true) l]
  refine ⟨_,_,fP u lo _,iA m,?_,fun q=>?_,?_,fun n I=>by rw [eE I];exact s n I,rfl⟩
  ·split
   ·exact l
   ·rename_i h
    refine Wi.mpr ⟨l,by simp,fun x U y N z=>?_⟩
    rw [TN] at N
    exact h (by rw [<- N,<- z];exact U)
  ·rw [iB M,TU,TN]
   split
   ·rename_i h
    rw [g]
    constructor
    ·rintro (z|z)
     ·exact .inl z
     ·exact .inr (.inl z)
    ·rintro (z|z|z)
     ·exact .inl z
     ·exact .inr z
     ·rw [z];exact (g p).mp h
   ·rw [TU,TN,g,or_assoc]
  ·split
   ·omega
   ·rw [Td,VT];omega
 ·rintro r a ⟨c,o,u,m,l,g,X,s,rfl⟩
  rw [S6,Ux] at g
  exact H c a o u m l g s
theorem Sx {w h:Int}{ps qs:List (Int×Int)}(e:∀ x,x∈ps↔x∈qs){s p:Int×Int}:Rc w h ps s p↔Rc w h qs s p:=by
 constructor
 ·intro a
  induction a with
  | refl=>exact .refl
  | step _ c j=>exact j.step (let ⟨x,b,d,g,i⟩:=c;⟨x,b,d,fun z=>g ((e x).mpr z),i⟩)
 ·intro a
  induction a with
  | refl=>exact .refl
  | step _ c j=>exact j.step (let ⟨x,b,d,g,i⟩:=c;⟨x,b,d,fun z=>g ((e x).mp z),i⟩)
theorem FV {w h:Int}{ps qs:List (Int×Int)}(e:∀ x,x∈ps↔x∈qs):bA w h ps=bA w h qs:=by
 funext s
 unfold bA
 refine W0 fun x _=>?_
 rw [a1V,rcB_iff,rcB_iff]
 exact Sx e
theorem Sy {w h:Int}{ps qs:List (Int×Int)}(e:∀ x,x∈ps↔x∈qs):dZ w h ps=dZ w h qs:=by
 funext n
 unfold dZ fG
 rw [FV e]
theorem Sz (k:Nat){w h:Int}(hw:1<=w/\w<=6)(A:1<=h/\h<=6){m:Int×Int->Str}{ps:List (Int×Int)}(np:ps.Nodup)(u:Hm)(Q:D×Hm->Prop)
  (H:∀ t j,u <+: j->FA j u.length t ((dZ w h ps (aP w h "q").length).map (bA w h ps))->Q (.loc t,j)):W (f (k+5) "faces" [SH w h (cQ m ps)] u) Q:=by
 rw [Qf,bL,aT]
 simp only [bR,aV,aM,aK,aE]
 rw [EV,bL]
 simp only [bJ,aV,aM,aK,aU,aE,aQ,Fx,FC np]
 simp only [Tc,Tf]
 have g0:(u++[C.dT (aZ (bY m) ps)])[u.length]? = some (.dT (aZ (bY m) ps)):=bZ _ _
 have q0:u <+: u++[C.dT (aZ (bY m) ps)]:=bF _ _
 generalize u++[C.dT (aZ (bY m) ps)]=μ1 at g0 q0
 rw [aT]
 simp only [bR,fE,aK]
 refine ⟨Uv _,?_⟩
 simp only [Tc,Tf]
 rw [aT]
 simp only [bR,tS,Tc,Tf]
 have el:(μ1++[C.lst []]).length=μ1.length+1:=Td
 rw [el,aT]
 simp only [eQ,dH,aV,aM,aK,aU,aQ,aE,aF,Ah,Ai]
 have gt:(μ1++[C.lst []]++[C.dT []])[μ1.length]? = some (.lst []):=aY (bF _ _) (bZ _ _)
 have U:(μ1++[C.lst []]++[C.dT []])[μ1.length+1]? = some (.dT []):=by
  have:=bZ (μ1++[C.lst []]) (C.dT [])
  rw [el] at this
  exact this
 have q1:μ1 <+: μ1++[C.lst []]++[C.dT []]:=(bF _ _).trans (bF _ _)
 generalize μ1++[C.lst []]++[C.dT []]=μ2 at gt U q1
 refine QV (k+2) w h hw A _ _ fun b μ3 p3 g3 l3=>?_
 refine (dM g3).mpr ?_
 have lb:μ1.length+1<b:=by
  have h5:μ1.length+1<μ2.length:=(S2.mp U).1
  have h6:μ2.length<=b:=l3
  omega
 have lv:=k9 hw A
 refine jR (fun i R j=>∃ K bs Z o5 o6,FcI w h ps μ1 j i K bs/\j[b]? = some (.lst ((aP w h "q").map PP))/\R=[some (SH w h (cQ m ps)),some (.loc u.length),some (.loc μ1.length),some (.loc (μ1.length+1)),Z,o5,o6])
  ⟨[],[],none,none,none,⟨q1.trans p3,aY p3 gt,aY p3 U,ZK,fun p=>by simp,.nil⟩,g3,rfl⟩ (fun i R j ⟨_,_,_,_,_,_,g,_⟩=>g) ?_ ?_
 ·rintro i d R s hd ⟨K,bs,Z,o5,o6,I,T,rfl⟩
  obtain ⟨q,B,rfl⟩:=oQ hd
  refine ⟨_,rfl,?_⟩
  have G:=Ts B
  have lK:K.length<=144:=T8 (qT I.nd fun p hp=>by
   obtain ⟨x,E,a⟩:=(I.mem p).mp hp
   exact a.in (Vx E)) lv
  simp only [Tc,Tf,b8,cA,aU,aE,aF]
  rw [qW I.nd I.sn]
  have ts:=iB B
  by_cases O:q∈K
  ·rw [decide_eq_true O]
   simp only [Ut,Te,if_false,b7]
   obtain ⟨x,E,a⟩:=(I.mem q).mp O
   have nl:fG w h ps q=false:=by
    cases e:fG w h ps q with
    | false=>rfl
    | true=>exact absurd a ((FK hw A B).mp e x E)
   refine ⟨K,bs,_,_,_,⟨I.pre,I.tl,I.sn,I.nd,fun p=>?_,?_⟩,T,rfl⟩
   ·rw [I.mem,ts]
    constructor
    ·rintro ⟨y,c,z⟩
     exact ⟨y,UH _ c,z⟩
    ·rintro ⟨y,c,z⟩
     rcases TU.mp c with c|c
     ·exact ⟨y,c,z⟩
     ·rw [TN.mp c] at z
      exact ⟨x,E,a.trans z⟩
   ·rw [FL B,nl,if_neg (by decide),Uz]
    exact I.at_
  ·rw [decide_eq_false O]
   simp only [V5,if_true]
   have hl:fG w h ps q=true:=(FK hw A B).mpr fun x E a=>O ((I.mem q).mpr ⟨x,E,a⟩)
   rw [aT]
   simp only [bR,aV,aM,aK,aE,aF]
   refine Sq k hw A np (aY (I.pre) g0) G _ fun a N M l5 g5=>?_
   simp only [Tc,Tf]
   have v:=aY M I.tl
   have sn5:=aY M I.sn
   have X:μ1.length+1<a:=by
    have h5:μ1.length+1<s.length:=(S2.mp I.sn).1
    have h6:s.length<=a:=l5
    omega
   have bl:bs.length<=144:=by
    rw [Vb I.at_]
    exact T8 (Um _ _) (T8 (by rw [TX];omega) lv)
   rw [aT,mM]
   refine kY ?_
   simp only [aE,aF]
   refine ⟨kZ v,?_⟩
   simp only [aM,aK,aE,aF]
   refine (tR v (by rw [S6,TY];omega)).mpr ?_
   rw [eQ,dH]
   simp only [aE,aF]
   have g6:(N.set μ1.length (.lst (bs.map D.loc++[.loc a])))[a]? = some (.lst ((bA w h ps q).map PP)):=by rw [eE (by omega)];exact g5
   refine (dM g6).mpr ?_
   refine Sw (μ0:=μ1) (d:=μ1.length+1) (K:=K) (by omega) X (fP (I.pre.trans M) (Th _) _) (by rw [eE (by omega)];exact sn5) g6 I.nd (by have:=FJ (ps:=ps) hw A q;omega) _ fun K' μ6 o p6 s6 n6 m6 k6=>?_
   have stay:∀ n,μ1.length+1<n->μ6[n]? = N[n]?:=fun n hn=>by rw [k6 n (by omega),eE (by omega)]
   refine ⟨K',bs++[a],_,_,_,⟨p6,?_,s6,n6,fun p=>?_,?_⟩,by rw [stay b lb];exact aY M T,rfl⟩
   ·rw [k6 _ (by omega),iA v,UW]
    rfl
   ·rw [m6,I.mem,iE G,ts]
    constructor
    ·rintro (⟨y,c,z⟩|z)
     ·exact ⟨y,UH _ c,z⟩
     ·exact ⟨q,by simp,z⟩
    ·rintro ⟨y,c,z⟩
     rcases TU.mp c with c|c
     ·exact .inl ⟨y,c,z⟩
     ·rw [TN.mp c] at z
      exact .inr z
   ·rw [FL B,hl,if_pos rfl]
    refine XX (Vr.mapP I.at_ fun b' l z=>⟨z.1,by rw [stay b' z.1];exact aY M z.2⟩) ⟨X,?_⟩
    rw [stay a X]
    exact g5
 ·rintro R s ⟨K,bs,Z,o5,o6,I,T,rfl⟩
  rw [S6] at I
  simp only [bJ,aE,aF]
  refine H _ _ (q0.trans I.pre) ⟨kX q0,bs,I.tl,?_⟩
  have:∀ {xs:List Nat}{Y:List (Int×Int)},Vr (fun b l=>μ1.length+1<b/\s[b]? = some (.lst ((bA w h ps l).map PP))) xs Y->Vr (fun b L=>μ1.length<b/\s[b]? = some (.lst (L.map PP))) xs (Y.map (bA w h ps)):=by
   intro xs Y z
   induction z with
   | nil=>exact .nil
   | cons r _ ih=>exact .cons ⟨a1B r.1,r.2⟩ ih
  exact this I.at_
theorem FW (k:Nat){w h:Int}(hw:1<=w/\w<=6)(c:1<=h/\h<=6){m:Int×Int->Str}{ps:List (Int×Int)}(d:ps.Nodup)(b:Hm)(Q:D×Hm->Prop)
  (H:∀ t a,b <+: a->FA a b.length t ((dZ w h ps (aP w h "q").length).map (bA w h ps))->Q (.loc t,a)):W (f (k+5) "faces" [SH w h (cQ m (srt ps))] b) Q:=by
 refine Sz k hw c ((iC ps).nodup_iff.mpr d) b Q fun t a p z=>H t a p ?_
 have e:∀ x,x∈srt ps↔x∈ps:=fun x=>(iC ps).mem_iff
 rw [Sy e,FV e] at z
 exact z
theorem FX {b:Hm}{a:Nat}{L:List (Int×Int)}{Q:D×Hm->Prop}(h:b[a]? = some (.lst (L.map PP)))(j:L.Nodup):W (kT [.loc a] b) Q↔Q (.loc b.length,b++[.lst ((srt L).map PP)]):=by
 have e:kT [.loc a] b=some (.loc b.length,b++[.lst ((srt L).map PP)]):=by
  simp only [kT,nO,h,T6,E4]
  have l:(L.map aX).Nodup:=by
   unfold XT
   rw [Ur]
   exact j.imp fun h e=>h (oR e)
  rw [if_pos ⟨l,fun t g=>by
   obtain ⟨p,_,rfl⟩:=TQ.mp g
   simp [aX]⟩]
  have d:(bU (kK (L.map aX)) (L.map aX).length).map (fun i=>(L.map PP).getD i .non)=(srt L).map PP:=by
   unfold srt kK
   rw [S6,Ud]
   refine UX fun i c=>?_
   have c:=Ul.mp ((dW _ _).mem_iff.mp c)
   show (L.map PP).getD i .non=PP (L.getD i (0,0))
   simp [Ug,c]
  rw [d]
 rw [e]
 exact W_some
section
variable {w h:Int}{ps:List (Int×Int)}{l l' p q:Int×Int}
noncomputable def iF (w h:Int)(ps:List (Int×Int))(p:Int×Int):Int×Int:=(bA w h ps p).headD p
theorem Ao (c:l∈aP w h "q") (b:fG w h ps l=true)(a:Rc w h ps l p):iF w h ps p=l:=by
 unfold iF
 rw [Al c a]
 unfold fG at b
 rw [beq_iff_eq] at b
 rw [List.headD_eq_head?_getD,b]
 rfl
theorem Ap (a:p∈aP w h "q"):Rc w h ps p (iF w h ps p):=by
 unfold iF
 cases e:bA w h ps p with
 | nil=>exact .refl
 | cons x b=>exact (iE a).mp (by rw [e];exact Tt ..)
theorem FY (b:p∈aP w h "q"):fG w h ps (iF w h ps p)=true:=by
 have a:=Ap (ps:=ps) b
 unfold fG
 rw [Al b a,beq_iff_eq]
 unfold iF
 cases e:bA w h ps p with
 | nil=>
  have:=Am (ps:=ps) b
  rw [e] at this
  cases this
 | cons x c=>rfl
noncomputable def bW (w h:Int)(ps:List (Int×Int)):List (Int×Int):=dZ w h ps (aP w h "q").length
theorem mem_ldrs:l∈bW w h ps↔l∈aP w h "q"/\fG w h ps l=true:=by
 unfold bW dZ
 rw [Ux,UN]
theorem Aq (hw:1<=w/\w<=6)(a:1<=h/\h<=6):(bW w h ps).Nodup:=by
 unfold bW dZ
 rw [Ux]
 exact (Ak hw a).filter _
theorem SA (hw:1<=w/\w<=6)(a:1<=h/\h<=6):((bW w h ps).map aX).Pairwise fun x y=>HT.lexLt x y=true:=by
 unfold bW dZ
 rw [Ux]
 exact (uL hw a).sublist (YK.map aX)
noncomputable def nF (w h:Int)(ps:List (Int×Int))(p:Int×Int):D:=.int (((bW w h ps).idxOf (iF w h ps p):Nat):Int)
theorem SD {a:Type} [BEq a] [LawfulBEq a] {l:List a}(c:l.Nodup){i:Nat}{x:a}(h:l[i]? = some x):l.idxOf x=i:=by
 obtain ⟨b,rfl⟩:=S2.mp h
 exact c.idxOf_getElem i b
theorem FZ (hw:1<=w/\w<=6)(d:1<=h/\h<=6){i:Nat}(b:(bW w h ps)[i]? = some l)(a:Rc w h ps l p):nF w h ps p=.int (i:Int):=by
 have c:=mem_ldrs.mp (Ts b)
 unfold nF
 rw [Ao c.1 c.2 a,SD (Aq hw d) b]
theorem SE (hw:1<=w/\w<=6)(g:1<=h/\h<=6){i j:Nat}(m:(bW w h ps)[i]? = some l)(n:(bA w h ps l)[j]? = some p):p∉((bW w h ps).take i).flatMap (bA w h ps)++(bA w h ps l).take j:=by
 have c:=mem_ldrs.mp (Ts m)
 have a:=(iE c.1).mp (Ts n)
 intro z
 rcases TU.mp z with z|z
 ·obtain ⟨x,d,z⟩:=Xh.mp z
  have b:=mem_ldrs.mp (Vx d)
  have e:=Ao b.1 b.2 ((iE b.1).mp z)
  rw [Ao c.1 c.2 a] at e
  rw [<- e] at d
  exact t7 (Aq hw g) m d
 ·exact t7 (uM (uO hw g l)) n z
theorem SF:p∈(bW w h ps).flatMap (bA w h ps)↔p∈aP w h "q":=by
 rw [Xh]
 constructor
 ·rintro ⟨x,c,z⟩
  exact ((iE (mem_ldrs.mp c).1).mp z).in (mem_ldrs.mp c).1
 ·intro b
  have a:=Ap (ps:=ps) b
  exact ⟨iF w h ps p,mem_ldrs.mpr ⟨a.in b,FY b⟩,(iE (a.in b)).mpr (a.symm b)⟩
end
theorem SG {b:Hm}{a:Nat}{v:Int×Int->D}{F:List (Int×Int)}(d:F.Nodup)(c:b[a]? = some (.dT (aZ v F)))(y:Int×Int){Q:D×Hm->Prop}:W (b9 false (PP y) (.loc a) b) Q↔Q (.bl (decide (y∈F)),b):=by
 rw [zN c (fR y)]
 by_cases h:y∈F
 ·rw [oS d h,decide_eq_true h];rfl
 ·rw [oT h,decide_eq_false h];rfl
theorem SJ {w h:Int}(hw:1<=w/\w<=6)(r:1<=h/\h<=6){ps:List (Int×Int)}{G N:Option D}{μ0 g:Hm}{d b i:Nat}{l:Int×Int}{K:List (Int×Int)}(s:(bW w h ps)[i]? = some l)(R:K=((bW w h ps).take i).flatMap (bA w h ps))(Y:K.Nodup)(Z:K.length<=144)(lo:μ0.length<=d)(O:d≠b)(E:μ0 <+: g)(hd:g[d]? = some (.dT (aZ (nF w h ps) K)))(T:g[b]? = some (.lst ((bA w h ps l).map PP)))(Q:Fl×aH×Hm->Prop)
  (H:∀ a o,μ0 <+: a->a[d]? = some (.dT (aZ (nF w h ps) (K++bA w h ps l)))->(K++bA w h ps l).Nodup->(∀ n,n≠d->a[n]? = g[n]?)->Q (.nx,[G,some (.loc d),some (.int (i:Int)),o],a)) :
  W (eA (gT (.loc b)) (cT 3) (aL (bH (aW (aB (b9 false) (aA 3) (aA 1))) (aS (mC .non)) bG) (dX (aA 1) (aA 3) (aA 2))) (((bA w h ps l).map PP).length+1) 0 [G,some (.loc d),some (.int (i:Int)),N] g) Q:=by
 have I:=mem_ldrs.mp (Ts s)
 have lf:=FJ (ps:=ps) hw r l
 refine jR (fun j v a=>∃ o,μ0 <+: a/\a[d]? = some (.dT (aZ (nF w h ps) (K++(bA w h ps l).take j)))/\(K++(bA w h ps l).take j).Nodup/\(∀ n,n≠d->a[n]? = g[n]?)/\v=[G,some (.loc d),some (.int (i:Int)),o])
  ⟨N,E,by rw [Wr,Uz];exact hd,by rw [Wr,Uz];exact Y,fun _ _=>rfl,rfl⟩ (fun j v a ⟨_,_,_,_,k,_⟩=>by rw [k b (U6 O)];exact T) ?_ ?_
 ·rintro j e v a U ⟨o,B,c,q,A,rfl⟩
  obtain ⟨p,m,rfl⟩:=oQ U
  refine ⟨_,rfl,?_⟩
  have u:=SE hw r s m
  rw [<- R] at u
  simp only [Tc,Tf]
  rw [aT]
  simp only [b8,cA,aU,aE,aF]
  rw [SG q c,decide_eq_false u]
  simp only [Te,if_false,b7,oN,aE,aF]
  refine (qO c (fR p) (by rw [S6,Td,TX,TY];omega)).mpr ?_
  rw [<- FZ hw r s ((iE I.1).mp (Ts m)),qS u]
  refine ⟨some (PP p),fP B lo _,?_,?_,fun n L=>by rw [eE L];exact A n L,?_⟩
  ·rw [iA c,iB m,Tu]
  ·rw [iB m,<- Tu]
   refine Wi.mpr ⟨q,by simp,fun x X y M z=>?_⟩
   rw [TN] at M
   exact u (by rw [<- M,<- z];exact X)
  ·rw [FZ hw r s ((iE I.1).mp (Ts m))]
 ·rintro v a ⟨o,B,c,q,A,rfl⟩
  rw [S6,Ux] at c q
  exact H a o B c q A
theorem SK (k:Nat){w h:Int}(hw:1<=w/\w<=6)(y:1<=h/\h<=6){ps:List (Int×Int)}{q:Hm}{lo t:Nat}(A:FA q lo t ((bW w h ps).map (bA w h ps)))(Q:D×Hm->Prop)
  (H:∀ d a K,q <+: a->a[d]? = some (.dT (aZ (nF w h ps) K))->K.Nodup->(∀ p,p∈K↔p∈aP w h "q")->Q (.loc d,a)):W (f (k+3) "_law_numbers" [.loc t] q) Q:=by
 obtain ⟨_,bs,O,T⟩:=A
 have bl:bs.length=(bW w h ps).length:=by
  have:=Vb T
  rw [S6] at this
  exact this
 have ll:(bW w h ps).length<=144:=by
  unfold bW dZ
  refine T8 (Um _ _) ?_
  rw [Ux]
  exact k9 hw y
 rw [Qu,bL,aT]
 simp only [bR,tS,Tc,Tf]
 rw [aT]
 simp only [eQ,qN (j:=0),aV,aM,aK,aE]
 refine (oM (aY (bF _ _) O)).mpr ?_
 rw [S6,bl]
 refine ⟨by omega,?_⟩
 rw [V0]
 refine oJ (lo:=0) (fun i M a=>∃ K I L,K=((bW w h ps).take i).flatMap (bA w h ps)/\K.Nodup/\q <+: a/\a[q.length]? = some (.dT (aZ (nF w h ps) K))/\M=[some (.loc t),some (.loc q.length),I,L])
  ⟨[],none,none,by simp,ZK,bF _ _,bZ _ _,rfl⟩ ?_ ?_
 ·rintro i M n hi ⟨K,I,L,s,B,v,G,rfl⟩
  refine ⟨_,rfl,?_⟩
  simp only [Tc,Tf]
  have e:(bW w h ps)[i]? = some (bW w h ps)[i]:=S7 hi
  generalize (bW w h ps)[i]=l at e
  have hl:=mem_ldrs.mp (Ts e)
  obtain ⟨b,hb,tb,N⟩:=qY (i:=i) T (by rw [TB,e];rfl)
  have c:=aY v N
  have j:=aY v O
  have X:q.length≠b:=U6 (TJ (S2.mp N).1)
  have m:∀ {a:Hm},a[t]? = some (.lst (bs.map D.loc))->∀ Q:D×Hm->Prop,W (aJ (.loc t) (.int (0+(i:Int))) a) Q↔Q (.loc b,a):=fun g Q=>gE g (jU (by omega) (by rw [show (0+(i:Int)).toNat=i by omega,TB,hb];rfl))
  have U:=uO (ps:=ps) hw y l
  have lK:K.length<=144:=T8 (qT B fun p R=>by
   rw [s] at R
   obtain ⟨x,hx,z⟩:=Xh.mp R
   have u:=(mem_ldrs.mp (Vx hx)).1
   exact ((iE u).mp z).in u) (k9 hw y)
  rw [aT]
  simp only [b8,tJ,gZ,dG,cA,aU,aV,aM,aK,aE,aF]
  rw [m j,m j,FX c (uM U),uN U]
  refine QM (k+0) b n.length _ _ _ _ (aY (bF _ _) c) (bZ _ _) ?_
  have E:=bF n (C.lst ((bA w h ps l).map PP))
  generalize n++[C.lst ((bA w h ps l).map PP)]=μ2 at E
  simp only [beq_self_eq_true,c5,Ut,Te,if_false]
  rw [m (aY E j)]
  simp only [fE,aK]
  refine ⟨Uv _,?_⟩
  have Y:∀ Q:D×Hm->Prop,W (a8 false (.loc b) (.loc μ2.length) (μ2++[C.lst []])) Q↔Q (.bl (bA w h ps l == []),μ2++[C.lst []]):=fun Q=>oK (ps:=bA w h ps l) (qs:=[]) (ne:=false) (aY (bF _ _) (aY E c)) (bZ _ _)
  rw [Y]
  have ne:(bA w h ps l == [])=false:=by
   rw [beq_eq_false_iff_ne]
   intro z
   have:=Am (ps:=ps) hl.1
   rw [z] at this
   cases this
  rw [ne]
  simp only [Te,if_false,b7]
  have r:=E.trans (bF μ2 (C.lst []))
  generalize μ2++[C.lst []]=μ3 at r
  rw [eQ,dH]
  simp only [aU,aE,aF]
  rw [m (aY r j)]
  refine (dM (aY r c)).mpr ?_
  rw [show (0+(i:Int))=(i:Int) by omega]
  refine SJ hw y e s B lK (Th _) X (v.trans r) (aY r G) (aY r c) _ fun μ4 o p4 Z n4 k4=>?_
  exact ⟨_,_,_,by rw [iB e,a0L,<- s];simp,n4,p4,Z,rfl⟩
 ·rintro M n ⟨K,I,L,s,B,v,G,rfl⟩
  simp only [bJ,aE,aF]
  refine H _ _ K v G B fun p=>?_
  rw [s,Ux]
  exact SF
theorem SM:∀ r∈[(0:Int),1,2,3],∀ c∈[(0:Int),1,2,3],bO (eS r c) "lufr" = true->(jV r c "q").length=2:=by decide +kernel
theorem SN {e:Int×Int}(c:bO (bD e.1 e.2) "lufr" = true):∃ a b,cE e.1 e.2 "q" = [a,b]:=by
 have h:=SM _ (uJ e.1) _ (uJ e.2) c
 rw [Aj]
 match jV (e.1 % 4) (e.2 % 4) "q",h with
 | [a,b],_=>exact ⟨_,_,rfl⟩
noncomputable def uQ (a:Hm):D->D
 | .loc b=>match a[b]? with
  | some (.lst (x::_))=>x
  | _=>.non
 | _=>.non
section
variable {w h:Int}{ps:List (Int×Int)}{μ:Hm}
theorem Ar {l:Int×Int}(a:l∈bW w h ps):∃ r,bA w h ps l=l::r:=by
 have:=(mem_ldrs.mp a).2
 unfold fG at this
 rw [beq_iff_eq] at this
 cases e:bA w h ps l with
 | nil=>rw [e] at this;cases this
 | cons x r=>
  rw [e] at this
  cases this
  exact ⟨r,rfl⟩
theorem F0 {t b:Nat}{l:Int×Int}(a:l∈bW w h ps)(g:μ[b]? = some (.lst ((bA w h ps l).map PP))):uQ μ (.loc b)=PP l:=by
 obtain ⟨r,e⟩:=Ar a
 rw [e] at g
 simp only [uQ,g]
 rfl
theorem F1 {t:Nat}:∀ {bs:List Nat}{a:List (Int×Int)},(∀ l∈a,l∈bW w h ps)->Vr (fun b L=>t<b/\μ[b]? = some (.lst (L.map PP))) bs (a.map (bA w h ps))->(bs.map D.loc).map (uQ μ)=a.map PP
 | [],[],_,_=>rfl
 | [],_::_,_,z=>by cases z
 | _::_,[],_,z=>by cases z
 | b::bs,l::a,hl,z=>by
  cases z with
  | cons r z=>
   rw [Tr,Tr,Tr,F0 (t:=t) (hl l (Tt ..)) r.2,F1 (fun x c=>hl x (Tw _ c)) z]
theorem F2 {t:Nat}{bs:List Nat}(pd:Vr (fun b L=>t<b/\μ[b]? = some (.lst (L.map PP))) bs ((bW w h ps).map (bA w h ps))){d:D}(hd:d∈bs.map D.loc):∃ b l,d=.loc b/\l∈bW w h ps/\μ[b]? = some (.lst ((bA w h ps l).map PP)):=by
 obtain ⟨b,g,rfl⟩:=TQ.mp hd
 have:∀ {xs:List Nat}{a:List (List (Int×Int))},Vr (fun b L=>t<b/\μ[b]? = some (.lst (L.map PP))) xs a->b∈xs->∃ L∈a,μ[b]? = some (.lst (L.map PP)):=by
  intro xs a z
  induction z with
  | nil=>intro h;cases h
  | cons r _ j=>
   intro h
   rcases T5.mp h with rfl|h
   ·exact ⟨_,Tt ..,r.2⟩
   ·obtain ⟨L,c,e⟩:=j h
    exact ⟨L,Tw _ c,e⟩
 obtain ⟨L,c,e⟩:=this pd g
 obtain ⟨l,i,rfl⟩:=TQ.mp c
 exact ⟨b,l,rfl,i,e⟩
end
theorem F4 {w h:Int}(hw:1<=w/\w<=6)(q:1<=h/\h<=6){ps:List (Int×Int)}{j:Hm}{lo t:Nat}(A:FA j lo t ((bW w h ps).map (bA w h ps))){s u v x y z B:Option D}(Q:D×Hm->Prop)(H:∀ a c,j <+: c->c[a]? = some (.lst ((bW w h ps).map PP))->Q (.loc a,c)) :
  W (cU (cG (aA 0)) eZ (aB aJ (aA 8) (mC (.int 0))) [some (.loc t),s,u,v,x,y,z,B] j) Q:=by
 obtain ⟨_,bs,o,n⟩:=A
 have bl:bs.length<=144:=by
  rw [Vb n,S6]
  unfold bW dZ
  refine T8 (Um _ _) ?_
  rw [Ux]
  exact k9 hw q
 refine gF (xs:=bs.map D.loc) (p:=fun _=>true) (v:=uQ j) ?_
 simp only [dH,aE]
 refine (dM o).mpr ⟨hZ o,rfl,by rw [S6,TY];omega,fun d c _ _=>w_mTrue.mpr ⟨rfl,T9 _⟩,fun d c hd _ m=>?_,fun c m p=>?_⟩
 ·obtain ⟨b,l,rfl,i,g⟩:=F2 n hd
  simp only [TM,T3,aU,aE,aF,aQ]
  obtain ⟨r,e⟩:=Ar i
  rw [F0 (t:=t) i g]
  refine (gE (aY m g) (d:=PP l) (jU (by decide) (by rw [e];rfl))).mpr ⟨rfl,T9 _⟩
 ·refine H _ _ m ?_
  rw [p,YL.mpr (fun _ _=>rfl),F1 (t:=t) (fun l i=>i) n]
theorem SO {m:ME}{ρ:aH}{b:Hm}{a:Nat}{v:Int×Int->D}{ps:List (Int×Int)}(h:b[a]? = some (.dT (aZ v ps)))(c:∀ Q:D×Hm->Prop,W (m ρ b) Q↔Q (.loc a,b)){Q:D×Hm->Prop}:W (oC m ρ b) Q↔Q (.loc b.length,b++[.lst ((srt ps).map PP)]):=by
 unfold oC
 rw [W_bind,c]
 exact FT h
theorem SQ (k:Nat){w h:Int}(hw:1<=w/\w<=6)(m:1<=h/\h<=6){v:Int×Int->D}{ps:List (Int×Int)}(np:ps.Nodup){I:Hm}{lo t c:Nat}(A:FA I lo t ((bW w h ps).map (bA w h ps)))(hc:I[c]? = some (.dT (aZ v ps)))(Q:D×Hm->Prop)(H:∀ j,I <+: j->Q (.bl true,j)) :
  W (f (k+4) "_law_right" [.loc t,.loc c,.int w,.int h] I) Q:=by
 have ⟨_,bs0,N,_⟩:=A
 rw [Qw,bL,aT]
 simp only [b8,gZ,dG,aV,aM,aK,aE,aQ]
 refine (EL N).mpr ?_
 simp only [c5,Ut,Te,if_false,b7]
 rw [aT]
 simp only [bR,aV,aM,aK,aE]
 refine SK k hw m A _ fun d q K Z M T R=>?_
 simp only [Tc,Tf]
 have A1:=A.more Z
 have u:=aY Z hc
 have sK:srt K=aP w h "q":=by
  rw [srt_eq.mpr (uI T (Ak hw m) R),uN (uL hw m)]
 rw [aT]
 simp only [b8,tJ,cA,aU,aE,aF,aQ,PN,Te,if_false]
 rw [SO M (fun Q=>by simp only [aE,aF]),sK]
 have q2:=bF q (C.lst ((aP w h "q").map PP))
 have g2:=bZ q (C.lst ((aP w h "q").map PP))
 generalize q++[C.lst ((aP w h "q").map PP)]=μ2 at q2 g2
 simp only [aV,aM,aK,aE,aF,aQ]
 refine zY (k+1) w h "q" hw m _ _ fun a3 μ3 p3 g3 l3=>?_
 refine (oK (aY p3 g2) g3).mpr ?_
 simp only [beq_self_eq_true,Ut,if_true,Te,if_false,b7]
 have q3:=q2.trans p3
 have A3:=A1.more q3
 rw [aT]
 simp only [b8,cA,aU,aV,aM,aK]
 refine F4 hw m A3 _ fun a4 μ4 p4 g4=>?_
 refine F4 hw m (A3.more p4) _ fun a5 B p5 g5=>?_
 rw [FX g5 (Aq hw m),uN (SA hw m)]
 refine (oK (aY (bF _ _) (aY p5 g4)) (bZ _ _)).mpr ?_
 simp only [beq_self_eq_true,Ut,if_true,Te,if_false,b7]
 have q5:=q3.trans (p4.trans (p5.trans (bF B (C.lst ((bW w h ps).map PP)))))
 generalize B++[C.lst ((bW w h ps).map PP)]=μ6 at q5
 rw [aT]
 simp only [eQ,dH,aV,aM,aK,aE,aF,aQ]
 refine zY (k+1) w h "lufr" hw m _ _ fun a7 μ7 p7 g7 l7=>?_
 refine (dM g7).mpr ?_
 have q7:=q5.trans p7
 refine jR (fun i L j=>∃ U X Y,μ7 <+: j/\L=[some (.loc t),some (.loc c),some (.int w),some (.int h),some (.loc d),U,X,Y])
  ⟨none,none,none,T9 _,rfl⟩ (fun i L j ⟨_,_,_,p,_⟩=>aY p g7) ?_ ?_
 ·rintro i x L E G ⟨U,X,Y,y,rfl⟩
  obtain ⟨e,he,rfl⟩:=oQ G
  refine ⟨_,rfl,?_⟩
  obtain ⟨hi,hk⟩:=mem_partI.mp (Ts he)
  obtain ⟨a,b,o⟩:=SN hk
  simp only [Tc,Tf]
  rw [aT]
  simp only [EF,aV,aM,aK,aE,aF,aQ]
  refine An (k+1) e "q" _ _ fun a9 μ9 s l9 g9=>?_
  rw [o] at g9
  refine (Px g9).mpr ?_
  simp only [Tc,Tf,b8,oI,cA,aU,aE,aF]
  have q9:=q7.trans (y.trans s)
  rw [qW np (aY q9 u)]
  by_cases n:e∈ps
  ·rw [decide_eq_true n]
   simp only [Ut,Te,if_false,b7]
   exact ⟨_,_,_,y.trans s,rfl⟩
  ·rw [decide_eq_false n]
   simp only [V5,if_true]
   have ma:a∈cE e.1 e.2 "q":=by rw [o];simp
   have mb:b∈cE e.1 e.2 "q":=by rw [o];simp
   have ea:e∈cE a.1 a.2 "lufr":=mem_near.mpr ⟨bes_sym.mp (mem_near.mp ma).1,hk⟩
   have sa:St w h ps a a:=⟨e,ea,hi,n,ma⟩
   have sb:St w h ps a b:=⟨e,ea,hi,n,mb⟩
   refine (EO (aY q9 M) (fR a) (oS T ((R a).mpr sa.in))).mpr ?_
   refine (EO (aY q9 M) (fR b) (oS T ((R b).mpr sb.in))).mpr ?_
   have el:iF w h ps b=iF w h ps a:=by
    unfold iF
    rw [Al sa.in (Rc.step .refl sb)]
    cases e2:bA w h ps a with
    | nil=>
     have:=Am (ps:=ps) sa.in
     rw [e2] at this
     cases this
    | cons x r=>rfl
   unfold nF
   rw [el,tL]
   simp only [beq_self_eq_true,Ut,Te,if_false,b7]
   exact ⟨_,_,_,y.trans s,rfl⟩
 ·rintro L E ⟨U,X,Y,y,rfl⟩
  have q8:=q7.trans y
  obtain ⟨_,bs,gt,pd⟩:=A1.more q8
  have bl:bs.length<=144:=by
   rw [Vb pd,S6]
   unfold bW dZ
   refine T8 (Um _ _) ?_
   rw [Ux]
   exact k9 hw m
  simp only [bJ,aU]
  refine gF (xs:=bs.map D.loc) (p:=fun _=>false) (v:=fun d=>d) ?_
  simp only [dH,aE]
  refine (dM gt).mpr ⟨hZ gt,rfl,by rw [S6,TY];omega,fun x j G n=>?_,(fun x j G z=>by cases z),fun j n hg=>?_⟩
  ·obtain ⟨b,l,rfl,hl,g⟩:=F2 pd G
   obtain ⟨r,e⟩:=Ar hl
   simp only [TM,T3,cA,aU,aV,aM,aK,aE,aF,aQ]
   refine (gE (aY n g) (d:=PP l) (jU (by decide) (by rw [e];rfl))).mpr ?_
   refine Su k hw m np (aY (q8.trans n) u) (mem_ldrs.mp hl).1 _ fun μ9 s=>?_
   refine (oM (aY (n.trans s) g)).mpr ?_
   rw [S6,tL]
   simp only [beq_self_eq_true,Ut]
   exact ⟨trivial,s⟩
  ·have O:j[E.length]? = some (.lst []):=by rw [hg,a0d.mpr (fun _ _ z=>Uc z)];rfl
   simp only [fE,aK]
   refine ⟨Uv _,?_⟩
   refine (oK (ps:=[]) (qs:=[]) (ne:=false) (aY (bF _ _) O) (bZ _ _)).mpr ?_
   exact H _ (Z.trans (q8.trans (n.trans (bF _ _))))
theorem F5 {a:Hm}{t u:Nat}:∀ {bs d:List Nat}{g:List (List (Int×Int))},Vr (fun b L=>t<b/\a[b]? = some (.lst (L.map PP))) bs g->Vr (fun b L=>u<b/\a[b]? = some (.lst (L.map PP))) d g->fW (cJ 7 a) (bs.map D.loc) (d.map D.loc)=some true
 | _,_,_,.nil,.nil=>rfl
 | b::bs,c::d,L::g,.cons r1 t1,.cons r2 t2=>by
  show (cJ 7 a (.loc b) (.loc c)).bind (fun x=>(fW (cJ 7 a) (bs.map D.loc) (d.map D.loc)).map fun y=>x&&y)=_
  have h:cW a (.loc b)=some (.lst (L.map PP)):=by simp only [cW,r1.2]
  have i:cW a (.loc c)=some (.lst (L.map PP)):=by simp only [cW,r2.2]
  have e:cJ 7 a (.loc b) (.loc c)=some true:=by
   show (cW a (.loc b)).bind (fun x=>(cW a (.loc c)).bind fun y=>gR (cJ 6 a) x y)=_
   rw [h,i]
   have:=zI 4 a L L
   rw [beq_self_eq_true] at this
   exact this
  rw [e,F5 t1 t2]
  rfl
theorem SR {a:Hm}{lo b t u:Nat}{c:List (List (Int×Int))}(A:FA a lo t c)(B:FA a b u c){Q:D×Hm->Prop}:W (a8 false (.loc t) (.loc u) a) Q↔Q (.bl true,a):=by
 obtain ⟨_,bs,g,l⟩:=A
 obtain ⟨_,d,h,m⟩:=B
 have e:cJ 8 a (.loc t) (.loc u)=some true:=by
  have i:cW a (.loc t)=some (.lst (bs.map D.loc)):=by simp only [cW,g]
  have j:cW a (.loc u)=some (.lst (d.map D.loc)):=by simp only [cW,h]
  show (cW a (.loc t)).bind (fun x=>(cW a (.loc u)).bind fun y=>gR (cJ 7 a) x y)=_
  rw [i,j]
  exact F5 l m
 unfold a8
 rw [e]
 exact W_some
theorem SS {h:Hm}{lo t:Nat}{d:List (List (Int×Int))}(A:FA h lo t d)(x:d.length<=144){y B E G I K:Option D}(Q:D×Hm->Prop)(H:∀ a c,h <+: c->FA c h.length a d->Q (.loc a,c)) :
  W (cU (cG (aA 5)) eZ (aI mI (aC (aA 7) aD)) [y,B,E,G,I,some (.loc t),K] h) Q:=by
 obtain ⟨_,bs,r,n⟩:=A
 have bl:bs.length<=144:=by rw [Vb n];exact x
 refine PQ ?_
 simp only [dH,aE,aF]
 refine (dM r).mpr ⟨(bs.map D.loc).length,fun i o c=>h <+: c/\o.length=i/\∃ j:List Nat,o=j.map D.loc/\Vr (fun b L=>h.length<b/\c[b]? = some (.lst (L.map PP))) j (d.take i),rfl,by rw [S6,TY];omega,fun i o c z=>Y8 z.2.1,⟨bF _ _,rfl,[],rfl,.nil⟩,?_,?_⟩
 ·rintro i o c u ⟨l,v,j,rfl,q⟩ p
  have g:i<bs.length:=by rw [S6] at u;exact u
  have O:bs[i]? = some bs[i]:=S7 g
  have e:d[i]? = some (d[i]'(by rw [<- Vb n];exact g)):=S7 _
  generalize d[i]'(by rw [<- Vb n];exact g)=L at e
  obtain ⟨b,s,R,w⟩:=qY n e
  refine ⟨.loc b,[some (.loc b)],?_,rfl,?_⟩
  ·rw [hZ r c i l,TB,s]
   rfl
  ·rw [w_mTrue]
   refine ⟨(fun z=>by cases z),fun _=>?_⟩
   simp only [TM,T3,aV,aM,aK,aE,aF]
   refine (PV (aY l w)).mpr ?_
   have m:h.length<c.length:=(S2.mp p).1
   refine ⟨aY (bF _ _) p,fP (l.trans (bF _ _)) (Th _) _,?_,j++[c.length],?_,?_⟩
   ·rw [Td,v];rfl
   ·rw [UW];rfl
   ·rw [iB e]
    refine XX (Vr.mapP q fun N M z=>⟨z.1,?_⟩) ⟨m,?_⟩
    ·rw [eE (Vi z.1)]
     exact aY (bF _ _) z.2
    ·rw [eE (Vi m)]
     exact bZ _ _
 ·rintro o c ⟨l,v,j,rfl,q⟩ p
  refine ⟨?_,H _ _ l ⟨Th _,j,p,?_⟩⟩
  ·rw [hZ r c _ l,Up (Th _)]
  ·rw [S6,Vb n,Ux] at q
   exact q
theorem SU (ns:List Int):iK (ns.map D.int) (some 2) none=(ns.drop 2).map D.int:=by
 unfold iK
 have b:HT.sIx (ns.map D.int).length 0 (some 2)=min 2 ns.length:=by
  have:=HT.sIx_nat (ns.map D.int).length 0 2
  rw [S6] at this
  rw [S6]
  exact this
 rw [b,HT.sIx_none,S6]
 by_cases h:2<=ns.length
 ·rw [WL h,Z4,Vo]
  rw [Uk,S6]
  exact Th _
 ·have a:min 2 ns.length=ns.length:=by omega
  rw [a,UU (by rw [S6];omega),UU (by omega)]
  simp
theorem SV {m:ME}{ρ:aH}{b:Hm}{a:Nat}{mk:Int×Int->Str}{ps:List (Int×Int)}(h:b[a]? = some (.dT (aZ (bY mk) ps)))(c:∀ Q:D×Hm->Prop,W (m ρ b) Q↔Q (.loc a,b)){Q:D×Hm->Prop}:W (oD m ρ b) Q↔Q (.loc b.length,b++[.lst ((cQ mk ps).map MD)]):=by
 have e:sQ (.loc a) b=some (.loc b.length,b++[.lst ((cQ mk ps).map MD)]):=by
  simp only [sQ,h]
  rw [Aa]
  unfold aZ
  rw [Ud]
  rfl
 unfold oD
 rw [W_bind,c]
 dsimp only
 rw [e]
 exact W_some
theorem F6 {z:Int}{a:Hm}{Q:D×Hm->Prop}:W (dP (.int z) (.int 24) a) Q↔Q (.int (z / 24),a):=qM (by decide) (by decide)
theorem FA.set {d:Hm}{lo t n:Nat}{a:List (List (Int×Int))}(A:FA d lo t a)(h:n<lo)(c:C):FA (d.set n c) lo t a:=by
 obtain ⟨l,bs,g,p⟩:=A
 exact ⟨l,bs,by rw [eE (by omega)];exact g,Vr.mapP p fun b L z=>⟨z.1,by rw [eE (by omega)];exact z.2⟩⟩
theorem SW (k:Nat)(ns:List Int)(hns:ns.length<=63)(μ:Hm):W (f (k+6) "law" [.rol (ns.map D.int)] μ) fun r=>r.1=.bl true:=by
 rw [Qx,bL,aT]
 simp only [bR,aV,aM,aK,aE,aF,aQ]
 refine tX _ ns 0 (by decide) _ _ fun μ1 p1=>?_
 refine Fc _ _ _ _ fun μ2 p2=>?_
 simp only [Tc,Tf]
 rw [aT]
 simp only [bR,aV,aM,aK,aE,aF,aQ]
 refine tX _ ns 1 (by decide) _ _ fun μ3 p3=>?_
 refine Fc _ _ _ _ fun μ4 p4=>?_
 simp only [Tc,Tf]
 have hw:=Fb (cell ns 0)
 have c:=Fb (cell ns 1)
 generalize k7 (cell ns 0)=w at hw
 generalize k7 (cell ns 1)=h at c
 rw [aT]
 simp only [bR,aV,aM,aK,aE,aF]
 refine EM ?_
 simp only [aE]
 refine ⟨_,rfl,?_⟩
 simp only [zK,PM,aQ]
 rw [SU]
 refine Ro (k+2) hw c (ns:=ns.drop 2) (by rw [Uk];omega) (bZ _ _) _ fun a4 a m s p6 l6 M I=>?_
 simp only [Tc,Tf]
 rw [aT]
 simp only [bR,fQ,aM,aK,aE,aF]
 rw [RW I (fun Q=>by simp only [aE,aF])]
 refine ⟨by show (3:Nat)<=Tj;decide,?_⟩
 simp only [Tc,Tf]
 rw [aT]
 refine bQ (Q:=fun p:Fl×aH×Hm=>p.1=.nx/\p.2.1=[some (.rol (ns.map D.int)),some (.int w),some (.int h),some (.loc a4),some (SH w h (cQ m (srt a))),none,none]/\s <+: p.2.2) ?_ ?_
 ·simp only [b8,cA,aU,aV,aM,aK,aE,aF,aQ]
  refine tX _ ns 0 (by decide) _ _ fun X g=>?_
  rw [F6,t9,i5]
  cases cell ns 0 / 24 % 3 == 1 with
  | false=>
   simp only [Te,if_false,b7]
   exact ⟨trivial,(by first|rfl|trivial),g⟩
  | true=>
   simp only [if_true,bR,aV,aM,aK,aE,aF]
   rw [SV (aY g I) (fun Q=>by simp only [aE,aF])]
   refine Ri (k+1) hw c M (bZ _ _) _ fun j i=>?_
   exact ⟨trivial,rfl,g.trans ((bF _ _).trans i)⟩
 rintro ⟨fl,ρ,X⟩ ⟨rfl,rfl,g⟩
 dsimp only at g ⊢
 rw [aT]
 refine bQ (Q:=fun p:Fl×aH×Hm=>p.1=.nx/\p.2.1=[some (.rol (ns.map D.int)),some (.int w),some (.int h),some (.loc a4),some (SH w h (cQ m (srt a))),none,none]/\s <+: p.2.2) ?_ ?_
 ·simp only [b8,cA,aU,aV,aM,aK,aE,aF,aQ]
  refine tX _ ns 0 (by decide) _ _ fun j i=>?_
  rw [F6,t9,i5]
  cases cell ns 0 / 24 % 3 == 2 with
  | false=>
   simp only [Te,if_false,b7]
   exact ⟨trivial,(by first|rfl|trivial),g.trans i⟩
  | true=>
   simp only [if_true,bR,aV,aM,aK,aE,aF]
   refine FD (k+2) hw c M.ok M.srt.nd _ _ fun v N=>?_
   rw [Fv (FF m a)]
   refine RV (k+1) hw c M _ _ fun l O=>?_
   exact ⟨trivial,rfl,g.trans (i.trans (N.trans O))⟩
 rintro ⟨fl,ρ,j⟩ ⟨rfl,rfl,i⟩
 dsimp only at i ⊢
 have g8:=aY i I
 have ll:((bW w h a).map (bA w h a)).length<=144:=by
  rw [S6]
  unfold bW dZ
  refine T8 (Um _ _) ?_
  rw [Ux]
  exact k9 hw c
 rw [aT]
 simp only [bR,aV,aM,aK,aE,aF]
 refine FW k hw c M.nd _ _ fun t v N A=>?_
 have A:FA v j.length t ((bW w h a).map (bA w h a)):=A
 simp only [Tc,Tf]
 rw [aT]
 simp only [b8,gZ,dG,aV,aM,aK,aE,aF]
 refine SQ (k+1) hw c M.nd A (aY N g8) _ fun l O=>?_
 simp only [c5,Ut,Te,if_false,b7]
 have B:=A.more O
 rw [aT,bR]
 refine SS B ll _ fun u n R AB=>?_
 simp only [Tc,Tf]
 obtain ⟨_,bs,E,T⟩:=B.more R
 have h0:∃ b,bs[0]? = some b/\b<l.length/\∃ L:List (Int×Int),n[b]? = some (.lst (L.map PP)):=by
  obtain ⟨_,H,d,U⟩:=B
  have eb:bs=H:=by
   rw [aY R d] at E
   have:=TZ E
   injection this with this
   exact ((YS fun x y z=>by injection z).mp this).symm
  have nl:0<(bW w h a).length:=by
   have K:(2,1)∈aP w h "q":=mem_partI.mpr ⟨by unfold i7;dsimp only;omega,by decide +kernel⟩
   exact a0c (mem_ldrs.mpr ⟨(Ap (ps:=a) K).in K,FY K⟩)
  obtain ⟨b,q,_,o⟩:=qY (i:=0) U (by rw [TB,S7 nl];rfl)
  exact ⟨b,by rw [eb];exact q,(S2.mp o).1,_,aY R o⟩
 obtain ⟨b,q,lb,L,o⟩:=h0
 have lt:t<l.length:=by
  obtain ⟨_,_,d,_⟩:=B
  exact (S2.mp d).1
 rw [aT,mM]
 refine kY ?_
 simp only [aU,aE,aF,aQ]
 refine (gE E (d:=.loc b) (jU (by decide) (by rw [TB];show (bs[0]?).map D.loc=_;rw [q];rfl))).mpr ?_
 refine ⟨kZ o,?_⟩
 simp only [aK]
 refine (PJ o).mpr ?_
 have Z:=AB.set lb (.lst [])
 have tb:t≠b:=by
  obtain ⟨x,hx,hz,_⟩:=qY (i:=0) T (S7 (by rw [<- Vb T];exact (S2.mp q).1))
  rw [q] at hx
  cases hx
  omega
 have e:(n.set b (.lst []))[t]? = some (.lst (bs.map D.loc)):=by rw [eE tb];exact E
 generalize n.set b (.lst [])=μC at Z e
 rw [aT,mM]
 refine kY ?_
 simp only [aE,aF]
 refine ⟨kZ e,?_⟩
 simp only [aM,aK,fE]
 refine ⟨Uv _,?_⟩
 have bl:bs.length<=144:=by rw [Vb T];exact ll
 refine (tR (aY (bF _ _) e) (by rw [S6,TY];omega)).mpr ?_
 have AD:=(Z.more (bF μC (C.lst []))).set lt (.lst (bs.map D.loc++[.loc μC.length]))
 generalize (μC++[C.lst []]).set t (.lst (bs.map D.loc++[.loc μC.length]))=μD at AD
 simp only [bJ,aU,aV,aM,aK,aE,aF]
 refine FW k hw c M.nd _ _ fun t2 Y pE G=>?_
 simp only [aE,aF]
 have G:FA Y μD.length t2 ((bW w h a).map (bA w h a)):=G
 rw [SR G (AD.more pE)]
theorem SX:∀ ns:List Int,ns.length<=63->∃ a,iY S ds 6 "law" [.rol (ns.map D.int)] []=some (.bl true,a):=fun ns b=>by
 obtain ⟨⟨d,a⟩,c,e⟩:=SW 0 ns b []
 dsimp only at e
 subst e
 refine ⟨a,?_⟩
 unfold f at c
 exact c
end Lw
namespace Lw
open PySem L2 L3
theorem dz (Q:WV):tG (Kx Q) ds:=by unfold tG;kernel_rfl
theorem cz (Q:WV):ED (Kx Q) S.con=true:=by kernel_rfl
theorem nz (Q:WV):S.no.map (Ye (Kx Q) Vf)=S.no.map fun _=>some none:=by kernel_rfl
theorem SY {P:TC}{w:T7}{Q:WV}
  {h:UA}{mg:Str → Option S4}(X:(Kx Q).In h)(G:h.Ns Vf mg):TxtOk P w (Kx Q) mg S ds ∧ ∃ f a,Fun (Kx Q) "law" "law" (aO 52) f a ∧ mg "law" = some (.ref f) ∧ ∀ (s:S5)(u:S4),ZF s a ⟨[u],[]⟩ [("_law_script",u)]:=by
 refine ⟨⟨Ph (by decide +kernel),Pj fun p b=>(EA X G (dz Q) p b).1,Pk (Pp X G (cz Q)),fun x c e=>?_,Pl (Po X G (nz Q))⟩,Pn X G (dz Q) (by kernel_rfl) (by kernel_rfl)⟩
 ·cases e
end Lw
open PySem PySem.W PyProof.Rows
set_option maxRecDepth 100000 in
set_option maxHeartbeats 0 in
theorem PySem.Challenge.cw_creasecourt_k26_faces_hang_together_holds : PySem.Challenge.rw_creasecourt_k26_faces_hang_together.Holds := by
 w_on
 refine holds_law (by decide +kernel) fun a=>?_
 refine holds_open (q:=Lw.Vw) (loose:=[]) (Xt:=fun s=>xlAt Lw.Vw [] s&&recOk (a2x (a1p (Z6 UO))) s) (XP:=XL Lw.Vw []) (Yf:=Hook.obs (a3D Lw.Kx Lw.As Lw.pC)) (Ya:=Hook.val (a3D Lw.Kx Lw.As Lw.pC)) (YP:=Hook.says (a3D Lw.Kx Lw.As Lw.pC)) (N:=5244) Lw.run (Hook.of _) (Hook.keeps _) (fun s e=>xl_of s (Wt.mp e).1) XL.keeps (by rfl) (by rfl) (by rfl) (fun s e=>recFacts_of (Wt.mp e).2) (by rfl) (by first|assumption|decide +kernel) (by decide +kernel) ⟨rfl,rfl,rfl,rfl,rfl,by decide +kernel⟩ ?hw ?hc
 case hw=>w_witness2
 k_fill
 refine L3.walkM (l:=UO) (S:=Lw.S) (ds:=Lw.ds) (k:=6) (st:=Lw.aO 52) (x:="_law_script") rfl rfl ⟨rfl,by decide,by decide⟩ (fun w h Y=>PySem.W.kIn_of Y) (by kernel_rfl) (by kernel_rfl) ?F (fun c h _=>Lw.SX c h)
 case F=>
  intro w d h b G
  refine' Lw.SY (P:=UP) (w:=w)  b G
