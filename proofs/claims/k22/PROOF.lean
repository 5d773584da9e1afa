import PyProof.Rows.All
import Wide.All
import OpenK.AllK
import Wide.FinOn
import PyProof.EqAt
import PyProof.EqKinds
import PyProof.TupleCall
import KE.KDictSum
import PyProof.SliceStr2
import PyProof.NeKinds
import PyProof.StrWalks
import PyProof.ConsumeWalk
import KE.KSortTup
import PyProof.Rows.SetFrom
import PyProof.Rows.SortStr
import PyProof.SumAny
import PyProof.EnumMake
import KE.KRevIter
import PyProof.MeetsStr
import PyProof.ListRange
import PyProof.Rows.Range3
import KE.KDictList
import PyProof.PureStr
import PyProof.WalkInts
import PyProof.ConsumeS
import PyProof.ZipIter
import PyProof.AttrMissHeap
import KE.KDictOf
import PyProof.DictItems
import KE.KItemsList
import KE.KEqDict
import PyProof.DictValues
import PyProof.DictWalks
import PyProof.Rows.StrNews
import PySem.Challenge.RW_creasecourt_k22_sheets_made
open Array renaming getElem?_toList->Sx,toList_push->S0,toList_inj->Tn,toList_append->TH,length_toList->TJ,getD->Ua,getElem?_eq_getElem->UQ,getElem?_eq_none->Wb,replicate->Xq,toList_setIfInBounds->XT,toList_reverse->YN,toList_extract->YO,append_assoc->Zc,toList->a0J,map->a1V
open Bool renaming false_eq_true->Q3,and_eq_true->Q7,false_ne_true->RR,not_true->Sh,not_false->Ui,and_eq_true_iff->UJ,or_eq_true->UZ,not_eq_true'->V4,false_and->X3,or_false->Yj,and_true->a0I
open Classical renaming choose->WR,choose_spec->X2
open False renaming elim->Tv
open ForInStep renaming yield->UO
open Int renaming toNat_natCast->UB,emod_lt_of_pos->VU,le_of_lt->Wl,emod_nonneg->Wq,le_refl->Xu
open List renaming getElem?_eq_some_iff->QN,getElem?_eq_getElem->QV,length_map->QY,size_toArray->QZ,length_append->Q8,getElem?_append_left->Q9,map_cons->Ra,append_assoc->Rc,set_cons_zero->Rf,getElem?_append_right->Rg,set_cons_succ->Rh,mem_cons_of_mem->Rm,length_cons->Rq,getElem?_set_ne->Rt,mem_cons_self->Ru,getD_eq_getElem?_getD->Rv,mem_of_getElem?->Rz,pairwise_iff_getElem->RB,length_take->RC,mem_cons->RD,mem_map->RE,getElem?_map->RH,map_map->RJ,length->RN,zipWith_cons_cons->RO,mem_singleton->RQ,getD->RS,take_append_drop->RT,getElem?_toArray->RU,length_drop->RZ,getElem?_eq_none->R8,all_cons->Sa,mem_append->Sb,range->Se,getElem?_set_self->Sf,nodup_cons->So,find?_cons->Sq,mem_range->Ss,getElem?_take_of_lt->Sv,mem_append_right->Sz,getElem?_reverse->SA,toList_toArray->SD,map_congr_left->SE,length_reverse->SF,length_set->SG,drop_of_length_le->SM,pairwise_map->SQ,pairwise_append->SS,append_nil->SW,cons_append->SY,length_eq_zero_iff->Tc,map_append->Th,drop_eq_getElem_cons->Tj,getElem_mem->To,replicate->Tq,nil_append->Tx,length_nil->Tz,getElem_of_mem->TK,take_of_length_le->TM,perm_append_comm->TR,length_replicate->TU,length_filter_le->TV,getElem?_eq_none_iff->TZ,ext_getElem?->T6,prefix_refl->Ue,getElem?_replicate->Ug,drop_zero->Uh,getElem?_drop->Um,mem_iff_getElem?->Ut,take_sublist->Uw,reverse_cons->Ux,nodup_append->Uy,getElem?_of_mem->UI,countP_cons->UN,pairwise_cons->U0,getElem?_cons_succ->U2,take_zero->Ve,reverse_perm->Vf,map_nil->Vg,range'_succ->Vr,lookup_cons->Vs,all_eq_true->Vt,any_cons->VC,range'->VF,mem_filter->VI,rel_of_pairwise_cons->VZ,drop_sublist->V3,set_append_right->Wn,pairwise_reverse->Wo,mem_of_mem_take->Wv,lookup->Ww,take_succ_cons->WI,map_eq_nil_iff->WJ,filterMap_cons->WK,mem_filterMap->WT,filter_append->WU,Nodup->WV,zipWith->WZ,length_range->W0,getElem_take->W2,take_append_of_le_length->Xn,drop_append_of_le_length->Xo,of_mem_zip->Xs,take_left->XY,drop_left->XZ,drop_drop->X0,extract_eq_drop_take->Yb,pairwise_mergeSort->Yt,set_getElem_self->YH,length_singleton->YI,eq_nil_or_concat->YJ,dropLast_eq_take->YK,concat_eq_append->YL,set_append_left->YV,mem_of_mem_drop->YW,mem_append_left->YX,take_set_of_le->Y5,takeWhile_cons->Y6,mergeSort_perm->Y7,length_pos_iff->Y8,getElem?_range->Y9,getD_cons_zero->Za,filter_eq_self->Zb,zip_cons_cons->Zm,prefix_append->Zn,find?_eq_none->Zo,take_add_one->ZK,map_inj_left->ZL,getElem_drop->ZM,take_prefix->ZT,take_length->ZU,nodup_range->ZV,mem_reverse->ZW,map_reverse->ZX,getElem_inj->ZY,filter_cons->ZZ,ext_getElem->Z0,foldl_cons->a0f,filter_map->a0g,drop_left'->a0h,map_drop->a0H,set_set->a0V,not_lt->a1j,map_id->a1k
open List.Pairwise renaming sublist->SX,imp_of_mem->TQ,nil->Wj,map->X1,imp₂->a1l
open List.Perm renaming refl->UX,eq_of_pairwise->VR,trans->YZ
open List.Sublist renaming length_le->a1L
open List.cons renaming injEq->YY
open Nat renaming le_refl->Q0,ne_of_lt->Ro,lt_of_lt_of_le->RF,zero_le->Su,le_trans->SR,ne_of_gt->S7,add_sub_cancel_left->Tw,zero_add->T9,not_lt->Up,lt_or_ge->Uq,lt_irrefl->Us,lt_trichotomy->UA,sub_self->Vl,lt_trans->Vm,le_of_lt->Vn,le_succ->VG,not_lt_zero->VM,lt_succ_of_lt->V6,min_eq_left->Wm,succ_pos->Xa,sub_zero->Xb,lt_succ_self->Xm,add_assoc->Ys,exists_eq_add_of_le->Yw,le_of_eq->YF,add_zero->YG,le_of_lt_succ->ZS,lt_of_not_le->a0c,le_of_not_lt->a0d,lt_succ_iff->a0r,succ_mul->a1i,log2_lt->a1K,mod_lt->a2g
open Ne renaming symm->Sw
open Option renaming bind_eq_some_iff->QF,map_eq_some_iff->QR,map_some->RL,bind_some->RM,isSome_map->U3,isSome_none->VP,isSome_some->WH,getD_none->Zl,none->a0G
open Option.some renaming inj->RA
open Or renaming inr->YU,inl->ZR
open Prod.mk renaming inj->Wi
open PyProof.Rows renaming seqObj->RY,callWith_type1->S3,SortSt->Tp,IntsAre->Uz,entry_list_sort->UE,slot_list_sort->UR,args_list_sort->UT,SortKind->U6,sortedAll_old->Vq,sortedAll_at->VE,listUpdate_at->VN,sortedHeap->V8,seqEpoch_at->We,callWith_builtin1->Wu,AllBare->W5,strOf->XA,plain_sorted->XB,entry_sorted->XF,args_sorted1->XI,lt_int->XN,envOfC->XO,pendingOf->X5,kind_sorted->Ye,list_sort_plain->Yn,get?_update_seq->Yo,subscriptTail->Y3,arrOf->Zi,subscriptTail_builtinR->Zt,listItems_at->Zv,mergeAt'->a0a,getElem?_mirror_all->a0l,keyLt'->a0y,Subscript_->a0E,IsTup->a0X,getElem?_bubble->a1t,wpAny_notIn_heap->a1u,sorted_ints->a1v,pow_int_small->a1w,pow_int->a1x,oneLt_int->a1y,mul_int->a1z,mirror_perm->a1A,kindOf->a1B,floordiv_int->a1C,entry_proto_collect'->a1D,entry_list_iadd'->a1E,call_len_slot->a1F,bubble_perm->a1G,bubble->a1H,assign_Tuple_tuple->a1I,assign_Tuple->a1J,sortedHeap_old->a1X,mirror->a2b
open PyProof.Rows.Boot renaming sorted->Ub,tuple->U8,list->Vi,dict->Vj,str->ZC,reversed->ZD,len->ZE,isinstance->ZF,int->ZG,bool->ZH
open PyProof.Rows.SortSt renaming mk'->Ry
open PySem renaming wpAny_bind->QK,Value->QL,Shared->QM,wpAny_pure->QX,Expr->Q1,sizeLine->Q6,wpAny->Ri,Program->Rk,model->Rl,Around->Rw,World->RG,starEach->RK,wpAny_holding->RP,wpAny_mono->RV,sysModules->RX,compareOp->R6,Heap->Si,DictEntry->Sj,wpAny_dictEntries->Sk,sizeLine_eq->Sn,mem_of_lookup->Sy,wpAny_call_entry->SJ,cLine->SK,tupleKind->SN,bootBuiltins->S2,mainGlobals->S6,wpAny_notOrdered_dict->S8,Pos->Ta,Obj->Td,wpAny_newObj_type->Ti,wpAny_Call_Name_kw->Tr,intKind->Tt,wpAny_truthy_bool->TL,assignEach->TN,FuncData->T3,NameKind->Ud,wpAny_rule->Uj,backTo->Uk,Scope->Uo,wpAny_setField_rec->Uu,wpAny_ite_split->UD,behindInMarks->UG,attributeBase->UH,atKey->UM,binaryOp->US,wpAny_isInstance->UW,Keyword->UY,wpAny_newList->U4,plainId_quiet->U5,Params->U7,CmpOp->U9,wpAny_specialOf->Va,wpAny_dictEpoch->Vb,codeAny_builtin->Vc,rawInt->Vh,Paired->Vk,swapsWith->Vo,foldedSetIterable->Vx,compEnvC->Vy,codeAny->Vz,sliceBounds->VQ,wpAny_passesOwn->VT,call_meetsIn->V1,wpAny_field->Wc,pyNext->Wf,wpAny_Call_method0_late->Wr,SetTable->Wt,wpAny_typeOf->Wz,wpAny_isOneOf_itemiter->WA,wpAny_Assign_Subscript->WB,evalArgs_none->WC,wpAny_updateSeq->WE,letOwnedTupleGo->WG,builtinLookup_eq_fast->WM,wpAny_newTuple->WW,keywordEach->WX,firstArgMember->WY,Env->W3,wpAny_load->Xg,typeOf->Xh,typeLookup->Xi,call_meets->Xj,assign->Xk,valueAt->Xw,getItem->XE,codeAny_mono->XG,callerA->XH,BindsTo->XS,wpAny_forIn_list->X4,Result->X7,subscripted->Yd,wpAny_execs_nil->Yk,typeLookup_type->Yl,size_of_entries->Ym,wpAny_richCompare_same_room->Yu,storedH->Yv,wpAny_setField->Yx,pyIter->Yy,dictSetDefault->Yz,checkCount->YA,callType_codes->YB,bindArgs->YC,backToKw->YD,Operator->YE,wpAny_standAt->Y0,wpAny_attempt->Y1,swappedStores->Y2,wpAny_pyNext_tuple_item->Zd,wpAny_callSpecial?_slot->Ze,bindL->Zg,bindC->Zh,wpAny_pyNext_tuple_end->Zp,wpAny_pyNext_list_item->Zq,wpAny_Call_method_late->Zs,seqIndex_neg->Zu,isTrue->Zw,Sem->Zy,Fin->ZA,wpAny_pyNext_list_end->ZN,wpAny_isOneOf_keyiter->ZO,wpAny_updateDictKeys->Z4,wpAny_pyIter_keyiter->Z5,wpAny_letGo->Z6,storedH_new->Z7,setField->Z8,seqIndex_of->Z9,Model->a0e,IntMulOk->a0i,GenState->a0j,wpAny_dictFind_heap->a0k,wpAny_setItem_heap->a0s,wpAny_pyIter_tuple->a0t,wpAny_getItem_heap->a0u,wpAny_Name->a0v,typeIs_str->a0w,tupleKind_room_in1->a0x,getattributeRaised->a0z,entryOfKey->a0A,closureFor->a0B,builtinsNs->a0C,Tok->a0D,Slot->a0F,wpAny_pyIter_slot->a0K,wpAny_pyIter_list->a0L,wpAny_assign_Name->a0M,slot_list_getitem->a0N,relabel->a0O,atKey_none_of_get->a0P,MeetsIn->a0U,wpAny_execs_cons->a0Z,updateSeq->a1a,lastMarks->a1b,kt_code_dict_new->a1c,cellsFrom->a1d,call->a1e,PassesOwn->a1g,wpAny_loadPart'->a1r,typeNameOfWhole->a1s,wpAny_fieldsOf->a1W,recursionLimit->a1Y,putAt->a1Z,newExc->a2a,isSubtype_stop->a2e,entry_at->a2f
open PySem.Around renaming under_plainId->T1
open PySem.Builtin renaming sorted->VW
open PySem.Builtin.Dict renaming showsAll->TF,dictSlotArgs->Ur,updateFrom->UL,entriesForEmpty->WL,selfAndRest->W4,samePairs->Xe,pairItems->Xf,quietEq->Xv,noArgs->XR,readDirectly->a1O,pendingCount->a1P,mergeDict->a1Q,merge->a1R,keyAndDefault->a1S,dictSlotNone->a1T,addKeywords->a1U
open PySem.Builtin.Dict_items renaming ownsTuple->UU,ownedTupleIsFree->VX,ownedTupleFields->VY,pairFromOwner->V7,newIterator->Z2,dictOf->Z3
open PySem.Builtin.Int renaming intBits->RI,intTooBig->U1
open PySem.Builtin.List renaming listExtendWith->S4,listSameRef->UC,listLengthHint->WS,listItems->Xd,listUpdate->a1N
open PySem.Builtin.Range renaming rangeSize->a1q
open PySem.Builtin.Str renaming occurrences->R0
open PySem.Builtin.Tuple renaming tupleHashOf->a1o,tupleCompareSizes->a1p
open PySem.Calls renaming callWith_builtin->Ul,call_function_entry->UP,spliced_cons->VS,spliced_nil->V0,Name_function_global->XQ,evalArgs_plain->YM
open PySem.Challenge renaming rw_creasecourt_k22_sheets_made->SU,pw_creasecourt_k22_sheets_made->SV
open PySem.Data renaming fields->a1n,dict->a2i
open PySem.F renaming slot_dict_get->Vd,plainAttrs_dict->V2,slot_dict_setdefault->W8,slot_dict_getitem->Xr,slot_dict_items->XU,slot_dict_clear->XW,plainAttrs_list->XX,entry_dict_get->X9,type_dict_get->Yh,sub_dict_dict->Yi,slot_dict_ne->Yp,slot_dict_eq->Yq
open PySem.Heap renaming get?_push_of_some->QU,lt_size->Q4,get?_push_size->Rj,get?_update_other->Sg,get?_update_self->SO,SameBut->T8,size_push->Wy,ExtBut->Xp,size_update->Z1
open PySem.Heap.DictOf renaming new->a2h
open PySem.Heap.DictOfH renaming new->a1M
open PySem.Heap.IsSliceOf renaming new->a0Y
open PySem.Heap.SameBut renaming update->S9,refl->Yc
open PySem.NameKind renaming free->TC,cell->TY
open PySem.Obj renaming mapSeq->RW,data_mapDictKeys->UK,isFreed_of_dict->WQ,data_mapFields->ZJ,mapDictKeys->a0q,mapFields->a0T
open PySem.Obj.ExactDict renaming mapDictKeys->a1h
open PySem.Paired renaming length->WD,snoc->W9
open PySem.PassesOwn renaming never->YT
open PySem.SeqAt renaming ne_of_list_tuple->Tf,EqAt->XJ
open PySem.SeqAt.EqAt renaming int_int->Yg
open PySem.SetTable renaming below->VH,slot->Zx,has->ZP
open PySem.SetTable.below renaming go->VB
open PySem.SetTable.layClean renaming free->WN
open PySem.SetTable.probe renaming go->VA
open PySem.Str renaming ofString->Wg
open PySem.Value renaming ref->Q2,none->Sm,type->Tu,bool->Vp,int->VO,str->V9,isStrOf->a0m,builtin->a0n,isInt->a0R
open PySem.W renaming Frag->QH,kasC_bind->Q5,kasC_pure->Rb,kas_place->S1,kasC_range->S5,keepIn->Te,kia_one->Ts,kas_desc->TB,fnOf->TX,kas_rev->T4,kas_asc->T5,kasC_modify->Uc,kas_descPart->Uv,kasC_get->Vu,kasC->Vv,findIn->VJ,kas_tail3->V5,nsIn->Wa,codeIn->Wh,kasC_lift->Ws,methodObj->WO,kas_sort->XC,kas_bin->XD,mg_of->XM,hashAt->X6,cellsFrom_some->X8,specialIn->YQ,kitx_list->YR,kitx_dict->YS,plainGet->Y4,kas_count->Zf,instObj->Zj,OpenLaw->Zk,kitOne->Zz,WalkO->ZQ,isFn->a0b,KatTups->a0W,KasT->a1m,kat_kind->a2c,kHook->a2d
open PySem.W.KasT renaming ret->T7,ask->Wx
open PySem.W.OpenLaw renaming row->Yr
open PySem.W.OpenRow renaming toRowW->ZI
open PySem.W.RowW renaming records->a0S
open PySem.W.WData renaming int->VD,weightAll->VL,layable->Xc,weight->Xl,layableAll->a1f
open PySem.W.WShape renaming has->a0Q
open Std.Legacy.Range renaming size->a0o,forIn_eq_forIn_range'->a0p
open Sum renaming inr->W6,inl->W7
open True renaming intro->Tg
local macro_rules|`(tactic| omega) => `(tactic| lia)
set_option compiler.extract_closed false
set_option Elab.async false
set_option linter.all false
set_option maxRecDepth 100000
set_option linter.all false
namespace L2
open PySem PySem.Spec PyProof.Rows
noncomputable abbrev aD:=Sum Int Str
noncomputable def jV:aD->QL->Bool
 | .inl k,v=>a0R k v
 | .inr x,v=>a0m x v
noncomputable def yJ (w:RG):aD->Int
 | .inl k=>hashInt k
 | .inr x=>hashStr w x
theorem gU:∀ {k:aD}{v:QL},jV k v=true->(∃ i t,k=W7 i/\v=VO i t)\/(∃ x t,k=W6 x/\v=V9 x t)
 | .inl i,v,h=>by
  obtain ⟨t,e⟩:=Value.isInt_shape (k:=i) (v:=v) h
  exact .inl ⟨i,t,rfl,e⟩
 | .inr x,v,h=>by
  obtain ⟨t,e⟩:=Value.isStrOf_shape (x:=x) (v:=v) h
  exact .inr ⟨x,t,rfl,e⟩
theorem EI (i:Int)(t:a0D):jV (.inl i) (.int i t)=true:=by simp [jV,a0R]
theorem EJ (x:Str)(t:a0D):jV (.inr x) (.str x t)=true:=by simp [jV,a0m]
theorem EK (a b:Int):decide ((W7 a:aD)=W7 b)=(a == b):=by
 by_cases e:a=b
 ·subst e;simp
 ·have h:¬ (W7 a:aD)=W7 b:=fun q=>e (Sum.inl.inj q)
  rw [decide_eq_false h]
  exact (beq_eq_false_iff_ne.mpr e).symm
theorem EL (a b:Str):decide ((W6 a:aD)=W6 b)=decide (a=b):=by
 by_cases e:a=b
 ·subst e;simp
 ·have h:¬ (W6 a:aD)=W6 b:=fun q=>e (Sum.inr.inj q)
  rw [decide_eq_false h,decide_eq_false e]
theorem EM (a:Int)(b:Str):decide ((W7 a:aD)=W6 b)=false:=decide_eq_false (fun q=>nomatch q)
theorem EO (a:Str)(b:Int):decide ((W6 a:aD)=W7 b)=false:=decide_eq_false (fun q=>nomatch q)
noncomputable def cK (prog:Rk)(w:RG):PySem.KeyKind prog w aD where
 is:=jV
 hash:=yJ w
 inj:=fun v a b ha hb=>by
  rcases gU ha with ⟨i,t,rfl,rfl⟩|⟨x,t,rfl,rfl⟩
  ·rcases gU hb with ⟨j,u,rfl,e⟩|⟨y,u,rfl,e⟩
   ·injection e with e1 _;rw [e1]
   ·exact nomatch e
  ·rcases gU hb with ⟨j,u,rfl,e⟩|⟨y,u,rfl,e⟩
   ·exact nomatch e
   ·injection e with e1 _;rw [e1]
 byValue:=fun k v h=>by
  rcases gU h with ⟨i,t,rfl,rfl⟩|⟨x,t,rfl,rfl⟩<;>rfl
 pyHash:=fun hv h=>by
  rcases gU hv with ⟨i,t,rfl,rfl⟩|⟨x,t,rfl,rfl⟩
  ·exact wpAny_pyHash_int h
  ·exact wpAny_pyHash_str h
 eqBool:=fun hu hv h=>by
  rcases gU hu with ⟨i,t,rfl,rfl⟩|⟨x,t,rfl,rfl⟩
  ·rcases gU hv with ⟨j,u,rfl,rfl⟩|⟨y,u,rfl,rfl⟩
   ·rw [EK] at h;exact wpAny_eqBool_int h
   ·rw [EM] at h;exact SeqAt.EqAt.int_str i t y u _ _ _ _ h
  ·rcases gU hv with ⟨j,u,rfl,rfl⟩|⟨y,u,rfl,rfl⟩
   ·rw [EO] at h;exact SeqAt.EqAt.str_int x t j u _ _ _ _ h
   ·rw [EL] at h;exact wpAny_eqBool_str h
 «strs»:=fun k x t v h=>by
  rcases gU h with ⟨i,u,rfl,e⟩|⟨y,u,rfl,e⟩
  ·exact nomatch e
  ·injection e with e1 _
   subst e1
   cases v<;>rfl
theorem ER (prog:Rk)(w:RG)(i:Int)(t:a0D):(cK prog w).is (.inl i) (.int i t)=true:=EI i t
theorem ES (prog:Rk)(w:RG)(x:Str)(t:a0D):(cK prog w).is (.inr x) (.str x t)=true:=EJ x t
end L2
namespace L2
open PySem PySem.Spec PyProof.Rows
inductive V where
 | non|bl (b:Bool)|int (i:Int)|str (x:Str)|byt (b:Array UInt8)|flt (b:UInt64)|ref (a:Addr)|ty (n:String)
 deriving DecidableEq
noncomputable def RelV:V->QL->Prop
 | .non,u=>u=Sm
 | .bl b,u=>u=Vp b
 | .int i,u=>∃ t,u=VO i t
 | .str x,u=>∃ t,u=V9 x t
 | .byt b,u=>∃ t,u=Value.bytes b t
 | .flt b,u=>∃ t,u=Value.float b t
 | .ref a,u=>u=Q2 a
 | .ty n,u=>u=Tu n
noncomputable abbrev Vals:List V->List QL->Prop:=Vk RelV
theorem Vals.length {xs:List V}{us:List QL}(r:Vals xs us):xs.length=us.length:=WD r
theorem Vals.get:∀ {xs:List V}{us:List QL}{i:Nat}{x:V},Vals xs us->xs[i]? = some x->∃ u,us[i]? = some u/\RelV x u
 | _,_,_,_,.nil,e=>by simp at e
 | _,_,0,_,.cons r _,e=>by simp at e;subst e;exact ⟨_,rfl,r⟩
 | _,_,i+1,x,.cons _ t,e=>by
  obtain ⟨u,h1,h2⟩:=Vals.get (i:=i) (x:=x) t (by simpa using e)
  exact ⟨u,by simpa using h1,h2⟩
theorem Vals.set {x:V}{u:QL}(r:RelV x u):∀ {xs:List V}{us:List QL}(i:Nat),Vals xs us->Vals (xs.set i x) (us.set i u)
 | _,_,_,.nil=>.nil
 | _,_,0,.cons _ t=>.cons r t
 | _,_,i+1,.cons q t=>.cons q (Vals.set r i t)
theorem Vals.append:∀ {xs ys:List V}{us ws:List QL},Vals xs us->Vals ys ws->Vals (xs++ys) (us++ws)
 | _,_,_,_,.nil,s=>s
 | _,_,_,_,.cons r t,s=>.cons r (Vals.append t s)
theorem Vals.take:∀ {xs:List V}{us:List QL}(n:Nat),Vals xs us->Vals (xs.take n) (us.take n)
 | _,_,0,_=>.nil
 | _,_,_+1,.nil=>.nil
 | _,_,n+1,.cons r t=>.cons r (Vals.take n t)
theorem Vals.drop:∀ {xs:List V}{us:List QL}(n:Nat),Vals xs us->Vals (xs.drop n) (us.drop n)
 | _,_,0,r=>r
 | _,_,_+1,.nil=>.nil
 | _,_,n+1,.cons _ t=>Vals.drop n t
noncomputable def RelO:Option V->Option QL->Prop
 | some v,some u=>RelV v u
 | none,none=>True
 | _,_=>False
noncomputable def KV {κ:Type}:List (κ×V)->List (κ×QL)->Prop:=Vk fun (p:κ×V)(q:κ×QL)=>p.1=q.1/\RelV p.2 q.2
noncomputable def kV:aD->V
 | .inl i=>.int i
 | .inr x=>.str x
inductive HO where
 | lst (xs:List V)
 | tup (xs:List V)
 | dK (kvs:List (aD×V))|dT (kvs:List (List aD×V))
 | set (S:Int->Bool)(n:Nat)
 | ins (C dx:Addr)(fs:List (Str×V))
 | own (x:Addr)
 | xd (fs:List (Str×V))
 | met (f x:Addr)
 | rng (lo hi:Int)
 | frz (o:Td)(u:HO)
 | tbl (ps:Array QL)
 | ext (φ:Si->Prop)
noncomputable abbrev Hp:=Addr->Option HO
noncomputable def aE (H:Hp)(a:Addr)(o:HO):Hp:=fun b=>if b=a then some o else H b
theorem b7 {H:Hp}{a:Addr}{o:HO}:aE H a o a=some o:=by unfold aE;rw [if_pos rfl]
theorem aS {H:Hp}{a b:Addr}{o:HO}(h:b≠a):aE H a o b=H b:=by unfold aE;rw [if_neg h]
theorem ET {H:Hp}{a b:Addr}{o u:HO}(h:H a=some o)(h':H b=some u)(d:o≠u):a≠b:=by
 intro e;subst e;rw [h] at h';exact d (RA h')
theorem jW {H:Hp}{a b:Addr}{o:HO}(h:H a=some o)(h':H b=none):a≠b:=by
 intro e;subst e;rw [h] at h';cases h'
section
variable (P:Rk)(w:RG)
noncomputable def TupN (h:Si)(a:Addr)(xs:Array QL):Prop:=∃ o,h.get? a=some o/\o.cls=.type "tuple"/\∃ n,o.data=.seq xs n/\o.dict=none
theorem TupN.tup {h:Si}{a:Addr}{xs:Array QL}(x:TupN h a xs):a0X h a xs:=let ⟨o,e,c,n,d,_⟩:=x;⟨o,e,c,n,d⟩
theorem TupN.new (h:Si)(items:Array QL):TupN (h.push { cls:=.type "tuple",data:=.seq items }) h.objs.size items:=⟨_,Rj _ rfl,rfl,_,rfl,rfl⟩
noncomputable def ObjOk (H:Hp)(h:Si)(a:Addr):HO->Prop
 | .lst xs=>xs.length<=Q6/\∃ (its:List QL)(n:Nat),Vals xs its/\h.get? a=some { cls:=.type "list",data:=.seq its.toArray n }
 | .tup xs=>xs.length<=Q6/\∃ its:List QL,Vals xs its/\TupN h a its.toArray
 | .dK kvs=>kvs.length<=Q6/\(a == RX)=false/\∃ vs,KV kvs vs/\h.DictOf (cK P w) a vs
 | .dT kvs=>kvs.length<=Q6/\(a == RX)=false/\∃ xs:List (List aD×Addr×QL),
   Vk (fun (p:List aD×V)(q:List aD×Addr×QL)=>p.1=q.1/\H q.2.1=some (.tup (p.1.map kV))/\RelV p.2 q.2.2) kvs xs /\
   ∃ o es ep,h.get? a=some o/\o.ExactDict/\o.data=.dict es ep/\es.toList=xs.map (a0A (SN (cK P w)))/\(xs.map (·.1)).Nodup
 | .set S n=>h.SetOf (Tt P w) a S n
 | .ins C dx fs=>H dx=some (.own a)/\fs.length<=1000/\dx≠a/\h.get? a=some (Zj C dx) /\
   ∃ mA,h.Ns1 dx mA/\(∀ f,RelO (fs.lookup f) (mA f))/\PySem.Within mA (fs.map (·.1))
 | .own _=>∃ o,h.get? a=some o
 | .xd fs=>∃ mA,h.Ns1 a mA/\∀ f,RelO (fs.lookup f) (mA f)
 | .rng lo hi=>∃ t u v,h.get? a=some { cls:=.type "range",data:=.fields #[.int lo t,.int hi u,.int 1 v] }
 | .frz o u=>h.get? a=some o/\ObjOk H h a u
 | .tbl ps=>h.get? a=some { cls:=.none,data:=.fields ps }
 | .met f x=>h.get? a=some (WO (.ref f) (.ref x))
 | .ext φ=>φ h/\(∃ o,h.get? a=some o)/\∀ h1 h2:Si,φ h1->(∀ o,h1.get? a=some o->h2.get? a=some o)->φ h2
noncomputable def HOk (H:Hp)(h:Si):Prop:=∀ a o,H a=some o->ObjOk P w H h a o
end
section
variable {P:Rk}{w:RG}{H H':Hp}{h h':Si}{a:Addr}{o:HO}
theorem ObjOk.lt (x:ObjOk P w H h a o):a<h.objs.size:=by
 cases o with
 | lst xs=>obtain ⟨_,_,_,_,e⟩:=x;exact Q4 e
 | tup xs=>obtain ⟨_,_,_,p⟩:=x;exact p.tup.lt
 | dK kvs=>obtain ⟨_,_,_,_,o,_,_,e,_⟩:=x;exact Q4 e
 | dT kvs=>obtain ⟨_,_,_,_,o,_,_,e,_⟩:=x;exact Q4 e
 | set S n=>obtain ⟨o,_,_,_,e,_⟩:=x;exact Q4 e
 | ins C dx fs=>obtain ⟨_,_,_,e,_⟩:=x;exact Q4 e
 | own y=>obtain ⟨_,e⟩:=x;exact Q4 e
 | xd fs=>obtain ⟨_,⟨_,_,_,e,_⟩,_⟩:=x;exact Q4 e
 | rng lo hi=>obtain ⟨_,_,_,e⟩:=x;exact Q4 e
 | frz ob u=>obtain ⟨e,_⟩:=x;exact Q4 e
 | tbl ps=>exact Q4 (show h.get? a=some _ from x)
 | met f y=>exact Q4 (show h.get? a=some _ from x)
 | ext φ=>obtain ⟨_,⟨_,e⟩,_⟩:=x;exact Q4 e
theorem Vk.mapP {α β:Type}{F G:α->β->Prop}:∀ {l₁:List α}{l₂:List β},Vk F l₁ l₂->(∀ a b,F a b->G a b)->Vk G l₁ l₂
 | _,_,.nil,_=>.nil
 | _,_,.cons r t,f=>.cons (f _ _ r) (Vk.mapP t f)
theorem ObjOk.stay (x:ObjOk P w H h a o)(k:∀ b u,(b=a\/H b=some (.own a))->h.get? b=some u->h'.get? b=some u)
  (ho:∀ b,H b=some (.own a)->H' b=some (.own a))(ht:∀ b xs,H b=some (.tup xs)->H' b=some (.tup xs)):ObjOk P w H' h' a o:=by
 induction o with
 | lst xs=>obtain ⟨z,its,n,r,e⟩:=x;exact ⟨z,its,n,r,k _ _ (.inl rfl) e⟩
 | tup xs=>obtain ⟨z,its,r,ob,e,c⟩:=x;exact ⟨z,its,r,ob,k _ _ (.inl rfl) e,c⟩
 | dK kvs=>obtain ⟨z,y,vs,r,ob,es,ep,e,c⟩:=x;exact ⟨z,y,vs,r,ob,es,ep,k _ _ (.inl rfl) e,c⟩
 | dT kvs=>
  obtain ⟨z,y,xs,r,ob,es,ep,e,c⟩:=x
  exact ⟨z,y,xs,Vk.mapP r fun p q z=>⟨z.1,ht _ _ z.2.1,z.2.2⟩,ob,es,ep,k _ _ (.inl rfl) e,c⟩
 | set S n=>obtain ⟨ob,es,ep,t,e,c⟩:=x;exact ⟨ob,es,ep,t,k _ _ (.inl rfl) e,c⟩
 | ins C dx fs=>
  obtain ⟨d,z,ne,e,mA,⟨od,es,ep,e2,c⟩,r⟩:=x
  exact ⟨ho _ d,z,ne,k _ _ (.inl rfl) e,mA,⟨od,es,ep,k _ _ (.inr d) e2,c⟩,r⟩
 | own y=>obtain ⟨ob,e⟩:=x;exact ⟨ob,k _ _ (.inl rfl) e⟩
 | xd fs=>obtain ⟨mA,⟨od,es,ep,e,c⟩,r⟩:=x;exact ⟨mA,⟨od,es,ep,k _ _ (.inl rfl) e,c⟩,r⟩
 | rng lo hi=>obtain ⟨t,u,v,e⟩:=x;exact ⟨t,u,v,k _ _ (.inl rfl) e⟩
 | frz ob u ih=>obtain ⟨e,q⟩:=x;exact ⟨k _ _ (.inl rfl) e,ih q⟩
 | tbl ps=>
  have e:h.get? a=some { cls:=.none,data:=.fields ps }:=x
  show h'.get? a=some { cls:=.none,data:=.fields ps }
  exact k a _ (.inl rfl) e
 | met f y=>
  have e:h.get? a=some (WO (.ref f) (.ref y)):=x
  show h'.get? a=some (WO (.ref f) (.ref y))
  exact k a _ (.inl rfl) e
 | ext φ=>obtain ⟨p,⟨o,e⟩,st⟩:=x;exact ⟨st _ _ p fun o q=>k _ _ (.inl rfl) q,⟨o,k _ _ (.inl rfl) e⟩,st⟩
theorem HOk.lt (x:HOk P w H h)(e:H a=some o):a<h.objs.size:=(x a o e).lt
theorem HOk.fresh (x:HOk P w H h)(e:h.objs.size<=a):H a=none:=by
 cases q:H a with
 | none=>rfl
 | some u=>exact absurd (RF (x.lt q) e) (Us _)
theorem HOk.kept (x:HOk P w H h)(k:∀ b u,h.get? b=some u->h'.get? b=some u):HOk P w H h':=fun a o e=>
 (x a o e).stay (fun b u _ q=>k b u q) (fun _ q=>q) fun _ _ q=>q
theorem HOk.laid (x:HOk P w H h)(k:∀ b u,h.get? b=some u->h'.get? b=some u)(hp:h.objs.size<=a)(new:ObjOk P w (aE H a o) h' a o):HOk P w (aE H a o) h':=fun b u e=>by
 have hn:=x.fresh hp
 by_cases hb:b=a
 ·subst hb;rw [b7] at e;cases e;exact new
 ·rw [aS hb] at e
  exact (x b u e).stay (fun c v _ q=>k c v q) (fun c q=>by rw [aS (jW q hn)];exact q) fun c xs q=>by rw [aS (jW q hn)];exact q
end
noncomputable def Rd (H:Hp)(a:Addr)(u:HO):Prop:=H a=some u\/∃ o,H a=some (.frz o u)
theorem Rd.of {H:Hp}{a:Addr}{u:HO}(h:H a=some u):Rd H a u:=.inl h
theorem Rd.ok {P:Rk}{w:RG}{H:Hp}{h:Si}{a:Addr}{u:HO}(r:Rd H a u)(x:HOk P w H h):ObjOk P w H h a u:=by
 rcases r with r|⟨o,r⟩
 ·exact x a u r
 ·obtain ⟨_,q⟩:=x a _ r
  exact q
noncomputable def nC:Option HO->Prop
 | some (.lst _)=>True
 | some (.dK _)=>True
 | some (.dT _)=>True
 | some (.set _ _)=>True
 | some (.ins _ _ _)=>True
 | some (.ext _)=>True
 | _=>False
section
variable {P:Rk}{w:RG}{H:Hp}{h h':Si}{x e:Addr}{o':HO}
theorem HOk.write (ok:HOk P w H h)(mu:nC (H x))(he:e=x\/H e=some (.own x))(k:∀ b u,b≠e->h.get? b=some u->h'.get? b=some u)(heo:∃ u,h'.get? e=some u)
  (new:ObjOk P w (aE H x o') h' x o'):HOk P w (aE H x o') h':=fun b u q=>by
 have nown:∀ c y,H c=some (.own y)->c≠x:=fun c y r z=>by subst z;rw [r] at mu;exact mu
 have ntup:∀ c xs,H c=some (.tup xs)->c≠x:=fun c xs r z=>by subst z;rw [r] at mu;exact mu
 by_cases hb:b=x
 ·subst hb;rw [b7] at q;cases q;exact new
 ·rw [aS hb] at q
  by_cases hbe:b=e
  ·have q':H b=some (.own x):=by
    rcases he with z|z
    ·exact absurd (hbe.trans z) hb
    ·rw [hbe];exact z
   rw [q] at q';cases q'
   obtain ⟨v,hv⟩:=heo
   exact ⟨v,by rw [hbe];exact hv⟩
  ·refine (ok b u q).stay (fun c v hc r=>k c v ?_ r) (fun c r=>by rw [aS (nown c b r)];exact r) fun c xs r=>by rw [aS (ntup c xs r)];exact r
   rcases hc with rfl|hc
   ·exact hbe
   ·rintro rfl
    rcases he with z|z
    ·exact nown c b hc z
    ·rw [hc] at z;cases z;exact hb rfl
end
structure Un (fs ex:List Addr)(H H':Hp)(h h':Si):Prop where
 keep:∀ b o,h.get? b=some o->H b=none->b∉fs->b∉ex->h'.get? b=some o
 slot:∀ b o,h.get? b=some o->H b=none->b∈fs->b∉ex->∃ sl,h'.get? b=some { o with slots:=sl }
 free:∀ b o,h.get? b=some o->H b=none->b∉ex->H' b=none
 there:∀ b o,h.get? b=some o->b∉ex->∃ o',h'.get? b=some o'
 tups:∀ b xs,H b=some (.tup xs)->H' b=some (.tup xs)
 frzs:∀ b o u,H b=some (.frz o u)->H' b=some (.frz o u)
 tbls:∀ b ps,H b=some (.tbl ps)->∃ more,H' b=some (.tbl (ps++more))
section
variable {fs fs' ex ex':List Addr}{H H1 H2:Hp}{h h1 h2 h':Si}{a x e:Addr}{o:HO}
theorem Un.any (u:Un fs ex H H1 h h1){b:Addr}{ob:Td}(q:h.get? b=some ob)(n:H b=none)(hx:b∉ex):∃ sl,h1.get? b=some { ob with slots:=sl }:=by
 by_cases hb:b∈fs
 ·exact u.slot b ob q n hb hx
 ·exact ⟨ob.slots,u.keep b ob q n hb hx⟩
theorem Un.trans (a:Un fs ex H H1 h h1)(b:Un fs ex H1 H2 h1 h2):Un fs ex H H2 h h2 where
 keep:=fun c ob q n hc hx=>b.keep c ob (a.keep c ob q n hc hx) (a.free c ob q n hx) hc hx
 slot:=fun c ob q n hc hx=>by
  obtain ⟨sl,e1⟩:=a.slot c ob q n hc hx
  obtain ⟨sl',e2⟩:=b.slot c _ e1 (a.free c ob q n hx) hc hx
  exact ⟨sl',e2⟩
 free:=fun c ob q n hx=>by
  obtain ⟨o',e1⟩:=a.there c ob q hx
  exact b.free c o' e1 (a.free c ob q n hx) hx
 there:=fun c ob q hx=>by
  obtain ⟨o',e1⟩:=a.there c ob q hx
  exact b.there c o' e1 hx
 tups:=fun c xs q=>b.tups c xs (a.tups c xs q)
 frzs:=fun c ob xs q=>b.frzs c ob xs (a.frzs c ob xs q)
 tbls:=fun c ps q=>by
  obtain ⟨m1,e1⟩:=a.tbls c ps q
  obtain ⟨m2,e2⟩:=b.tbls c _ e1
  exact ⟨m1++m2,by rw [e2,Zc]⟩
theorem Un.kept (k:∀ b u,h.get? b=some u->h'.get? b=some u):Un fs ex H H h h':=
 ⟨fun b ob q _ _ _=>k b ob q,fun b ob q _ _ _=>⟨ob.slots,k b ob q⟩,fun _ _ _ n _=>n,fun b ob q _=>⟨ob,k b ob q⟩,fun _ _ q=>q,fun _ _ _ q=>q,fun _ ps q=>⟨#[],by rw [q];simp⟩⟩
theorem Un.refl:Un fs ex H H h h:=Un.kept fun _ _ q=>q
theorem Un.laid (k:∀ b u,h.get? b=some u->h'.get? b=some u)(hp:h.objs.size<=a)(hn:H a=none):Un fs ex H (aE H a o) h h' where
 keep:=fun b u q _ _ _=>k b u q
 slot:=fun b u q _ _ _=>⟨u.slots,k b u q⟩
 free:=fun b u q n _=>by rw [aS (Ro (RF (Q4 q) hp))];exact n
 there:=fun b u q _=>⟨u,k b u q⟩
 tups:=fun b xs q=>by rw [aS (jW q hn)];exact q
 frzs:=fun b u xs q=>by rw [aS (jW q hn)];exact q
 tbls:=fun b ps q=>⟨#[],by rw [aS (jW q hn),q];simp⟩
theorem Un.write (mu:nC (H x))(he:e=x\/H e=some (.own x))(k:∀ b u,b≠e->h.get? b=some u->h'.get? b=some u)(heo:∃ u,h'.get? e=some u):Un fs ex H (aE H x o) h h':=by
 have hx:∀ b,H b=none->b≠x:=fun b n z=>by subst z;rw [n] at mu;exact mu
 have hb:∀ b,H b=none->b≠e:=fun b n z=>by
  subst z
  rcases he with r|r
  ·exact hx b n r
  ·rw [n] at r;cases r
 have hm:∀ b u,H b=some u->¬ nC (some u)->b≠x:=fun b u q nm z=>by subst z;rw [q] at mu;exact nm mu
 refine ⟨fun b u q n _ _=>k b u (hb b n) q,fun b u q n _ _=>⟨u.slots,k b u (hb b n) q⟩,fun b u q n _=>by rw [aS (hx b n)];exact n,fun b u q _=>?_,
  fun b xs q=>by rw [aS (hm b _ q fun z=>z)];exact q,fun b u xs q=>by rw [aS (hm b _ q fun z=>z)];exact q,fun b ps q=>⟨#[],by rw [aS (hm b _ q fun z=>z),q];simp⟩⟩
 by_cases hbe:b=e
 ·subst hbe;exact heo
 ·exact ⟨u,k b u hbe q⟩
end
noncomputable def oX (h:Si)(H:Hp):List Addr:=(Se h.objs.size).filter fun a=>(H a).isSome
noncomputable def gW (h:Si)(H:Hp):Si:=PySem.W.hideAll h (oX h H)
theorem EU (h:Si)(H:Hp):(gW h H).objs.size=h.objs.size:=PySem.W.hideAll_size _ _
theorem EV {h:Si}{H:Hp}{b:Addr}{o:Td}(e:h.get? b=some o)(n:H b=none):(gW h H).get? b=some o:=
 PySem.W.hideAll_get _ e fun hm=>by
  have q:(H b).isSome=true:=(VI.mp hm).2
  rw [n] at q;simp at q
theorem EW {h:Si}{H:Hp}{b:Addr}{o:Td}(e:(gW h H).get? b=some o):h.get? b=some o/\H b=none:=by
 have e':h.get? b=some o:=PySem.W.of_hideAll (oX h H) e
 refine ⟨e',?_⟩
 cases q:H b with
 | none=>rfl
 | some x=>
  have hm:b∈oX h H:=VI.mpr ⟨Ss.mpr (Q4 e'),by simp [q]⟩
  have z:(gW h H).get? b=none:=PySem.W.hideAll_none (oX h H) hm
  rw [z] at e;cases e
noncomputable def EX (g h:Si)(L:Addr):List (Addr×Td):=(Se h.objs.size).filterMap fun a=>if a=L\/(g.get? a).isSome=true then none else (h.get? a).map fun o=>(a,o)
noncomputable def rest (g h:Si)(L d:Addr):List (Addr×Td):=(EX g h L).filter fun p=>decide (p.1≠d)
end L2
namespace L2
open PySem PySem.Spec PyProof.Rows
structure Mod (K:QH)(mg:Str->Option QL)(base:Si):Prop where
 kin:K.In base
 glob:base.Ns S6 mg
 blt:∃ mb,base.Ns a0C mb/\∀ x:Str,x ≠ "__name__"->mb x=S2 x
 nolimit:base.NoLimit
structure Cx where
 prog:Rk
 w:RG
 K:QH
 mg:Str->Option QL
 base:Si
 A:Rw
 N:List Str
 s₀:QM
 H₀:Hp
 env:W3
 outer:List W3
 stack:List W3
 ex:List Addr
 fn:Str->Bool
 calm:Bool
 pn:List (Addr×Td)
 xe:QL->QM->Prop
noncomputable def eX (l:List W3):List Addr:=l.filterMap (·.frame)
noncomputable abbrev Cx.fs (X:Cx):List Addr:=eX X.outer
noncomputable def nD (sc:Uo)(x:Str):Prop:=sc.names.lookup x=some .local\/sc.names.lookup x=some .cell\/sc.names.lookup x=some .free
noncomputable def Loc (sc:Uo)(x:Str):Prop:=sc.names.lookup x=some .local\/sc.names.lookup x=some .cell
noncomputable def EY (env:W3)(h:Si)(m:Str->Option QL)(x:Str)(u:QL):Prop:=
 (env.kindOf x=some .local/\m x=some u)\/((env.kindOf x=some .cell\/env.kindOf x=some .free)/\∃ c,env.cells.lookup x=some c/\h.IsCell c (some u))
structure Cx.Ok (X:Cx):Prop where
 mod:Mod X.K X.mg X.base
 kind:X.env.scope.kind=.function
 glob:X.env.globals=S6
 blt:X.env.builtins=a0C
 above:X.s₀.heap.objs.size<=X.env.locals
 inj:∀ x y c,X.env.cells.lookup x=some c->X.env.cells.lookup y=some c->x=y
 has:∀ x,(X.env.kindOf x=some .cell\/X.env.kindOf x=some .free)->∃ c,X.env.cells.lookup x=some c
 cab:∀ x c,X.fn x=true->X.env.cells.lookup x=some c->X.s₀.heap.objs.size<=c
 hd:X.calm=true->X.A.handled=none
 frames:X.A.frames=some X.stack
 stk:X.stack=X.outer\/(X.stack=X.env::X.outer/\X.env.frame=some X.env.locals)
 exf:∀ b∈X.ex,b≠X.env.locals/\∀ x c,X.env.cells.lookup x=some c->c≠b
 bs:∀ b o,X.base.get? b=some o->X.s₀.heap.get? b=some o/\X.H₀ b=none
 bsz:X.base.objs.size<=X.s₀.heap.objs.size
 noex:∀ b o,X.base.get? b=some o->b∉X.ex
 exfs:∀ b∈X.ex,b∉X.fs
 funs:X.s₀.heap.FunFrames X.base X.outer
 frf:∀ b∈X.fs,X.H₀ b=none
structure Inv (X:Cx)(a2j:List (Addr×Td))(σ:List (Option V))(H:Hp)(s:QM):Prop where
 ok:X.Ok
 os:s.os=X.s₀.os
 bare:W5 s.gens
 base:Un X.fs X.ex X.H₀ H X.s₀.heap s.heap
 loc:∃ m,s.heap.Ns X.env.locals m/\∀ (i:Nat)(x:Str)(v:V),X.N[i]? = some x->σ[i]? = some (some v)->nD X.env.scope x->∃ u,RelV v u/\EY X.env s.heap m x u
 cell:∀ x c,X.env.cells.lookup x=some c->∃ v,s.heap.IsCell c v
 free:H X.env.locals=none
 freeC:∀ x c,X.env.cells.lookup x=some c->H c=none
 pin:∀ p∈X.pn++a2j,s.heap.get? p.1=some p.2/\H p.1=none/\p.1≠X.env.locals/\p.1∉X.fs/\∀ v,p.2.data≠.cell v
 hok:HOk X.prog X.w H s.heap
 len:σ.length=X.N.length
section
variable {X:Cx}{a2j:List (Addr×Td)}{σ:List (Option V)}{H H':Hp}{s:QM}{h':Si}
theorem Cx.Ok.nofr (ok:X.Ok){b:Addr}{o:Td}(e:X.base.get? b=some o):b∉X.fs:=fun hb=>by
 have:=(ok.funs.mem hb).1
 rw [e] at this;cases this
theorem Inv.bs (I:Inv X a2j σ H s):∀ b o,X.base.get? b=some o->s.heap.get? b=some o/\H b=none:=fun b o e=>
 ⟨I.base.keep b o (I.ok.bs b o e).1 (I.ok.bs b o e).2 (I.ok.nofr e) (I.ok.noex b o e),I.base.free b o (I.ok.bs b o e).1 (I.ok.bs b o e).2 (I.ok.noex b o e)⟩
theorem Inv.bk (I:Inv X a2j σ H s):∀ b o,X.base.get? b=some o->s.heap.get? b=some o:=fun b o e=>(I.bs b o e).1
theorem Inv.mod (I:Inv X a2j σ H s):Mod X.K X.mg X.base:=I.ok.mod
theorem Inv.kIn (I:Inv X a2j σ H s):X.K.In s.heap:=I.ok.mod.kin.keeps I.bk
theorem Inv.nolimit (I:Inv X a2j σ H s):s.heap.NoLimit:=I.ok.mod.nolimit.keeps I.bk
theorem Inv.lt (I:Inv X a2j σ H s):X.env.locals<s.heap.objs.size:=let ⟨_,hn,_⟩:=I.loc;hn.lt
theorem Inv.sz (I:Inv X a2j σ H s):X.s₀.heap.objs.size<=s.heap.objs.size:=SR I.ok.above (Vn I.lt)
theorem Inv.nofs (I:Inv X a2j σ H s){a:Addr}(h:s.heap.objs.size<=a):a∉X.fs:=fun hb=>by
 obtain ⟨_,o,ho,_⟩:=I.ok.funs.mem hb
 exact absurd (RF (Q4 ho) (SR I.sz h)) (Us _)
theorem Inv.cne (I:Inv X a2j σ H s):∀ x c,X.env.cells.lookup x=some c->c≠X.env.locals:=fun x c e z=>by
 obtain ⟨v,o,ho,hd⟩:=I.cell x c e
 obtain ⟨m,⟨o',es,ep,ho',hd',_⟩,_⟩:=I.loc
 rw [z,ho'] at ho;cases ho;rw [hd'] at hd;cases hd
theorem Inv.funs (I:Inv X a2j σ H s):s.heap.FunFrames X.base X.outer:=by
 have all:∀ (l:List W3),(∀ b∈eX l,b∈X.fs)->X.s₀.heap.FunFrames X.base l->s.heap.FunFrames X.base l:=by
  intro l
  induction l with
  | nil=>intro _ _;trivial
  | cons env r ih=>
   intro hs hl
   obtain ⟨hk,⟨L,o,hf,hn,ho,hd⟩,hr⟩:=hl
   have hL:L∈X.fs:=hs L (by unfold eX;rw [WK,hf];exact Ru)
   obtain ⟨sl,e⟩:=I.base.slot L o ho (I.ok.frf L hL) hL fun z=>I.ok.exfs L z hL
   exact ⟨hk,⟨L,_,hf,hn,e,hd⟩,ih (fun b hb=>hs b (by unfold eX;rw [WK,hf];exact Rm _ hb)) hr⟩
 exact all X.outer (fun _ hb=>hb) I.ok.funs
theorem Inv.stack (I:Inv X a2j σ H s):s.heap.FunFrames X.base X.stack:=by
 rcases I.ok.stk with e|⟨e,hf⟩
 ·rw [e];exact I.funs
 ·rw [e]
  obtain ⟨m,hn,_⟩:=I.loc
  refine .cons (by rw [I.ok.kind];decide) hf hn ?_ I.funs
  exact Heap.get?_none_of_le (SR I.ok.bsz I.ok.above)
theorem Inv.stkSub (I:Inv X a2j σ H s):∀ b∈eX X.stack,b∈X.env.locals::X.fs:=fun b hb=>by
 rcases I.ok.stk with e|⟨e,hf⟩
 ·rw [e] at hb;exact Rm _ hb
 ·rw [e] at hb
  unfold eX at hb
  rw [WK,hf] at hb
  exact hb
theorem Inv.stkFree (I:Inv X a2j σ H s):∀ b∈eX X.stack,H b=none:=fun b hb=>by
 rcases RD.mp (I.stkSub b hb) with e|hb
 ·rw [e];exact I.free
 ·obtain ⟨_,o,ho,_⟩:=I.ok.funs.mem hb
  exact I.base.free b o ho (I.ok.frf b hb) fun z=>I.ok.exfs b z hb
theorem Inv.step {g':Array a0j}{t':Nat}{d':Drawn}{ch:List Addr}(I:Inv X a2j σ H s)
  (hch:∀ b∈ch,(b∈X.ex\/X.s₀.heap.objs.size<=b)/\b≠X.env.locals/\(∀ x c,X.env.cells.lookup x=some c->c≠b)/\∀ p∈X.pn++a2j,p.1≠b)
  (keep:∀ b o,b≠X.env.locals->b∉X.fs->b∉ch->s.heap.get? b=some o->H b=none->h'.get? b=some o)
  (slot:∀ b o,b≠X.env.locals->b∈X.fs->b∉ch->s.heap.get? b=some o->H b=none->∃ sl,h'.get? b=some { o with slots:=sl })(free:∀ b o,b∉ch->s.heap.get? b=some o->H b=none->H' b=none)
  (there:∀ b o,b∉ch->s.heap.get? b=some o->∃ o',h'.get? b=some o')
  (tups:∀ b xs,H b=some (.tup xs)->H' b=some (.tup xs))(frzs:∀ b o u,H b=some (.frz o u)->H' b=some (.frz o u))(tbls:∀ b ps,H b=some (.tbl ps)->∃ more,H' b=some (.tbl (ps++more)))
  (ns:∀ m,s.heap.Ns X.env.locals m->h'.Ns X.env.locals m)(hok:HOk X.prog X.w H' h')(hg:W5 g') :
  Inv X a2j σ H' { s with heap:=h',gens:=g',drawn:=d',toks:=t' }:=by
 have neL:∀ b o,X.s₀.heap.get? b=some o->b≠X.env.locals:=fun b o e=>Ro (RF (Q4 e) I.ok.above)
 have neC:∀ b o,X.s₀.heap.get? b=some o->b∉X.ex->b∉ch:=fun b o e hx hb=>by
  rcases (hch b hb).1 with z|z
  ·exact hx z
  ·exact absurd (RF (Q4 e) z) (Us _)
 have cellK:∀ x c,X.env.cells.lookup x=some c->∀ v,s.heap.IsCell c v->h'.IsCell c v:=fun x c e v ⟨o,ho,hd⟩=>by
  have nch:c∉ch:=fun z=>(hch c z).2.2.1 x c e rfl
  by_cases hc:c∈X.fs
  ·obtain ⟨sl,q⟩:=slot c o (I.cne x c e) hc nch ho (I.freeC x c e)
   exact ⟨_,q,hd⟩
  ·exact ⟨o,keep c o (I.cne x c e) hc nch ho (I.freeC x c e),hd⟩
 refine ⟨I.ok,I.os,hg,⟨fun b o e n hb hx=>?_,fun b o e n hb hx=>?_,fun b o e n hx=>?_,fun b o e hx=>?_,fun b xs e=>tups b xs (I.base.tups b xs e),fun b o xs e=>frzs b o xs (I.base.frzs b o xs e),fun b ps e=>?_⟩,?_,fun x c e=>?_,?_,fun x c e=>?_,fun p hp=>?_,hok,I.len⟩
 ·exact keep b o (neL b o e) hb (neC b o e hx) (I.base.keep b o e n hb hx) (I.base.free b o e n hx)
 ·obtain ⟨sl,e1⟩:=I.base.slot b o e n hb hx
  obtain ⟨sl',e2⟩:=slot b _ (neL b o e) hb (neC b o e hx) e1 (I.base.free b o e n hx)
  exact ⟨sl',e2⟩
 ·obtain ⟨o',e1⟩:=I.base.there b o e hx
  exact free b o' (neC b o e hx) e1 (I.base.free b o e n hx)
 ·obtain ⟨o',e1⟩:=I.base.there b o e hx
  exact there b o' (neC b o e hx) e1
 ·obtain ⟨m1,e1⟩:=I.base.tbls b ps e
  obtain ⟨m2,e2⟩:=tbls b _ e1
  exact ⟨m1++m2,by rw [e2,Zc]⟩
 ·obtain ⟨m,hn,hl⟩:=I.loc
  refine ⟨m,ns m hn,fun i x v e1 e2 e3=>?_⟩
  obtain ⟨u,r,l⟩:=hl i x v e1 e2 e3
  refine ⟨u,r,?_⟩
  rcases l with l|⟨k,c,e,z⟩
  ·exact .inl l
  ·exact .inr ⟨k,c,e,cellK x c e _ z⟩
 ·obtain ⟨v,z⟩:=I.cell x c e
  exact ⟨v,cellK x c e v z⟩
 ·obtain ⟨m,⟨o,_,_,ho,_⟩,_⟩:=I.loc
  exact free _ o (fun z=>(hch _ z).2.1 rfl) ho I.free
 ·obtain ⟨v,o,ho,hd⟩:=I.cell x c e
  exact free c o (fun z=>(hch c z).2.2.1 x c e rfl) ho (I.freeC x c e)
 ·obtain ⟨e,n,ne,nf,d⟩:=I.pin p hp
  have nch:p.1∉ch:=fun z=>(hch p.1 z).2.2.2 p hp rfl
  exact ⟨keep p.1 p.2 ne nf nch e n,free p.1 p.2 nch e n,ne,nf,d⟩
theorem Inv.un {t':Nat}(I:Inv X a2j σ H s)(u:Un X.fs [] H H' s.heap h')(hok:HOk X.prog X.w H' h'):Inv X a2j σ H' { s with heap:=h',toks:=t' }:=by
 obtain ⟨m,⟨o,es,ep,ho,r⟩,_⟩:=id I.loc
 obtain ⟨sl,hL⟩:=u.any ho I.free (by simp)
 exact I.step (g':=s.gens) (d':=s.drawn) (ch:=[]) (fun _ z=>nomatch z) (fun b o _ hb _ e n=>u.keep b o e n hb (by simp)) (fun b o _ hb _ e n=>u.slot b o e n hb (by simp)) (fun b o _ e n=>u.free b o e n (by simp)) (fun b o _ e=>u.there b o e (by simp)) u.tups u.frzs u.tbls (fun m' hm=>by
  obtain ⟨o',es',ep',ho',r'⟩:=hm
  rw [ho] at ho';cases ho'
  exact ⟨_,es',ep',hL,r'⟩) hok I.bare
theorem Inv.call {g':Array a0j}{t':Nat}{d':Drawn}{ch:List Addr}(I:Inv X a2j σ H s)(u:Un (eX X.stack) ch H H' s.heap h')(hok:HOk X.prog X.w H' h')(hg:W5 g')
  (hch:∀ b∈ch,(b∈X.ex\/X.s₀.heap.objs.size<=b)/\b≠X.env.locals/\(∀ x c,X.env.cells.lookup x=some c->c≠b)/\∀ p∈X.pn++a2j,p.1≠b) :
  Inv X a2j σ H' { s with heap:=h',gens:=g',drawn:=d',toks:=t' }:=by
 obtain ⟨m,⟨o,es,ep,ho,r⟩,_⟩:=id I.loc
 obtain ⟨sl,hL⟩:=u.any ho I.free fun z=>(hch _ z).2.1 rfl
 exact I.step (ch:=ch) hch (fun b o hL hb hc e n=>u.keep b o e n (fun z=>(RD.mp (I.stkSub b z)).elim hL hb) hc) (fun b o _ _ hc e n=>u.any e n hc) (fun b o hc e n=>u.free b o e n hc) (fun b o hc e=>u.there b o e hc) u.tups u.frzs u.tbls (fun m' hm=>by
  obtain ⟨o',es',ep',ho',r'⟩:=hm
  rw [ho] at ho';cases ho'
  exact ⟨_,es',ep',hL,r'⟩) hok hg
theorem Inv.turned {t':Nat}{it:Addr}(I:Inv X a2j σ H s)(k:∀ b o,b≠it->s.heap.get? b=some o->h'.get? b=some o)(hn:H it=none)(hL:it≠X.env.locals)
  (h1:it∈X.ex\/X.s₀.heap.objs.size<=it)(h2:∀ x c,X.env.cells.lookup x=some c->c≠it)(h3:∀ p∈X.pn++a2j,p.1≠it):Inv X a2j σ H { s with heap:=h',toks:=t' }:=by
 have nit:∀ b u,H b=some u->b≠it:=fun b u e z=>by rw [z,hn] at e;cases e
 refine I.step (g':=s.gens) (d':=s.drawn) (ch:=[it]) (fun b hb=>?_) (fun b o _ _ hc e _=>k b o (fun z=>hc (by simp [z])) e) (fun b o _ _ hc e _=>⟨o.slots,k b o (fun z=>hc (by simp [z])) e⟩) (fun _ _ _ _ n=>n)
  (fun b o hc e=>⟨o,k b o (fun z=>hc (by simp [z])) e⟩) (fun _ _ e=>e) (fun _ _ _ e=>e) (fun b ps e=>⟨#[],by rw [e];simp⟩) (fun m hm=>?_) (fun b u e=>?_) I.bare
 ·have e:b=it:=by simpa using hb
  subst e
  exact ⟨h1,hL,h2,h3⟩
 ·obtain ⟨o,es,ep,ho,r⟩:=hm
  exact ⟨o,es,ep,k _ o (Sw hL) ho,r⟩
 ·refine (I.hok b u e).stay (fun c v hc q=>k c v ?_ q) (fun _ q=>q) fun _ _ q=>q
  rcases hc with z|z
  ·rw [z];exact nit b u e
  ·exact nit c _ z
theorem Inv.tok (I:Inv X a2j σ H s)(t:Nat):Inv X a2j σ H { s with toks:=t }:=I.un (h':=s.heap) (t':=t) Un.refl I.hok
theorem Inv.kept {t':Nat}(I:Inv X a2j σ H s)(k:∀ b u,s.heap.get? b=some u->h'.get? b=some u):Inv X a2j σ H { s with heap:=h',toks:=t' }:=I.un (Un.kept k) (I.hok.kept k)
theorem Inv.laid {a:Addr}{o:HO}{t':Nat}(I:Inv X a2j σ H s)(k:∀ b u,s.heap.get? b=some u->h'.get? b=some u)(hp:s.heap.objs.size<=a)(new:ObjOk X.prog X.w (aE H a o) h' a o) :
  Inv X a2j σ (aE H a o) { s with heap:=h',toks:=t' }:=I.un (Un.laid k hp (I.hok.fresh hp)) (I.hok.laid k hp new)
theorem Inv.write {x e:Addr}{o:HO}{t':Nat}(I:Inv X a2j σ H s)(mu:nC (H x))(he:e=x\/H e=some (.own x))(k:∀ b u,b≠e->s.heap.get? b=some u->h'.get? b=some u)(heo:∃ u,h'.get? e=some u)
  (new:ObjOk X.prog X.w (aE H x o) h' x o):Inv X a2j σ (aE H x o) { s with heap:=h',toks:=t' }:=I.un (Un.write mu he k heo) (I.hok.write mu he k heo new)
theorem Inv.pins_of {pins':List (Addr×Td)}(I:Inv X a2j σ H s)(h:∀ p∈pins',s.heap.get? p.1=some p.2/\H p.1=none/\p.1≠X.env.locals/\p.1∉X.fs/\∀ v,p.2.data≠.cell v):Inv X pins' σ H s:=
 ⟨I.ok,I.os,I.bare,I.base,I.loc,I.cell,I.free,I.freeC,fun p hp=>(Sb.mp hp).elim (fun z=>I.pin p (YX _ z)) (h p),I.hok,I.len⟩
theorem yK {N:List Str}(hN:N.Nodup){i j:Nat}{x:Str}(a:N[i]? = some x)(b:N[j]? = some x):i=j:=by
 obtain ⟨h1,e1⟩:=QN.mp a
 obtain ⟨h2,e2⟩:=QN.mp b
 exact (ZY hN).mp (e1.trans e2.symm)
theorem yL {M:a0e}{A:Rw}{E:QL->QM->Prop}{i:Nat}{x:Str}{v:V}{u:QL}{Q:Unit->QM->Prop}(I:Inv X a2j σ H s)(hN:X.N.Nodup)(hi:X.N[i]? = some x)(hx:Loc X.env.scope x)(r:RelV v u)
  (h:∀ s',Inv X a2j (σ.set i (some v)) H s'->(∃ a,T8 a s.heap s'.heap/\(a=X.env.locals\/X.env.cells.lookup x=some a))->Q () s')(hf:X.fn x=true\/X.env.scope.names.lookup x=some .local:=by first|exact .inl rfl|exact .inr rfl|assumption):Ri M A (storeName X.env x u) Q E s:=by
 obtain ⟨m,hn,hl⟩:=id I.loc
 have hcls:(X.env.scope.kind == .class||(X.env.scope.kind == .module&&X.env.locals != X.env.globals))=false:=by rw [I.ok.kind];rfl
 have hiσ:i<σ.length:=by rw [I.len];exact (QN.mp hi).1
 have cne:=I.cne
 have tracked:∀ {a:Addr}{h':Si},(∃ o,s.heap.get? a=some o/\H a=none)->T8 a s.heap h'->HOk X.prog X.w H h':=fun {a h'} ha hs b ob e=>by
  obtain ⟨_,_,hfree⟩:=ha
  refine (I.hok b ob e).stay (fun c w' hc q=>(hs.2 c ?_).trans q) (fun _ q=>q) fun _ _ q=>q
  rintro rfl
  rcases hc with rfl|hc
  ·rw [hfree] at e;cases e
  ·rw [hfree] at hc;cases hc
 rcases hx with hk|hk
 ·refine wpAny_storeName_local hk hn (fun h' hn' hs=>?_) hcls
  obtain ⟨oL,_,_,hoL,_⟩:=id hn
  refine h _ ⟨I.ok,I.os,I.bare,⟨fun b o e n hb hx=>?_,fun b o e n hb hx=>?_,I.base.free,fun b o e hx=>?_,I.base.tups,I.base.frzs,I.base.tbls⟩,⟨_,hn',fun j y v' e1 e2 e3=>?_⟩,fun y c e=>?_,I.free,I.freeC,fun p hp=>?_,tracked ⟨oL,hoL,I.free⟩ hs,by simpa using I.len⟩ ⟨_,hs,.inl rfl⟩
  ·exact (hs.2 b (Ro (RF (Q4 e) I.ok.above))).trans (I.base.keep b o e n hb hx)
  ·obtain ⟨sl,e1⟩:=I.base.slot b o e n hb hx
   exact ⟨sl,(hs.2 b (Ro (RF (Q4 e) I.ok.above))).trans e1⟩
  ·obtain ⟨o',e1⟩:=I.base.there b o e hx
   exact ⟨o',(hs.2 b (Ro (RF (Q4 e) I.ok.above))).trans e1⟩
  ·by_cases hj:j=i
   ·subst hj
    rw [hi] at e1;cases e1
    rw [Sf hiσ] at e2
    cases e2
    exact ⟨u,r,.inl ⟨hk,by simp⟩⟩
   ·rw [Rt (Sw hj)] at e2
    obtain ⟨u',r',q⟩:=hl j y v' e1 e2 e3
    refine ⟨u',r',?_⟩
    rcases q with ⟨k,e⟩|⟨k,c,e,z⟩
    ·refine .inl ⟨k,?_⟩
     have:y≠x:=fun e=>hj (yK hN e1 (e ▸ hi))
     simp [this,e]
    ·exact .inr ⟨k,c,e,z.sameBut hs (cne y c e)⟩
  ·obtain ⟨w',z⟩:=I.cell y c e
   exact ⟨w',z.sameBut hs (cne y c e)⟩
  ·obtain ⟨e,n,ne,nf,d⟩:=I.pin p hp
   exact ⟨(hs.2 p.1 ne).trans e,n,ne,nf,d⟩
 ·have hfn:X.fn x=true:=by
   rcases hf with z|z
   ·exact z
   ·rw [z] at hk;cases hk
  obtain ⟨c,hc⟩:=I.ok.has x (.inl hk)
  obtain ⟨w',z⟩:=I.cell x c hc
  refine wpAny_storeName_cell I.ok.kind hk hc z (fun h' hc' hs=>?_)
  obtain ⟨oc,hoc,hocd⟩:=id z
  refine h { s with heap:=h' } ⟨I.ok,I.os,I.bare,⟨fun b o e n hb hx=>?_,fun b o e n hb hx=>?_,I.base.free,fun b o e hx=>?_,I.base.tups,I.base.frzs,I.base.tbls⟩,⟨m,hn.sameBut hs (Sw (cne x c hc)),fun j y v' e1 e2 e3=>?_⟩,fun y c' e=>?_,I.free,I.freeC,fun p hp=>?_,tracked ⟨oc,hoc,I.freeC x c hc⟩ hs,by simpa using I.len⟩ ⟨c,hs,.inr hc⟩
  ·exact (hs.2 b (Ro (RF (Q4 e) (I.ok.cab x c hfn hc)))).trans (I.base.keep b o e n hb hx)
  ·obtain ⟨sl,e1⟩:=I.base.slot b o e n hb hx
   exact ⟨sl,(hs.2 b (Ro (RF (Q4 e) (I.ok.cab x c hfn hc)))).trans e1⟩
  ·obtain ⟨o',e1⟩:=I.base.there b o e hx
   exact ⟨o',(hs.2 b (Ro (RF (Q4 e) (I.ok.cab x c hfn hc)))).trans e1⟩
  ·by_cases hj:j=i
   ·subst hj
    rw [hi] at e1;cases e1
    rw [Sf hiσ] at e2
    cases e2
    exact ⟨u,r,.inr ⟨.inl hk,c,hc,hc'⟩⟩
   ·rw [Rt (Sw hj)] at e2
    obtain ⟨u',r',q⟩:=hl j y v' e1 e2 e3
    refine ⟨u',r',?_⟩
    rcases q with q|⟨k,c',e,z'⟩
    ·exact .inl q
    ·refine .inr ⟨k,c',e,z'.sameBut hs ?_⟩
     rintro rfl
     exact hj (yK hN e1 (I.ok.inj _ _ _ e hc ▸ hi))
  ·by_cases hcc:c'=c
   ·subst hcc;exact ⟨_,hc'⟩
   ·obtain ⟨w2,z2⟩:=I.cell y c' e
    exact ⟨w2,z2.sameBut hs hcc⟩
  ·obtain ⟨e,n,ne,nf,d⟩:=I.pin p hp
   refine ⟨(hs.2 p.1 ?_).trans e,n,ne,nf,d⟩
   intro q
   rw [q,hoc] at e
   have q':oc=p.2:=RA e
   exact d w' (by rw [<- q'];exact hocd)
theorem yM {M:a0e}{A:Rw}{E:QL->QM->Prop}{i:Nat}{x:Str}{v:V}{u:QL}{Q:Unit->QM->Prop}(I:Inv X a2j σ H s)(hN:X.N.Nodup)(hi:X.N[i]? = some x)(hx:Loc X.env.scope x)(r:RelV v u)
  (h:∀ s',Inv X a2j (σ.set i (some v)) H s'->Q () s')(hf:X.fn x=true\/X.env.scope.names.lookup x=some .local:=by first|exact .inl rfl|exact .inr rfl|assumption):Ri M A (storeName X.env x u) Q E s:=
 yL I hN hi hx r (fun s' I' _=>h s' I') hf
end
noncomputable abbrev XK:=QL->Option Addr->Hp->Prop
noncomputable abbrev St:=List (Option V)
noncomputable abbrev VK:=V->Hp->Prop
noncomputable abbrev TE:=St->Hp->VK->Prop
noncomputable abbrev TT:=St->Hp->(Bool->Hp->Prop)->Prop
noncomputable abbrev TA:=St->Hp->(List V->Hp->Prop)->Prop
structure Ends where
 nx:St->Hp->Prop
 rt:VK
 bk:St->Hp->Prop:=fun _ _=>False
 ct:St->Hp->Prop:=fun _ _=>False
noncomputable abbrev TS:=Ends->St->Hp->Prop
noncomputable def EP (X:Cx)(a2j:List (Addr×Td))(σ:St)(Q:VK)(u:QL)(s':QM):Prop:=∃ v H',Inv X a2j σ H' s'/\RelV v u/\Q v H'
noncomputable def TP (X:Cx)(a2j:List (Addr×Td))(σ:St)(Q:Bool->Hp->Prop)(b:Bool)(s':QM):Prop:=∃ H',Inv X a2j σ H' s'/\Q b H'
noncomputable def AP (X:Cx)(a2j:List (Addr×Td))(σ:St)(Q:List V->Hp->Prop)(us:List QL)(s':QM):Prop:=∃ vs H',Inv X a2j σ H' s'/\Vals vs us/\Q vs H'
noncomputable def SP (X:Cx)(a2j:List (Addr×Td))(D:Ends)(f:Flow)(s':QM):Prop:=
 match f with
 | .next=>∃ σ' H',Inv X a2j σ' H' s'/\D.nx σ' H'
 | .brk=>∃ σ' H',Inv X a2j σ' H' s'/\D.bk σ' H'
 | .cont=>∃ σ' H',Inv X a2j σ' H' s'/\D.ct σ' H'
 | .ret u=>∃ v σ' H',Inv X a2j σ' H' s'/\RelV v u/\D.rt v H'
noncomputable def PE (X:Cx)(e:Q1)(t:TE):Prop:=
 ∀ (a2j:List (Addr×Td))(s:QM)(σ:St)(H:Hp)(Q:VK),Inv X a2j σ H s->t σ H Q->Ri (Rl X.prog X.w) X.A (eval e X.env) (EP X a2j σ Q) X.xe s
noncomputable def PT (X:Cx)(e:Q1)(t:TT):Prop:=
 ∀ (a2j:List (Addr×Td))(s:QM)(σ:St)(H:Hp)(Q:Bool->Hp->Prop),Inv X a2j σ H s->t σ H Q->Ri (Rl X.prog X.w) X.A (Zw e X.env (eval e X.env)) (TP X a2j σ Q) X.xe s
noncomputable def PW (X:Cx)(e:Q1)(t:TT):Prop:=
 ∀ (whole:Zy QL)(a2j:List (Addr×Td))(s:QM)(σ:St)(H:Hp)(Q:Bool->Hp->Prop),Inv X a2j σ H s->t σ H Q->Ri (Rl X.prog X.w) X.A (Zw e X.env whole) (TP X a2j σ Q) X.xe s
theorem PW.pt {X:Cx}{e:Q1}{t:TT}(h:PW X e t):PT X e t:=h _
noncomputable def PA (X:Cx)(es:List Q1)(t:TA):Prop:=
 ∀ (pos:Ta)(a2j:List (Addr×Td))(s:QM)(σ:St)(H:Hp)(Q:List V->Hp->Prop),Inv X a2j σ H s->t σ H Q->Ri (Rl X.prog X.w) X.A (spliced (Uk pos (RK es X.env))) (AP X a2j σ Q) X.xe s
noncomputable def PS (X:Cx)(st:Stmt)(t:TS):Prop:=
 ∀ (a2j:List (Addr×Td))(s:QM)(σ:St)(H:Hp)(D:Ends),Inv X a2j σ H s->t D σ H->Ri (Rl X.prog X.w) X.A (exec st X.env) (SP X a2j D) X.xe s
noncomputable def PSs (X:Cx)(st:List Stmt)(t:TS):Prop:=
 ∀ (a2j:List (Addr×Td))(s:QM)(σ:St)(H:Hp)(D:Ends),Inv X a2j σ H s->t D σ H->Ri (Rl X.prog X.w) X.A (execs st X.env) (SP X a2j D) X.xe s
theorem aJ {α:Type}{t:Zy α}{Q Q':α->QM->Prop}{M:a0e}{A:Rw}{E:QL->QM->Prop}{s:QM}(h:Ri M A t Q E s)(hQ:∀ a s,Q a s->Q' a s):Ri M A t Q' E s:=RV h hQ fun _ _ x=>x
end L2
namespace L2
open PySem PySem.Spec PyProof.Rows
section
variable {X:Cx}
noncomputable def yN (i:Nat):TE:=fun σ H Q=>∃ v,σ[i]? = some (some v)/\Q v H
noncomputable def tC (v:V):TE:=fun _ H Q=>Q v H
theorem EZ {i:Nat}{x:Str}{pos:Ta}(hN:X.N[i]? = some x)(hv:nD X.env.scope x)(hd:(x == ("__debug__":Str))=false:=by decide) (hcd:(x == ("__classdict__":Str))=false:=by decide):PE X (.Name x pos) (yN i):=by
 intro a2j s σ H Q I h
 obtain ⟨v,e,h⟩:=h
 obtain ⟨m,hn,hl⟩:=I.loc
 obtain ⟨u,r,l⟩:=hl i x v hN e hv
 have fin:EP X a2j σ Q u s:=⟨v,H,I,r,h⟩
 rcases l with ⟨hk,hm⟩|⟨hk,c,hc,hcell⟩
 ·exact a0v (wpAny_loadName_local I.ok.kind hk hn hm fin) hd
 ·rcases hk with hk|hk
  ·exact a0v (wpAny_loadName_cell I.ok.kind hk hc hcell fin) hd
  ·exact a0v (wpAny_loadName_free I.ok.kind hk hc hcell fin hcd) hd
theorem E4 {i j pos}:PE X (.Constant (.int i) j pos) (tC (.int i)):=fun _ _ _ H _ I h=>wpAny_Constant_int ⟨.int i,H,I.tok _,⟨_,rfl⟩,h⟩
theorem E6 {b j pos}:PE X (.Constant (.bool b) j pos) (tC (.bl b)):=fun _ _ _ H _ I h=>Constant_bool ⟨.bl b,H,I,rfl,h⟩
theorem E7 {j pos}:PE X (.Constant .none j pos) (tC .non):=fun _ _ _ H _ I h=>Constant_none ⟨.non,H,I,rfl,h⟩
theorem Fb {x j pos}:PE X (.Constant (.str x) j pos) (tC (.str x)):=fun _ _ _ H _ I h=>Calls.Constant_str ⟨.str x,H,I.tok _,⟨_,rfl⟩,h⟩
noncomputable def Gl (X:Cx)(x:Str):Prop:=X.env.kindOf x=some .globalImplicit
theorem sD {E:QL->QM->Prop}{a2j:List (Addr×Td)}{s:QM}{σ:St}{H:Hp}{x:Str}{u:QL}{pos:Ta}{Q:QL->QM->Prop}(I:Inv X a2j σ H s)(hg:Gl X x)(hm:X.mg x=some u)(h:Q u s)
  (hd:(x == ("__debug__":Str))=false:=by decide):Ri (Rl X.prog X.w) X.A (eval (.Name x pos) X.env) Q E s:=
 XQ I.ok.kind hg (Calls.loadGlobal_global (by rw [I.ok.glob];exact I.mod.glob.keeps I.bk) hm h) hd
theorem gX {E:QL->QM->Prop}{a2j:List (Addr×Td)}{s:QM}{σ:St}{H:Hp}{x:Str}{u:QL}{pos:Ta}{Q:QL->QM->Prop}(I:Inv X a2j σ H s)(hg:Gl X x)(hm:X.mg x=none)(hv:S2 x=some u)(h:Q u s)
  (hn:x ≠ "__name__":=by decide) (hd:(x == ("__debug__":Str))=false:=by decide):Ri (Rl X.prog X.w) X.A (eval (.Name x pos) X.env) Q E s:=by
 obtain ⟨mb,h1,h2⟩:=I.mod.blt
 exact XQ I.ok.kind hg (Calls.loadGlobal_builtin (by rw [I.ok.glob];exact I.mod.glob.keeps I.bk) hm (by rw [I.ok.blt];exact h1.keeps I.bk) ((h2 x hn).trans hv) h) hd
theorem Fc {x:Str}{v:V}{u:QL}{pos:Ta}(hg:Gl X x)(hm:X.mg x=some u)(r:RelV v u)(hd:(x == ("__debug__":Str))=false:=by decide):PE X (.Name x pos) (tC v):=
 fun _ _ _ H _ I h=>sD I hg hm ⟨v,H,I,r,h⟩ hd
theorem Fd {x:Str}{v:V}{u:QL}{pos:Ta}(hg:Gl X x)(hm:X.mg x=none)(hv:S2 x=some u)(r:RelV v u)(hn:x ≠ "__name__":=by decide) (hd:(x == ("__debug__":Str))=false:=by decide):PE X (.Name x pos) (tC v):=
 fun _ _ _ H _ I h=>gX I hg hm hv ⟨v,H,I,r,h⟩ hn hd
variable {a b:Q1}{ta tb:TE}{pos:Ta}
variable {tA tB':TT}{rest:List Q1}
noncomputable def Fe (t u:TT):TT:=fun σ H Q=>t σ H fun c H1=>if c=true then u σ H1 Q else Q false H1
noncomputable def Ff (t u:TT):TT:=fun σ H Q=>t σ H fun c H1=>if c=true then Q true H1 else u σ H1 Q
noncomputable def Fg (t:TT):TT:=fun σ H Q=>t σ H fun c H1=>Q (!c) H1
theorem Fh (ha:PT X a tA):PW X (.BoolOp .And [a] pos) tA:=by
 intro wh a2j s σ H Q I h
 refine isTrue_and (aJ (ha a2j s σ H Q I h) fun c s1 e=>?_)
 cases c with
 | true=>exact isTrue_and_nil e
 | false=>exact e
theorem Fj (ha:PT X a tA):PW X (.BoolOp .Or [a] pos) tA:=by
 intro wh a2j s σ H Q I h
 refine isTrue_or (aJ (ha a2j s σ H Q I h) fun c s1 e=>?_)
 cases c with
 | false=>exact isTrue_or_nil e
 | true=>exact e
theorem Fm (ha:PT X a tA)(hb:PW X (.BoolOp .And (b::rest) pos) tB'):PW X (.BoolOp .And (a::b::rest) pos) (Fe tA tB'):=by
 intro wh a2j s σ H Q I h
 refine isTrue_and (aJ (ha a2j s σ H _ I h) fun c s1 ⟨H1,I1,q1⟩=>?_)
 cases c with
 | true=>exact hb wh a2j s1 σ H1 Q I1 q1
 | false=>exact ⟨H1,I1,q1⟩
theorem Fn (ha:PT X a tA)(hb:PW X (.BoolOp .Or (b::rest) pos) tB'):PW X (.BoolOp .Or (a::b::rest) pos) (Ff tA tB'):=by
 intro wh a2j s σ H Q I h
 refine isTrue_or (aJ (ha a2j s σ H _ I h) fun c s1 ⟨H1,I1,q1⟩=>?_)
 cases c with
 | true=>exact ⟨H1,I1,q1⟩
 | false=>exact hb wh a2j s1 σ H1 Q I1 q1
theorem Fo (ha:PT X a tA):PT X (.UnaryOp .Not a pos) (Fg tA):=by
 intro a2j s σ H Q I h
 exact isTrue_not (ha a2j s σ H (fun c H1=>Q (!c) H1) I h)
noncomputable def Fp (ta tb:TE):TE:=fun σ H Q=>ta σ H fun x H1=>∃ c,x=.bl c/\if c=true then tb σ H1 Q else Q (.bl false) H1
noncomputable def Fq (ta tb:TE):TE:=fun σ H Q=>ta σ H fun x H1=>∃ c,x=.bl c/\if c=true then Q (.bl true) H1 else tb σ H1 Q
noncomputable def Fs (ta:TE):TE:=fun σ H Q=>ta σ H fun x H1=>∃ c,x=.bl c/\Q (.bl (!c)) H1
theorem Ft {op} {t:TE}(h:PE X a t):PE X (.BoolOp op [a] pos) t:=fun a2j s σ H Q I hw=>BoolOp_one (h a2j s σ H Q I hw)
theorem Fu (ha:PE X a ta)(hb:PE X (.BoolOp .And (b::rest) pos) tb):PE X (.BoolOp .And (a::b::rest) pos) (Fp ta tb):=by
 intro a2j s σ H Q I h
 refine BoolOp_and (aJ (ha a2j s σ H _ I h) fun v s1 ⟨x,H1,I1,r1,q1⟩=>?_)
 obtain ⟨c,rfl,q1⟩:=q1
 cases r1
 refine TL ?_
 cases c with
 | true=>exact hb a2j s1 σ H1 Q I1 q1
 | false=>exact ⟨.bl false,H1,I1,rfl,q1⟩
theorem Fv (ha:PE X a ta)(hb:PE X (.BoolOp .Or (b::rest) pos) tb):PE X (.BoolOp .Or (a::b::rest) pos) (Fq ta tb):=by
 intro a2j s σ H Q I h
 refine BoolOp_or (aJ (ha a2j s σ H _ I h) fun v s1 ⟨x,H1,I1,r1,q1⟩=>?_)
 obtain ⟨c,rfl,q1⟩:=q1
 cases r1
 refine TL ?_
 cases c with
 | false=>exact hb a2j s1 σ H1 Q I1 q1
 | true=>exact ⟨.bl true,H1,I1,rfl,q1⟩
theorem Fw (ha:PE X a ta):PE X (.UnaryOp .Not a pos) (Fs ta):=by
 intro a2j s σ H Q I h
 refine UnaryOp_ (aJ (ha a2j s σ H _ I h) fun v s1 ⟨x,H1,I1,r1,q1⟩=>?_)
 obtain ⟨c,rfl,q1⟩:=q1
 cases r1
 exact not_of (TL ⟨.bl (!c),H1,I1,rfl,q1⟩)
noncomputable def Fx (t:TT)(ta tb:TE):TE:=fun σ H Q=>t σ H fun c H1=>if c=true then ta σ H1 Q else tb σ H1 Q
theorem Fy {c:Q1}(hc:PT X c tA)(ha:PE X a ta)(hb:PE X b tb):PE X (.IfExp c a b pos) (Fx tA ta tb):=by
 intro a2j s σ H Q I h
 refine wpAny_IfExp (aJ (hc a2j s σ H _ I h) fun d s1 ⟨H1,I1,q1⟩=>?_)
 cases d with
 | true=>exact ha a2j s1 σ H1 Q I1 q1
 | false=>exact hb a2j s1 σ H1 Q I1 q1
end
end L2
namespace L2
open PySem PySem.Spec PyProof.Rows
noncomputable def SqL (K:QH)(H:Hp)(a:Addr)(xs:List V):Prop:=
 Rd H a (.lst xs) \/
  ∃ (o:Td)(its:Array QL)(n:Nat),K.lookup a=some o/\o.cls=.type "list"/\o.dict=none/\o.data=.seq its n/\its.size<=Q6/\Vals xs its.toList
noncomputable def SqT (K:QH)(H:Hp)(a:Addr)(xs:List V):Prop:=
 Rd H a (.tup xs) \/
  ∃ (o:Td)(its:Array QL)(n:Nat),K.lookup a=some o/\o.cls=.type "tuple"/\o.dict=none/\o.data=.seq its n/\its.size<=Q6/\Vals xs its.toList
noncomputable def Fz:QL->Option V
 | .none=>some .non
 | .bool b=>some (.bl b)
 | .int i _=>some (.int i)
 | .str x _=>some (.str x)
 | .bytes b _=>some (.byt b)
 | .float b _=>some (.flt b)
 | .ref a=>some (.ref a)
 | .type n=>some (.ty n)
 | _=>none
theorem RelV.abs {x:V}{u:QL}(r:RelV x u):Fz u=some x:=by
 cases x with
 | non=>cases r;rfl
 | bl _=>cases r;rfl
 | int _=>obtain ⟨t,rfl⟩:=r;rfl
 | str _=>obtain ⟨t,rfl⟩:=r;rfl
 | byt _=>obtain ⟨t,rfl⟩:=r;rfl
 | flt _=>obtain ⟨t,rfl⟩:=r;rfl
 | ref _=>cases r;rfl
 | ty _=>cases r;rfl
theorem RelV.inj {x y:V}{u:QL}(r:RelV x u)(q:RelV y u):x=y:=RA (r.abs.symm.trans q.abs)
theorem Vals.inj:∀ {xs ys:List V}{us:List QL},Vals xs us->Vals ys us->xs=ys
 | _,_,_,.nil,.nil=>rfl
 | _,_,_,.cons r t,.cons r' t'=>by rw [r.inj r',Vals.inj t t']
section
variable {X:Cx}{a2j:List (Addr×Td)}{σ:St}{H:Hp}{s:QM}{a:Addr}{xs ys:List V}
theorem SqL.of {K:QH}(h:H a=some (.lst xs)):SqL K H a xs:=.inl (.inl h)
theorem SqT.of {K:QH}(h:H a=some (.tup xs)):SqT K H a xs:=.inl (.inl h)
theorem Inv.list (I:Inv X a2j σ H s)(h:SqL X.K H a xs):∃ its:List QL,Vals xs its/\PlainL s.heap a its.toArray/\xs.length<=Q6:=by
 rcases h with h|⟨o,its,n,hk,hc,hd,hs,hz,r⟩
 ·obtain ⟨z,its,n,r,e⟩:=h.ok I.hok
  exact ⟨its,r,⟨_,n,e,rfl,rfl,rfl⟩,z⟩
 ·refine ⟨its.toList,r,⟨o,n,I.kIn a o hk,hc,hd,by simpa using hs⟩,?_⟩
  have e:=r.length
  simp only [TJ] at e
  omega
theorem Inv.tuple (I:Inv X a2j σ H s)(h:SqT X.K H a xs):∃ its:List QL,Vals xs its/\a0X s.heap a its.toArray/\xs.length<=Q6:=by
 rcases h with h|⟨o,its,n,hk,hc,hd,hs,hz,r⟩
 ·obtain ⟨z,its,r,p⟩:=h.ok I.hok
  exact ⟨its,r,p.tup,z⟩
 ·refine ⟨its.toList,r,⟨o,I.kIn a o hk,hc,n,by simpa using hs⟩,?_⟩
  have e:=r.length
  simp only [TJ] at e
  omega
theorem Inv.tupN (I:Inv X a2j σ H s)(h:SqT X.K H a xs):∃ its:List QL,Vals xs its/\TupN s.heap a its.toArray:=by
 rcases h with h|⟨o,its,n,hk,hc,hd,hs,hz,r⟩
 ·obtain ⟨z,its,r,p⟩:=h.ok I.hok
  exact ⟨its,r,p⟩
 ·exact ⟨its.toList,r,o,I.kIn a o hk,hc,n,by simpa using hs,hd⟩
theorem Inv.list_inj (I:Inv X a2j σ H s)(h:SqL X.K H a xs)(h':SqL X.K H a ys):xs=ys:=by
 obtain ⟨its,r,⟨o,n,e,_,_,d⟩,_⟩:=I.list h
 obtain ⟨its',r',⟨o',n',e',_,_,d'⟩,_⟩:=I.list h'
 rw [e] at e';cases e'
 rw [d] at d'
 injection d' with d1 _
 have:its=its':=by simpa using congrArg a0J d1
 subst this
 exact r.inj r'
theorem Inv.tuple_inj (I:Inv X a2j σ H s)(h:SqT X.K H a xs)(h':SqT X.K H a ys):xs=ys:=by
 obtain ⟨its,r,⟨o,e,_,n,d⟩,_⟩:=I.tuple h
 obtain ⟨its',r',⟨o',e',_,n',d'⟩,_⟩:=I.tuple h'
 rw [e] at e';cases e'
 rw [d] at d'
 injection d' with d1 _
 have:its=its':=by simpa using congrArg a0J d1
 subst this
 exact r.inj r'
end
noncomputable abbrev Cx.wish (X:Cx)(E:QL->QM->Prop):Cx:={ X with xe:=E }
noncomputable abbrev Cx.nox (X:Cx):Cx:=X.wish fun _ _=>False
theorem Cx.Ok.wish {X:Cx}(ok:X.Ok)(E:QL->QM->Prop):(X.wish E).Ok:=
 ⟨ok.mod,ok.kind,ok.glob,ok.blt,ok.above,ok.inj,ok.has,ok.cab,ok.hd,ok.frames,ok.stk,ok.exf,ok.bs,ok.bsz,ok.noex,ok.exfs,ok.funs,ok.frf⟩
theorem Cx.Ok.unwish {X:Cx}{E:QL->QM->Prop}(ok:(X.wish E).Ok):X.Ok:=
 ⟨ok.mod,ok.kind,ok.glob,ok.blt,ok.above,ok.inj,ok.has,ok.cab,ok.hd,ok.frames,ok.stk,ok.exf,ok.bs,ok.bsz,ok.noex,ok.exfs,ok.funs,ok.frf⟩
section
variable {X:Cx}{a2j:List (Addr×Td)}{σ:St}{H:Hp}{s:QM}{E:QL->QM->Prop}
theorem Inv.wish (I:Inv X a2j σ H s)(E:QL->QM->Prop):Inv (X.wish E) a2j σ H s:=⟨I.ok.wish E,I.os,I.bare,I.base,I.loc,I.cell,I.free,I.freeC,I.pin,I.hok,I.len⟩
theorem Inv.unwish (I:Inv (X.wish E) a2j σ H s):Inv X a2j σ H s:=⟨I.ok.unwish,I.os,I.bare,I.base,I.loc,I.cell,I.free,I.freeC,I.pin,I.hok,I.len⟩
theorem SP.unwish {D:Ends}{f:Flow}{s':QM}(h:SP (X.wish E) a2j D f s'):SP X a2j D f s':=by
 cases f with
 | next=>obtain ⟨σ',H',I,q⟩:=h;exact ⟨σ',H',I.unwish,q⟩
 | brk=>obtain ⟨σ',H',I,q⟩:=h;exact ⟨σ',H',I.unwish,q⟩
 | cont=>obtain ⟨σ',H',I,q⟩:=h;exact ⟨σ',H',I.unwish,q⟩
 | ret u=>obtain ⟨v,σ',H',I,r,q⟩:=h;exact ⟨v,σ',H',I.unwish,r,q⟩
theorem PSs.nox {st:List Stmt}{t:TS}(h:PSs X.nox st t):PSs X st t:=fun a2j s σ H D I hw=>
 RV (h a2j s σ H D (I.wish _) hw) (fun _ _ q=>q.unwish) fun _ _ z=>Tv z
end
section
variable {X:Cx}{st:Stmt}{rest:List Stmt}{t u:TS}{e:Q1}{te:TE}{pos:Ta}
noncomputable def yO:TS:=fun D σ H=>D.nx σ H
noncomputable def FA (t u:TS):TS:=fun D σ H=>t { D with nx:=u D } σ H
theorem FC:PSs X [] yO:=fun _ _ σ H _ I h=>Yk ⟨σ,H,I,h⟩
theorem FD (h1:PS X st t)(h2:PSs X rest u):PSs X (st::rest) (FA t u):=by
 intro a2j s σ H D I h
 refine a0Z (aJ (h1 a2j s σ H { D with nx:=u D } I h) fun f s1 q=>?_)
 cases f with
 | next=>
  obtain ⟨σ',H',I',q⟩:=q
  exact h2 a2j s1 σ' H' D I' q
 | ret v=>exact q
 | brk=>exact q
 | cont=>exact q
theorem FE (h1:PS X st t):PSs X [st] t:=by
 intro a2j s σ H D I h
 refine a0Z (aJ (h1 a2j s σ H D I h) fun f s1 q=>?_)
 cases f with
 | next=>exact Yk q
 | ret v=>exact q
 | brk=>exact q
 | cont=>exact q
theorem FF:PS X (.Pass pos) yO:=fun _ _ σ H _ I h=>wpAny_Pass ⟨σ,H,I,h⟩
theorem Inv.quiet {a2j:List (Addr×Td)}{σ:St}{H:Hp}{s:QM}(I:Inv X a2j σ H s):interactive X.env=false:=by simp [interactive,I.ok.kind]
noncomputable def FG (te:TE):TS:=fun D σ H=>te σ H fun _ H1=>D.nx σ H1
theorem FH (he:PE X e te)(hs:Vo e none pos.line X.env=pure false:=by rfl):PS X (.Expr e pos) (FG te):=by
 intro a2j s σ H D I h
 exact wpAny_Expr_any (aJ (he a2j s σ H _ I h) fun v s1 ⟨x,H1,I1,r1,q1⟩=>⟨σ,H1,I1,q1⟩) I.quiet hs
noncomputable def FI (te:TE):TS:=fun D σ H=>te σ H D.rt
theorem FJ (he:PE X e te):PS X (.Return (some e) pos) (FI te):=by
 intro a2j s σ H D I h
 exact wpAny_Return_some (aJ (he a2j s σ H _ I h) fun v s1 ⟨x,H1,I1,r1,q1⟩=>⟨x,σ,H1,I1,r1,q1⟩)
noncomputable def FK:TS:=fun D _ H=>D.rt .non H
theorem FL:PS X (.Return none pos) FK:=fun _ _ σ H _ I h=>wpAny_Return_none ⟨.non,σ,H,I,rfl,h⟩
noncomputable def FN (c:TT)(t u:TS):TS:=fun D σ H=>c σ H fun b H1=>if b=true then t D σ H1 else u D σ H1
theorem FP {c:Q1}{a b:List Stmt}{tc:TT}(hc:PT X c tc)(ha:PSs X a t)(hb:PSs X b u):PS X (.If c a b pos) (FN tc t u):=by
 intro a2j s σ H D I h
 refine wpAny_If (aJ (hc a2j s σ H _ I h) fun d s1 ⟨H1,I1,q1⟩=>?_)
 cases d with
 | true=>exact ha a2j s1 σ H1 D I1 q1
 | false=>exact hb a2j s1 σ H1 D I1 q1
end
noncomputable abbrev TG:=V->St->Hp->(St->Hp->Prop)->Prop
noncomputable abbrev lD:=List V->St->Hp->(St->Hp->Prop)->Prop
noncomputable def PG (X:Cx)(target:Q1)(t:TG):Prop:=
 ∀ (a2j:List (Addr×Td))(s:QM)(σ:St)(H:Hp)(v:V)(u:QL)(Q:St->Hp->Prop),Inv X a2j σ H s->RelV v u->t v σ H Q->
  Ri (Rl X.prog X.w) X.A (Xk target X.env u) (fun _ s'=>∃ σ' H',Inv X a2j σ' H' s'/\Q σ' H') X.xe s
noncomputable def nE (X:Cx)(ts:List Q1)(t:lD):Prop:=
 ∀ (a2j:List (Addr×Td))(s:QM)(σ:St)(H:Hp)(vs:List V)(us:List QL)(Q:St->Hp->Prop),Inv X a2j σ H s->Vals vs us->t vs σ H Q->
  Ri (Rl X.prog X.w) X.A (assignInOrder ((TN ts X.env).map (·.2)) us) (fun _ s'=>∃ σ' H',Inv X a2j σ' H' s'/\Q σ' H') X.xe s
noncomputable abbrev yP:=V->V->V->Hp->(Hp->Prop)->Prop
noncomputable def FQ (X:Cx)(t:yP):Prop:=
 ∀ (a2j:List (Addr×Td))(s:QM)(σ:St)(H:Hp)(o i v:V)(ov iv u:QL)(Q:Hp->Prop),Inv X a2j σ H s->RelV o ov->RelV i iv->RelV v u->t o i v H Q->
  Ri (Rl X.prog X.w) X.A (setItem ov iv u) (fun _ s'=>∃ H',Inv X a2j σ H' s'/\Q H') X.xe s
section
variable {X:Cx}{pos:Ta}
noncomputable def sE (i:Nat):TG:=fun v σ H Q=>Q (σ.set i (some v)) H
theorem yQ {i:Nat}{x:Str}(hN:X.N.Nodup)(hi:X.N[i]? = some x)(hx:Loc X.env.scope x)(hf:X.fn x=true\/X.env.scope.names.lookup x=some .local:=by first|exact .inl rfl|exact .inr rfl|assumption):PG X (.Name x pos) (sE i):=by
 intro a2j s σ H v u Q I r h
 exact a0M (yM I hN hi hx r (fun s' I'=>⟨_,H,I',h⟩) hf)
noncomputable def yR:lD:=fun vs σ H Q=>vs=[]/\Q σ H
noncomputable def yS (t:TG)(u:lD):lD:=fun vs σ H Q=>∃ v r,vs=v::r/\t v σ H fun σ' H'=>u r σ' H' Q
theorem FR:nE X [] yR:=by
 intro a2j s σ H vs us Q I r h
 obtain ⟨e,h⟩:=h
 subst e
 cases r
 exact assignInOrder_nil ⟨σ,H,I,h⟩
theorem FT {e:Q1}{es:List Q1}{t:TG}{u:lD}(h1:PG X e t)(h2:nE X es u)
  (hs:(TN (e::es) X.env).map (·.2)=Xk e X.env::(TN es X.env).map (·.2):=by rfl):nE X (e::es) (yS t u):=by
 intro a2j s σ H vs us Q I r h
 obtain ⟨v,vr,e1,h⟩:=h
 subst e1
 cases r with
 | cons r rr=>
  rw [hs]
  refine assignInOrder_cons (aJ (h1 a2j s σ H _ _ _ I r h) fun _ s1 ⟨σ1,H1,I1,q1⟩=>?_)
  exact h2 a2j s1 σ1 H1 _ _ Q I1 rr q1
noncomputable def yT (te:TE)(g:TG):TS:=fun D σ H=>te σ H fun x H1=>g x σ H1 D.nx
theorem FU {tg e:Q1}{te:TE}{g:TG}(he:PE X e te)(hg:PG X tg g)(hs:swapsWithSole [tg] e pos.line X.env=pure false:=by rfl)(hw:Y2 [tg] e X.env=pure none:=by rfl)
  (h1:(TN [tg] X.env).map (·.2)=[Xk tg X.env]:=by rfl):PS X (.Assign [tg] e pos) (yT te g):=by
 intro a2j s σ H D I h
 refine wpAny_Assign_stores (aJ (he a2j s σ H _ I h) fun v s1 ⟨x,H1,I1,r1,q1⟩=>?_) hs hw
 rw [h1]
 exact aJ (hg a2j s1 σ H1 x v _ I1 r1 q1) fun _ s2 q=>q
theorem FV {i:Nat}{x:Str}{e:Q1}{te:TE}{pos':Ta}(hN:X.N.Nodup)(hi:X.N[i]? = some x)(hx:Loc X.env.scope x)(he:PE X e te)(hs:Vo e (some (.Name x pos')) pos.line X.env=pure false:=by rfl)(hf:X.fn x=true\/X.env.scope.names.lookup x=some .local:=by first|exact .inl rfl|exact .inr rfl|assumption) :
  PS X (.Assign [.Name x pos'] e pos) (yT te (sE i)):=by
 intro a2j s σ H D I h
 refine wpAny_Assign_Name (aJ (he a2j s σ H _ I h) fun v s1 ⟨y,H1,I1,r1,q1⟩=>?_) hs
 exact yM I1 hN hi hx r1 (fun s2 I2=>⟨_,H1,I2,q1⟩) hf
end
section
variable {X:Cx}{pos:Ta}
end
structure It where
 go:Nat->Hp->Prop
 yld:Nat->Hp->V->Hp->Prop
 stop:Nat->Hp->Prop
noncomputable def fD (X:Cx)(a2j:List (Addr×Td))(H:Hp)(b:Addr):Prop:=
 H b=none/\b≠X.env.locals/\b∉X.fs/\(b∈X.ex\/X.s₀.heap.objs.size<=b)/\(∀ x c,X.env.cells.lookup x=some c->c≠b)/\∀ p∈X.pn++a2j,p.1≠b
theorem Inv.fpOk {X:Cx}{a2j:List (Addr×Td)}{σ:St}{H H':Hp}{s:QM}{b:Addr}(I:Inv X a2j σ H s)(hb:s.heap.objs.size<=b)(hn:H' b=none):fD X a2j H' b:=by
 refine ⟨hn,S7 (RF I.lt hb),I.nofs hb,.inr (SR I.sz hb),fun x c e z=>?_,fun p hp z=>?_⟩
 ·obtain ⟨v,q⟩:=I.cell x c e
  exact absurd (RF q.lt (by rw [z];exact hb)) (Us _)
 ·exact absurd (RF (Q4 (I.pin p hp).1) (by rw [z];exact hb)) (Us _)
structure Turn (P:Rk)(w:RG)(K:QH)(tg:Q1)(J:It)(fp:List Addr)(it:Addr)(tn:Nat->Si->Prop):Prop where
 mem:it∈fp
 obj:∀ i h,tn i h->∀ b∈fp,∃ o,h.get? b=some o/\∀ v,o.data≠.cell v
 keep:∀ i h h',tn i h->(∀ b∈fp,∀ o,h.get? b=some o->h'.get? b=some o)->tn i h'
 item:∀ (X:Cx),X.prog=P->X.w=w->X.K=K->X.calm=true->∀ (i:Nat)(a2j:List (Addr×Td))(s:QM)(σ:St)(H:Hp)(E:QL->QM->Prop),Inv X a2j σ H s->(∀ b∈fp,fD X a2j H b)->tn i s.heap->J.go i H->
  Ri (Rl P w) X.A (Wf (.ref it)) (fun r s1=>∃ u,r=some u /\
   Ri (Rl P w) X.A (WG tg (.ref it) u) (fun _ s2=>∃ x H',Inv X a2j σ H' s2/\RelV x u/\J.yld i H x H'/\tn (i+1) s2.heap/\∀ b∈fp,H' b=none) E s1) E s
 done:∀ (X:Cx),X.prog=P->X.w=w->X.K=K->X.calm=true->∀ (i:Nat)(a2j:List (Addr×Td))(s:QM)(σ:St)(H:Hp)(E:QL->QM->Prop),Inv X a2j σ H s->(∀ b∈fp,fD X a2j H b)->tn i s.heap->J.stop i H->
  Ri (Rl P w) X.A (Wf (.ref it)) (fun r s1=>r=none/\Inv X a2j σ H s1) E s
 self:∀ (A:Rw)(i:Nat)(s:QM)(Q:QL->QM->Prop)(E:QL->QM->Prop),tn i s.heap->Q (.ref it) s->Ri (Rl P w) A (Yy (.ref it)) Q E s
noncomputable abbrev TI:=St->Hp->(It->Hp->Prop)->Prop
noncomputable def oY (X:Cx)(a2j:List (Addr×Td))(σ:St)(tg:Q1)(R:It->Hp->Prop)(itv:QL)(s2:QM):Prop:=
 ∃ (it:Addr)(fp:List Addr)(tn:Nat->Si->Prop)(J:It)(H':Hp),itv=.ref it/\Inv X a2j σ H' s2/\Turn X.prog X.w X.K tg J fp it tn/\tn 0 s2.heap/\(∀ b∈fp,fD X a2j H' b)/\R J H'
noncomputable def PI (X:Cx)(tg iter:Q1)(wi:TI):Prop:=
 ∀ (a2j:List (Addr×Td))(s:QM)(σ:St)(H:Hp)(R:It->Hp->Prop),Inv X a2j σ H s->wi σ H R->
  Ri (Rl X.prog X.w) X.A (eval iter X.env) (fun v s1=>Ri (Rl X.prog X.w) X.A (Yy v) (oY X a2j σ tg R) X.xe s1) X.xe s
theorem oZ {M:a0e}{A:Rw}{E:QL->QM->Prop}{s:QM}{tg:Q1}{it:Addr}{u:QL}{o:Td}{n:String}{vs:Array QL}{Q:Unit->QM->Prop}(ho:s.heap.get? it=some o)(hc:o.cls=.type n)(hd:o.data=.fields vs)
  (hn:["enumerate","zip","dict_itemiterator","dict_reverseitemiterator","odict_iterator","itertools.zip_longest","itertools.pairwise"].contains n=false) (hQ:Q () s):Ri M A (WG tg (.ref it) u) Q E s:=by
 unfold WG
 cases tg<;>first
  | exact QX hQ
  | (cases u<;>first
    | exact QX hQ
    | (refine QK (Xg ho ?_)
       rw [hc,hd]
       show Ri M A (if (["enumerate","zip","dict_itemiterator","dict_reverseitemiterator","odict_iterator","itertools.zip_longest","itertools.pairwise"].contains n&&vs[0]? == some (Vh _))=true then _ else _) Q E s
       rw [if_neg (by intro h;rw [hn,X3] at h;cases h)]
       exact QX hQ))
noncomputable def sF (K:QH)(a:Addr):It:=
 ⟨fun i H=>∃ xs x,SqL K H a xs/\xs[i]? = some x,fun i H x H'=>H'=H/\∀ xs,SqL K H a xs->xs[i]? = some x,fun i H=>∃ xs,SqL K H a xs/\xs.length<=i⟩
noncomputable def sG (K:QH)(a:Addr):It:=
 ⟨fun i H=>∃ xs x,SqT K H a xs/\xs[i]? = some x,fun i H x H'=>H'=H/\∀ xs,SqT K H a xs->xs[i]? = some x,fun i H=>∃ xs,SqT K H a xs/\xs.length<=i⟩
noncomputable def nF (lo:Int)(n:Nat):It:=⟨fun i _=>i<n,fun i H x H'=>H'=H/\x=.int (lo+i),fun i _=>n<=i⟩
theorem FW {P:Rk}{w:RG}{K:QH}{tg:Q1}(a it:Addr):Turn P w K tg (sF K a) [it] it (fun i h=>h.IsListIter it a i) where
 mem:=by simp
 obj:=fun i h st b hb=>by
  have e:b=it:=by simpa using hb
  subst e
  obtain ⟨o,e,c,d⟩:=st
  exact ⟨o,e,fun v z=>by rw [d] at z;cases z⟩
 keep:=fun i h h' st k=>st.at fun o e=>k it (by simp) o e
 item:=by
  intro X hP hw hK hc i a2j s σ H E I hf st hg
  subst hP hw hK
  obtain ⟨xs,x,hq,hx⟩:=hg
  obtain ⟨its,rv,p,hz⟩:=I.list hq
  obtain ⟨u,hu,ru⟩:=rv.get hx
  obtain ⟨f0,f1,f2,f3,f4,f5⟩:=hf it (by simp)
  refine Zq st p.isList (x:=u) (by simpa using hu) fun h' st' sb=>?_
  have I1:Inv X a2j σ H { s with heap:=h' }:=I.turned (t':=s.toks) (fun b o hb e=>(sb.2 b hb).trans e) f0 f1 f3 f4 f5
  obtain ⟨o,e,c,d⟩:=id st'
  exact ⟨u,rfl,oZ (s:={ s with heap:=h' }) e c d (by decide) ⟨x,H,I1,ru,⟨rfl,fun ys hy=>by rw [I.list_inj hy hq];exact hx⟩,st',fun b hb=>(hf b hb).1⟩⟩
 done:=by
  intro X hP hw hK hc i a2j s σ H E I hf st hg
  subst hP hw hK
  obtain ⟨xs,hq,hx⟩:=hg
  obtain ⟨its,rv,p,hz⟩:=I.list hq
  obtain ⟨f0,f1,f2,f3,f4,f5⟩:=hf it (by simp)
  have hl:=rv.length
  exact ZN (I.ok.hd hc) st p.isList (by simp;omega) fun h' eb=>⟨rfl,I.turned (t':=s.toks) (fun b o hb e=>eb b o hb e) f0 f1 f3 f4 f5⟩
 self:=fun _ _ _ _ _ st h=>wpAny_pyIter_listiter st h
theorem FX {P:Rk}{w:RG}{K:QH}{tg:Q1}(a it:Addr):Turn P w K tg (sG K a) [it] it (fun i h=>h.IsTupleIter it a i) where
 mem:=by simp
 obj:=fun i h st b hb=>by
  have e:b=it:=by simpa using hb
  subst e
  obtain ⟨o,e,c,d⟩:=st
  exact ⟨o,e,fun v z=>by rw [d] at z;cases z⟩
 keep:=fun i h h' st k=>st.at fun o e=>k it (by simp) o e
 item:=by
  intro X hP hw hK hc i a2j s σ H E I hf st hg
  subst hP hw hK
  obtain ⟨xs,x,hq,hx⟩:=hg
  obtain ⟨its,rv,p,hz⟩:=I.tuple hq
  obtain ⟨u,hu,ru⟩:=rv.get hx
  obtain ⟨f0,f1,f2,f3,f4,f5⟩:=hf it (by simp)
  refine Zd st (show s.heap.IsTuple a its.toArray from p) (x:=u) (by simpa using hu) fun h' st' sb=>?_
  have I1:Inv X a2j σ H { s with heap:=h' }:=I.turned (t':=s.toks) (fun b o hb e=>(sb.2 b hb).trans e) f0 f1 f3 f4 f5
  obtain ⟨o,e,c,d⟩:=id st'
  exact ⟨u,rfl,oZ (s:={ s with heap:=h' }) e c d (by decide) ⟨x,H,I1,ru,⟨rfl,fun ys hy=>by rw [I.tuple_inj hy hq];exact hx⟩,st',fun b hb=>(hf b hb).1⟩⟩
 done:=by
  intro X hP hw hK hc i a2j s σ H E I hf st hg
  subst hP hw hK
  obtain ⟨xs,hq,hx⟩:=hg
  obtain ⟨its,rv,p,hz⟩:=I.tuple hq
  obtain ⟨f0,f1,f2,f3,f4,f5⟩:=hf it (by simp)
  have hl:=rv.length
  exact Zp (I.ok.hd hc) st (show s.heap.IsTuple a its.toArray from p) (by simp;omega) fun h' eb=>⟨rfl,I.turned (t':=s.toks) (fun b o hb e=>eb b o hb e) f0 f1 f3 f4 f5⟩
 self:=fun _ _ _ _ _ st h=>wpAny_pyIter_tupleiter st h
theorem FY {P:Rk}{w:RG}{K:QH}{tg:Q1}(it:Addr)(lo:Int)(n:Nat):Turn P w K tg (nF lo n) [it] it (fun i h=>IsRangeIter h it (lo+(i:Nat) * 1) ((n:Int) - (i:Nat)) 1) where
 mem:=by simp
 obj:=fun i h st b hb=>by
  have e:b=it:=by simpa using hb
  subst e
  exact ⟨_,st,fun v z=>by
   have z':a1n _=Data.cell v:=z
   cases z'⟩
 keep:=fun i h h' st k=>k it (by simp) _ st
 item:=by
  intro X hP hw hK hc i a2j s σ H E I hf st hg
  subst hP hw hK
  obtain ⟨f0,f1,f2,f3,f4,f5⟩:=hf it (by simp)
  have W:=Walks.range (prog:=X.prog) (w:=X.w) (I.ok.hd hc) it lo 1 n
  refine W.item i s _ _ hg st fun v h' tk hv st' kk=>?_
  obtain ⟨t,rfl⟩:=hv
  have I1:Inv X a2j σ H { s with heap:=h',toks:=tk }:=I.turned (fun b o hb e=>kk b o (by simpa using hb) e) f0 f1 f3 f4 f5
  refine ⟨_,rfl,oZ (s:={ s with heap:=h',toks:=tk }) (n:="range_iterator") st' rfl rfl (by decide) ⟨.int (lo+i),H,I1,⟨t,?_⟩,⟨rfl,rfl⟩,st',fun b hb=>(hf b hb).1⟩⟩
  rw [Int.mul_one]
 done:=by
  intro X hP hw hK hc i a2j s σ H E I hf st hg
  subst hP hw hK
  obtain ⟨f0,f1,f2,f3,f4,f5⟩:=hf it (by simp)
  exact wpAny_pyNext_range_end (I.ok.hd hc) st (by have:n<=i:=hg;omega) fun h' eb=>⟨rfl,I.turned (t':=s.toks) (fun b o hb e=>eb b o hb e) f0 f1 f3 f4 f5⟩
 self:=fun _ _ _ _ _ st h=>wpAny_pyIter_rangeiter st h
end L2
namespace L2
open PySem PySem.Spec PyProof.Rows
section
variable {X:Cx}{tg:Q1}
theorem yU {a2j:List (Addr×Td)}{σ:St}{H:Hp}{s:QM}{R:It->Hp->Prop}{E:QL->QM->Prop}{lo hi:Int}{t u v:a0D}{tk:Nat}(I:Inv X a2j σ H s)(h1:-(2 ^ 62)<=lo)(h2:lo<2 ^ 62)(h3:-(2 ^ 62)<=hi)(h4:hi<2 ^ 62)
  (q:R (nF lo (hi - lo).toNat) H):Ri (Rl X.prog X.w) X.A (Yy (.ref s.heap.objs.size)) (oY X a2j σ tg R) E { s with heap:=s.heap.push { cls:=.type "range",data:=.fields #[.int lo t,.int hi u,.int 1 v] },toks:=tk }:=by
 refine wpAny_pyIter_range (IsRange.new ..) (small_one h1 h2 h3 h4) ?_
 have I1:Inv X a2j σ H { s with heap:=s.heap.push { cls:=.type "range",data:=.fields #[.int lo t,.int hi u,.int 1 v] },toks:=tk }:=I.kept fun b o e=>QU _ e
 refine ⟨(s.heap.push { cls:=.type "range",data:=.fields #[.int lo t,.int hi u,.int 1 v] }).objs.size,[(s.heap.push { cls:=.type "range",data:=.fields #[.int lo t,.int hi u,.int 1 v] }).objs.size],_,_,H,rfl,
  I1.kept (t':=tk) fun b o e=>QU _ e,FY _ lo (hi - lo).toNat,?_,fun b hb=>?_,q⟩
 ·have e1:lo+((0:Nat):Int) * 1=lo:=by simp
  have e2:(((hi - lo).toNat:Nat):Int) - ((0:Nat):Int)=a1q lo hi 1:=by rw [rangeSize_one];split<;>omega
  show IsRangeIter _ _ (lo+((0:Nat):Int) * 1) ((((hi - lo).toNat:Nat):Int) - ((0:Nat):Int)) 1
  rw [e1,e2]
  exact Rj _ rfl
 ·have e:b=(s.heap.push { cls:=.type "range",data:=.fields #[.int lo t,.int hi u,.int 1 v] }).objs.size:=by simpa using hb
  subst e
  exact I1.fpOk (Q0 _) (I1.hok.fresh (Q0 _))
noncomputable def FZ (ta:TA):TI:=fun σ H R=>ta σ H fun vs H1=>∃ j:Int,vs=[.int j]/\-(2 ^ 62)<=j/\j<2 ^ 62/\R (nF 0 j.toNat) H1
noncomputable def F0 (ta:TA):TI:=fun σ H R=>ta σ H fun vs H1=>∃ i j:Int,vs=[.int i,.int j]/\(-(2 ^ 62)<=i/\i<2 ^ 62/\-(2 ^ 62)<=j/\j<2 ^ 62)/\R (nF i (j - i).toNat) H1
theorem F1 {a:Q1}{ta:TA}{p pos:Ta}(hg:Gl X "range") (hm:X.mg "range" = none) (ha:PA X [a] ta)(hs:RK [a] X.env=[(false,eval a X.env)]:=by rfl):PI X tg (.Call (.Name "range" p) [a] [] pos) (FZ ta):=by
 intro a2j s σ H R I h
 refine Call_ (gX I hg hm boot_range (S3 (aJ (ha pos a2j s σ H _ I h) fun us s1 ⟨vs,H1,I1,r1,q1⟩=>?_) hs rfl))
 obtain ⟨j,e,q1,q2,q⟩:=q1
 subst e
 cases r1 with
 | cons r rr=>
  cases rr
  obtain ⟨t,rfl⟩:=r
  exact call_range_1 (yU I1 (by omega) (by omega) q1 q2 (by simpa using q))
theorem F2 {a b:Q1}{ta:TA}{p pos:Ta}(hg:Gl X "range") (hm:X.mg "range" = none) (ha:PA X [a,b] ta)(hs:RK [a,b] X.env=[(false,eval a X.env),(false,eval b X.env)]:=by rfl)(hs2:RK [b] X.env=[(false,eval b X.env)]:=by rfl) :
  PI X tg (.Call (.Name "range" p) [a,b] [] pos) (F0 ta):=by
 intro a2j s σ H R I h
 refine Call_ (gX I hg hm boot_range (S3 (aJ (ha pos a2j s σ H _ I h) fun us s1 ⟨vs,H1,I1,r1,q1⟩=>?_) (by rw [hs,hs2]) (by rw [hs2];rfl)))
 obtain ⟨i,j,e,⟨q1,q2,q3,q4⟩,q⟩:=q1
 subst e
 cases r1 with
 | cons r rr=>
  cases rr with
  | cons r' rr=>
   cases rr
   obtain ⟨t,rfl⟩:=r
   obtain ⟨t',rfl⟩:=r'
   exact call_range_2 (yU I1 q1 q2 q3 q4 q)
noncomputable def F3 (wi:TI)(g:TG)(tb:TS):TS:=fun D σ H=>wi σ H fun J H1=>∃ W:Nat->Nat->St->Hp->Prop,(∃ m,W 0 m σ H1)/\∀ i m σ H,W i m σ H->
 (J.stop i H/\D.nx σ H)\/(J.go i H/\∃ N:St->Hp->Prop,(∀ σ' H',N σ' H'->∃ m',m'<m/\W (i+1) m' σ' H')/\∀ x H',J.yld i H x H'->g x σ H' fun σ2 H2=>tb { D with nx:=N,ct:=N,bk:=D.nx } σ2 H2)
noncomputable def nG (fp:List Addr)(h:Si):List (Addr×Td):=fp.filterMap fun b=>(h.get? b).map fun o=>(b,o)
theorem o4 {fp:List Addr}{h:Si}{b:Addr}{o:Td}(hb:b∈fp)(e:h.get? b=some o):(b,o)∈nG fp h:=WT.mpr ⟨b,hb,by rw [e];rfl⟩
theorem F4 {fp:List Addr}{h:Si}{p:Addr×Td}(hp:p∈nG fp h):p.1∈fp/\h.get? p.1=some p.2:=by
 obtain ⟨b,hb,e⟩:=WT.mp hp
 cases q:h.get? b with
 | none=>rw [q] at e;cases e
 | some o=>
  rw [q] at e
  have e':(b,o)=p:=RA e
  subst e'
  exact ⟨hb,q⟩
theorem Inv.pinned {a2j:List (Addr×Td)}{σ:St}{H:Hp}{s:QM}{fp:List Addr}(I:Inv X a2j σ H s)(hf:∀ b∈fp,fD X a2j H b)(ho:∀ b∈fp,∃ o,s.heap.get? b=some o/\∀ v,o.data≠.cell v):Inv X (a2j++nG fp s.heap) σ H s:=
 I.pins_of fun p hp=>(Sb.mp hp).elim (fun z=>I.pin p (Sz _ z)) fun z=>by
  obtain ⟨hb,e⟩:=F4 z
  obtain ⟨f0,f1,f2,_⟩:=hf p.1 hb
  obtain ⟨o,e',d⟩:=ho p.1 hb
  rw [e] at e';cases e'
  exact ⟨e,f0,f1,f2,d⟩
theorem Inv.unpinned {a2j pl:List (Addr×Td)}{σ:St}{H:Hp}{s:QM}(I:Inv X (a2j++pl) σ H s):Inv X a2j σ H s:=I.pins_of fun p hp=>I.pin p (Sz _ (YX _ hp))
theorem F5 {iter:Q1}{body:List Stmt}{wi:TI}{g:TG}{tb:TS}{pos:Ta}(hp:a1g (Rl X.prog X.w) X.A X.env X.xe)(hc:X.calm=true)(hi:PI X tg iter wi)(hg:PG X tg g)(hb:PSs X body tb)
  (hs:∀ x,Vx iter X.env x=pure x:=by intro _;rfl):PS X (.For tg iter body [] pos) (F3 wi g tb):=by
 intro a2j s σ H D I h
 refine wpAny_For (aJ (hi a2j s σ H _ I h) fun v s1 h1=>aJ h1 fun itv s2 h2=>?_) hs
 obtain ⟨it,fp,tn,J,H2,e,I2,T,st2,f2,W,⟨m0,w0⟩,turn⟩:=h2
 subst e
  -- what stays true of the iterator's objects through the loop
 have stat:∀ {H':Hp},(∀ b∈fp,H' b=none)->∀ b∈fp,fD X a2j H' b:=fun hn b hb=>⟨hn b hb,(f2 b hb).2⟩
 refine codeAny_forLoop_any (fun n s'=>∃ i σ' H',Inv X a2j σ' H' s'/\tn i s'.heap/\(∀ b∈fp,H' b=none)/\W i n σ' H') ?_ m0 ⟨0,σ,H2,I2,st2,fun b hb=>(f2 b hb).1,w0⟩
 rintro n s3 ⟨i,σ3,H3,I3,st3,fr3,w3⟩
 rcases turn i n σ3 H3 w3 with ⟨stop,qn⟩|⟨go,N,hN,step⟩
 ·refine VT hp (aJ (T.done X rfl rfl rfl hc i a2j s3 σ3 H3 X.xe I3 (stat fr3) st3 stop) fun r s4 ⟨hr,I4⟩=>?_)
  subst hr
  exact Yk ⟨σ3,H3,I4,qn⟩
 ·refine VT hp (aJ (T.item X rfl rfl rfl hc i a2j s3 σ3 H3 X.xe I3 (stat fr3) st3 go) fun r s4 ⟨u,hr,h4⟩=>?_)
  subst hr
  refine VT hp (aJ h4 fun _ s5 ⟨x,H5,I5,r5,y5,st5,fr5⟩=>?_)
  have I5':=I5.pinned (stat fr5) (T.obj _ _ st5)
  refine VT hp (aJ (hg _ s5 σ3 H5 x u _ I5' r5 (step x H5 y5)) fun _ s6 ⟨σ6,H6,I6,q6⟩=>?_)
  refine VT hp (aJ (hb _ s6 σ6 H6 _ I6 q6) fun f s7 q7=>?_)
  have again:∀ {σ7:St}{H7:Hp},Inv X (a2j++nG fp s5.heap) σ7 H7 s7->N σ7 H7->∃ m,m<n/\∃ i σ' H',Inv X a2j σ' H' s7/\tn i s7.heap/\(∀ b∈fp,H' b=none)/\W i m σ' H':=fun {σ7 H7} I7 n7=>by
   obtain ⟨m',hm,w7⟩:=hN σ7 H7 n7
   refine ⟨m',hm,i+1,σ7,H7,I7.unpinned,T.keep _ _ _ st5 fun b hb o e=>(I7.pin (b,o) (Sz _ (Sz _ (o4 hb e)))).1,fun b hb=>?_,w7⟩
   obtain ⟨o,e,d⟩:=T.obj _ _ st5 b hb
   exact (I7.pin (b,o) (Sz _ (Sz _ (o4 hb e)))).2.1
  cases f with
  | next=>obtain ⟨σ7,H7,I7,n7⟩:=q7;exact again I7 n7
  | cont=>obtain ⟨σ7,H7,I7,n7⟩:=q7;exact again I7 n7
  | brk=>obtain ⟨σ7,H7,I7,q7⟩:=q7;exact ⟨σ7,H7,I7.unpinned,q7⟩
  | ret v=>obtain ⟨x7,σ7,H7,I7,r7,q7⟩:=q7;exact ⟨x7,σ7,H7,I7.unpinned,r7,q7⟩
end
end L2
namespace L2
open PySem PySem.Spec PyProof.Rows
noncomputable abbrev R2:=V->V->Hp->VK->Prop
noncomputable def OpR (X:Cx)(f:QL->QL->Zy QL)(r:R2):Prop:=
 ∀ (a2j:List (Addr×Td))(s:QM)(σ:St)(H:Hp)(x y:V)(v u:QL)(Q:VK),Inv X a2j σ H s->RelV x v->RelV y u->r x y H Q->
  Ri (Rl X.prog X.w) X.A (f v u) (EP X a2j σ Q) X.xe s
noncomputable def sH (X:Cx)(f:QL->Zy QL)(r:V->Hp->VK->Prop):Prop:=
 ∀ (a2j:List (Addr×Td))(s:QM)(σ:St)(H:Hp)(x:V)(v:QL)(Q:VK),Inv X a2j σ H s->RelV x v->r x H Q->
  Ri (Rl X.prog X.w) X.A (f v) (EP X a2j σ Q) X.xe s
noncomputable def CallR (X:Cx)(f:QL)(r:List V->Hp->VK->Prop):Prop:=
 ∀ (a2j:List (Addr×Td))(s:QM)(σ:St)(H:Hp)(xs:List V)(us:List QL)(Q:VK),Inv X a2j σ H s->Vals xs us->r xs H Q->
  Ri (Rl X.prog X.w) X.A (call f us) (EP X a2j σ Q) X.xe s
noncomputable def F6 (X:Cx)(r:V->Hp->(Bool->Hp->Prop)->Prop):Prop:=
 ∀ (a2j:List (Addr×Td))(s:QM)(σ:St)(H:Hp)(x:V)(v:QL)(Q:Bool->Hp->Prop),Inv X a2j σ H s->RelV x v->r x H Q->
  Ri (Rl X.prog X.w) X.A (truthy v) (TP X a2j σ Q) X.xe s
noncomputable def nH (r:R2)(ta tb:TE):TE:=fun σ H Q=>ta σ H fun x H1=>tb σ H1 fun y H2=>r x y H2 Q
noncomputable def F7 (r:V->Hp->VK->Prop)(ta:TE):TE:=fun σ H Q=>ta σ H fun x H1=>r x H1 Q
noncomputable def rI (C:Int->Int->Prop)(g:Int->Int->V):R2:=fun x y H Q=>∃ i j,x=.int i/\y=.int j/\C i j/\Q (g i j) H
noncomputable def eD (g:Int->Int->V):R2:=fun x y H Q=>∃ i j,x=.int i/\y=.int j/\Q (g i j) H
noncomputable def rU (g:Int->V):V->Hp->VK->Prop:=fun x H Q=>∃ i,x=.int i/\Q (g i) H
section
variable {X:Cx}{a b c:Q1}{ta tb tc:TE}{pos:Ta}
theorem sI (ha:PE X a ta)(hb:PE X b tb){a2j:List (Addr×Td)}{s:QM}{σ:St}{H:Hp}{R:V->V->Hp->Prop}(I:Inv X a2j σ H s)
  (h:ta σ H fun x H1=>tb σ H1 fun y H2=>R x y H2){Q:QL->QM->Prop}{f:QL->QL->Zy QL}
  (hf:∀ v u s2 x y H2,Inv X a2j σ H2 s2->RelV x v->RelV y u->R x y H2->Ri (Rl X.prog X.w) X.A (f v u) Q X.xe s2) :
  Ri (Rl X.prog X.w) X.A (eval a X.env) (fun v s₁=>Ri (Rl X.prog X.w) X.A (eval b X.env) (fun u s₂=>Ri (Rl X.prog X.w) X.A (f v u) Q X.xe s₂) X.xe s₁) X.xe s:=by
 refine aJ (ha a2j s σ H _ I h) fun v s1 ⟨x,H1,I1,r1,q1⟩=>?_
 refine aJ (hb a2j s1 σ H1 _ I1 q1) fun u s2 ⟨y,H2,I2,r2,q2⟩=>?_
 exact hf v u s2 x y H2 I2 r1 r2 q2
theorem F8 {op:YE}{r:R2}(ho:OpR X (US op) r)(ha:PE X a ta)(hb:PE X b tb):PE X (.BinOp a op b pos) (nH r ta tb):=by
 intro a2j s σ H Q I h
 exact wpAny_BinOp (sI ha hb I h fun v u s2 x y H2 I2 rx ry q=>ho a2j s2 σ H2 x y v u Q I2 rx ry q)
theorem F9 {op:UnaryOp}{r:V->Hp->VK->Prop}(ho:sH X (unaryOp op) r)(ha:PE X a ta):PE X (.UnaryOp op a pos) (F7 r ta):=by
 intro a2j s σ H Q I h
 exact UnaryOp_ (aJ (ha a2j s σ H _ I h) fun v s1 ⟨x,H1,I1,r1,q1⟩=>ho a2j s1 σ H1 x v Q I1 r1 q1)
theorem o6 {f:QL->QL->Zy QL}{C:Int->Int->Prop}{g:Int->Int->Int}
  (rule:∀ (i j:Int)(t u:a0D)(s:QM)(Q:QL->QM->Prop)(E:QL->QM->Prop),C i j->Q (.int (g i j) s.toks) { s with toks:=s.toks+1 }->Ri (Rl X.prog X.w) X.A (f (.int i t) (.int j u)) Q E s) :
  OpR X f (rI C fun i j=>.int (g i j)):=by
 intro a2j s σ H x y v u Q I rx ry h
 obtain ⟨i,j,rfl,rfl,hc,q⟩:=h
 obtain ⟨t,rfl⟩:=rx
 obtain ⟨t',rfl⟩:=ry
 exact rule i j t t' s _ _ hc ⟨.int (g i j),H,I.tok _,⟨_,rfl⟩,q⟩
theorem yV {f:QL->QL->Zy QL}{g:Int->Int->Int}
  (rule:∀ (i j:Int)(t u:a0D)(s:QM)(Q:QL->QM->Prop)(E:QL->QM->Prop),Q (.int (g i j) s.toks) { s with toks:=s.toks+1 }->Ri (Rl X.prog X.w) X.A (f (.int i t) (.int j u)) Q E s) :
  OpR X f (eD fun i j=>.int (g i j)):=by
 intro a2j s σ H x y v u Q I rx ry h
 obtain ⟨i,j,rfl,rfl,q⟩:=h
 obtain ⟨t,rfl⟩:=rx
 obtain ⟨t',rfl⟩:=ry
 exact rule i j t t' s _ _ ⟨.int (g i j),H,I.tok _,⟨_,rfl⟩,q⟩
theorem o7 {f:QL->QL->Zy QL}{g:Int->Int->Bool}
  (rule:∀ (i j:Int)(t u:a0D)(s:QM)(Q:QL->QM->Prop)(E:QL->QM->Prop),Q (.bool (g i j)) s->Ri (Rl X.prog X.w) X.A (f (.int i t) (.int j u)) Q E s) :
  OpR X f (eD fun i j=>.bl (g i j)):=by
 intro a2j s σ H x y v u Q I rx ry h
 obtain ⟨i,j,rfl,rfl,q⟩:=h
 obtain ⟨t,rfl⟩:=rx
 obtain ⟨t',rfl⟩:=ry
 exact rule i j t t' s _ _ ⟨.bl (g i j),H,I,rfl,q⟩
noncomputable def Ga (i j:Int):Prop:=0<=j/\j<=1000000/\i.natAbs<2 ^ 64
noncomputable def CMul (i j:Int):Prop:=(-(2 ^ 64)<i/\i<2 ^ 64)\/(-(2 ^ 64)<j/\j<2 ^ 64)
theorem CMul.ok {i j:Int}(h:CMul i j):a0i i j:=by
 rcases h with ⟨h1,h2⟩|⟨h1,h2⟩
 ·exact .of_left (intBits_le_64 h1 h2)
 ·exact .of_right (intBits_le_64 h1 h2)
theorem op_add:OpR X (US .Add) (eD fun i j=>.int (i+j)):=yV fun _ _ _ _ _ _ _ q=>add_int q
theorem Gb:OpR X (US .Sub) (eD fun i j=>.int (i - j)):=yV fun _ _ _ _ _ _ _ q=>sub_int q
theorem Gd:OpR X (US .Mod) (rI (fun _ j=>0<j) fun i j=>.int (i % j)):=o6 fun i j _ _ _ _ _ hc q=>by
 have h1:(0:Int)<j:=hc
 exact mod_int' (by omega) (by rw [Int.fmod_eq_emod_of_nonneg i (by omega)];exact q)
theorem lE {f:QL->Zy QL}{g:Int->Int}
  (rule:∀ (i:Int)(t:a0D)(s:QM)(Q:QL->QM->Prop)(E:QL->QM->Prop),Q (.int (g i) s.toks) { s with toks:=s.toks+1 }->Ri (Rl X.prog X.w) X.A (f (.int i t)) Q E s) :
  sH X f (rU fun i=>.int (g i)):=by
 intro a2j s σ H x v Q I rx h
 obtain ⟨i,rfl,q⟩:=h
 obtain ⟨t,rfl⟩:=rx
 exact rule i t s _ _ ⟨.int (g i),H,I.tok _,⟨_,rfl⟩,q⟩
theorem Ge:sH X (unaryOp .USub) (rU fun i=>.int (-i)):=lE fun _ _ _ _ _ q=>neg_int q
end
section
variable {X:Cx}{a b c:Q1}{ta tb tc:TE}{pos:Ta}
theorem jX {a2j:List (Addr×Td)}{σ:St}{H:Hp}{s:QM}{Q:VK}{k k':Bool}(I:Inv X a2j σ H s)(q:Q (.bl k) H)(e:k=k'):EP X a2j σ Q (.bool k') s:=by
 subst e
 exact ⟨.bl k,H,I,rfl,q⟩
theorem sJ:OpR X (R6 .Lt) (eD fun i j=>.bl (decide (i<j))):=o7 fun _ _ _ _ _ _ _ q=>lt_int q
theorem sL:OpR X (R6 .LtE) (eD fun i j=>.bl (decide (i<=j))):=o7 fun _ _ _ _ _ _ _ q=>le_int q
theorem sM:OpR X (R6 .Gt) (eD fun i j=>.bl (decide (j<i))):=o7 fun _ _ _ _ _ _ _ q=>gt_int q
theorem sN:OpR X (R6 .GtE) (eD fun i j=>.bl (decide (j<=i))):=o7 fun _ _ _ _ _ _ _ q=>ge_int q
theorem yW:OpR X (R6 .In) (fun x y H Q=>∃ i j,x=.str i/\y=.str j/\Q (.bl (!(R0 j i 0 j.length 1).isEmpty)) H):=by
 intro a2j s σ H x y v u Q I rx ry h
 obtain ⟨i,j,rfl,rfl,q⟩:=h
 obtain ⟨t,rfl⟩:=rx
 obtain ⟨t',rfl⟩:=ry
 exact in_str (jX I q rfl)
theorem yX:OpR X (R6 .Is) (fun x y H Q=>y=.non/\Q (.bl (decide (x=.non))) H):=by
 intro a2j s σ H x y v u Q I rx ry h
 obtain ⟨rfl,q⟩:=h
 cases ry
 refine is_none_gen (jX I q ?_)
 cases x<;>first
  | (cases rx;rfl)
  | (obtain ⟨t,rfl⟩:=rx;rfl)
theorem yY:OpR X (R6 .IsNot) (fun x y H Q=>y=.non/\Q (.bl (!decide (x=.non))) H):=by
 intro a2j s σ H x y v u Q I rx ry h
 obtain ⟨rfl,q⟩:=h
 cases ry
 refine isnot_none_gen (jX I q ?_)
 cases x<;>first
  | (cases rx;rfl)
  | (obtain ⟨t,rfl⟩:=rx;rfl)
theorem OpR.or {f:QL->QL->Zy QL}{r r':R2}(h:OpR X f r)(h':OpR X f r'):OpR X f (fun x y H Q=>r x y H Q\/r' x y H Q):=by
 intro a2j s σ H x y v u Q I rx ry q
 rcases q with q|q
 ·exact h a2j s σ H x y v u Q I rx ry q
 ·exact h' a2j s σ H x y v u Q I rx ry q
theorem bX (b:Q1){op:U9}(h:op≠.In:=by decide)(h2:op≠.NotIn:=by decide):UG op b=false:=by
 have e1:(op == CmpOp.In)=false:=by cases op<;>first|rfl|exact absurd rfl h
 have e2:(op == CmpOp.NotIn)=false:=by cases op<;>first|rfl|exact absurd rfl h2
 cases b<;>simp [UG,e1,e2]
theorem Gf {op:U9}{r:R2}(ho:OpR X (R6 op) r)(ha:PE X a ta)(hb:PE X b tb)(hm:UG op b=false):PE X (.Compare a [op] [b] pos) (nH r ta tb):=by
 intro a2j s σ H Q I h
 exact wpAny_Compare1 (sI ha hb I h fun v u s2 x y H2 I2 rx ry q=>ho a2j s2 σ H2 x y v u Q I2 rx ry q) hm
noncomputable def yZ (t:TE):TT:=fun σ H Q=>t σ H fun x H'=>∃ k,x=.bl k/\Q k H'
theorem Gg {op:U9}{r:R2}(ho:OpR X (R6 op) r)(ha:PE X a ta)(hb:PE X b tb)(hm:UG op b=false):PT X (.Compare a [op] [b] pos) (yZ (nH r ta tb)):=by
 intro a2j s σ H Q I h
 refine wpAny_isTrue_Compare1 (aJ (ha a2j s σ H _ I h) fun v s1 ⟨x,H1,I1,r1,q1⟩=>aJ (hb a2j s1 σ H1 _ I1 q1) fun u s2 ⟨y,H2,I2,r2,q2⟩=>
  aJ (ho a2j s2 σ H2 x y v u _ I2 r1 r2 q2) fun c s3 ⟨z,H3,I3,r3,k,e,q3⟩=>?_) hm
 subst e
 cases r3
 exact TL ⟨H3,I3,q3⟩
noncomputable def sO (r r':R2)(ta tb tc:TE):TE:=fun σ H Q=>ta σ H fun x H1=>tb σ H1 fun y H2=>r x y H2 fun z H3=>∃ k,z=.bl k /\
 (if k=true then tc σ H3 fun w' H4=>r' y w' H4 Q else Q (.bl false) H3)
theorem Gh {op op':U9}{r r':R2}(ho:OpR X (R6 op) r)(ho':OpR X (R6 op') r')(ha:PE X a ta)(hb:PE X b tb)(hc:PE X c tc)
  (hm:a1b [op,op'] [b,c]=false:=by with_unfolding_all rfl):PE X (.Compare a [op,op'] [b,c] pos) (sO r r' ta tb tc):=by
 intro a2j s σ H Q I h
 refine Compare_chain (aJ (ha a2j s σ H _ I h) fun v s1 ⟨x,H1,I1,r1,q1⟩=>chain_link (aJ (hb a2j s1 σ H1 _ I1 q1) fun u s2 ⟨y,H2,I2,r2,q2⟩=>
  aJ (ho a2j s2 σ H2 x y v u _ I2 r1 r2 q2) fun d s3 ⟨z,H3,I3,r3,k,e,q3⟩=>?_)) hm
 subst e
 cases r3
 refine TL ?_
 cases k with
 | false=>exact ite_ff ⟨.bl false,H3,I3,rfl,q3⟩
 | true=>exact ite_tt (chain_last (aJ (hc a2j s3 σ H3 _ I3 q3) fun w' s4 ⟨z',H4,I4,r4,q4⟩=>ho' a2j s4 σ H4 y z' u w' Q I4 r2 r4 q4))
theorem Gi {op op':U9}{r r':R2}(ho:OpR X (R6 op) r)(ho':OpR X (R6 op') r')(ha:PE X a ta)(hb:PE X b tb)(hc:PE X c tc)
  (hm:a1b [op,op'] [b,c]=false:=by with_unfolding_all rfl):PT X (.Compare a [op,op'] [b,c] pos) (yZ (sO r r' ta tb tc)):=by
 intro a2j s σ H Q I h
 refine isTrue_chain (aJ (ha a2j s σ H _ I h) fun v s1 ⟨x,H1,I1,r1,q1⟩=>test_link (aJ (hb a2j s1 σ H1 _ I1 q1) fun u s2 ⟨y,H2,I2,r2,q2⟩=>
  aJ (ho a2j s2 σ H2 x y v u _ I2 r1 r2 q2) fun d s3 ⟨z,H3,I3,r3,k,e,q3⟩=>?_)) hm
 subst e
 cases r3
 refine TL ?_
 cases k with
 | false=>
  obtain ⟨k',e',q'⟩:=q3
  cases e'
  exact ite_ff ⟨H3,I3,q'⟩
 | true=>
  refine ite_tt (test_last (aJ (hc a2j s3 σ H3 _ I3 q3) fun w' s4 ⟨z',H4,I4,r4,q4⟩=>aJ (ho' a2j s4 σ H4 y z' u w' _ I4 r2 r4 q4) fun d' s5 ⟨z2,H5,I5,r5,k2,e2,q5⟩=>?_))
  subst e2
  cases r5
  exact TL ⟨H5,I5,q5⟩
noncomputable def sP (K:QH)(x:V)(H:Hp)(k:Bool):Prop:=
 match x with
 | .non=>k=false
 | .bl b=>k=b
 | .int i=>k=(i != 0)
 | .str y=>y.length<=Q6/\k=((y.length:Int) != 0)
 | .byt y=>y.size<=Q6/\k=((y.size:Int) != 0)
 | .ref p=>(∃ xs,SqL K H p xs/\k = !xs.isEmpty)\/(∃ xs,SqT K H p xs/\k = !xs.isEmpty)\/∃ kvs,H p=some (.dK kvs)/\k = !kvs.isEmpty
 | _=>False
theorem Gj {κ:Type}{kvs:List (κ×V)}{vs:List (κ×QL)}(r:KV kvs vs):(!vs.isEmpty) = !kvs.isEmpty:=by
 cases r<;>rfl
theorem zA {xs:List V}{its:List QL}(r:Vals xs its):(!its.toArray.isEmpty) = !xs.isEmpty:=by
 cases r<;>simp
theorem jY:(Q6:Nat)<2 ^ 63:=by rw [Sn];decide
theorem Gk:F6 X (fun x H Q=>∃ k,sP X.K x H k/\Q k H):=by
 intro a2j s σ H x v Q I rx h
 obtain ⟨k,e,q⟩:=h
 have hl:=jY
 have hs:Q6=16777216:=Sn
 cases x with
 | non=>
  cases rx
  have e':k=false:=e
  subst e'
  exact truthy_none ⟨H,I,q⟩
 | bl b=>
  cases rx
  have e':k=b:=e
  subst e'
  exact TL ⟨H,I,q⟩
 | int i=>
  obtain ⟨t,rfl⟩:=rx
  have e':k=(i != 0):=e
  subst e'
  exact PySem.P.truthy_int ⟨H,I,q⟩
 | str y=>
  obtain ⟨t,rfl⟩:=rx
  obtain ⟨hy,e'⟩:y.length<=Q6/\k=((y.length:Int) != 0):=e
  subst e'
  exact PySem.P.truthy_str (by omega) ⟨H,I.tok _,q⟩
 | byt y=>
  obtain ⟨t,rfl⟩:=rx
  obtain ⟨hy,e'⟩:y.size<=Q6/\k=((y.size:Int) != 0):=e
  subst e'
  exact PySem.W.truthy_bytes (by omega) ⟨H,I.tok _,q⟩
 | ref p=>
  cases rx
  have e':(∃ xs,SqL X.K H p xs/\k = !xs.isEmpty)\/(∃ xs,SqT X.K H p xs/\k = !xs.isEmpty)\/∃ kvs,H p=some (.dK kvs)/\k = !kvs.isEmpty:=e
  rcases e' with ⟨xs,hx,e'⟩|⟨xs,hx,e'⟩|⟨kvs,hx,e'⟩
  ·subst e'
   obtain ⟨its,r,pl,hz⟩:=I.list hx
   have hlen:=r.length
   exact wpAny_truthy_list pl.isList (by simp only [QZ];omega) ⟨H,I.tok _,by rw [zA r];exact q⟩
  ·subst e'
   obtain ⟨its,r,pl,hz⟩:=I.tuple hx
   have hlen:=r.length
   exact truthy_tuple pl (by simp only [QZ];omega) ⟨H,I.tok _,by rw [zA r];exact q⟩
  ·subst e'
   obtain ⟨hz,hS,vs,r,m⟩:kvs.length<=Q6/\(p == RX)=false/\∃ vs,KV kvs vs/\s.heap.DictOf (cK X.prog X.w) p vs:=I.hok p _ hx
   have hlen:kvs.length=vs.length:=WD r
   exact wpAny_truthy_dict hS m (by omega) ⟨H,I.tok _,by rw [Gj r];exact q⟩
 | _=>exact (show False from e).elim
theorem Gm (ha:PE X a ta)(he:∀ whole,Zw a X.env whole=(do let v <- whole;standAt a.pos;holding [v] (truthy v))) :
  PT X a (fun σ H Q=>ta σ H fun x H'=>∃ k,sP X.K x H' k/\Q k H'):=by
 intro a2j s σ H Q I h
 exact isTrue_plain (aJ (ha a2j s σ H _ I h) fun v s1 ⟨x,H1,I1,r1,q1⟩=>Gk a2j s1 σ H1 x v Q I1 r1 q1) (he _)
theorem op_add_str:OpR X (US .Add) (fun x y H Q=>∃ i j,x=.str i/\y=.str j/\i.length+j.length<=Q6/\Q (.str (i++j)) H):=by
 intro a2j s σ H x y v u Q I rx ry h
 obtain ⟨i,j,rfl,rfl,hz,q⟩:=h
 obtain ⟨t,rfl⟩:=rx
 obtain ⟨t',rfl⟩:=ry
 exact add_str (fun t' tk=>⟨.str (i++j),H,I.tok _,⟨_,rfl⟩,q⟩) hz
theorem dC {x:V}{us:List QL}(r:Vals [x] us):∃ u,us=[u]/\RelV x u:=by
 cases r with
 | cons r1 r2=>cases r2;exact ⟨_,rfl,r1⟩
theorem Gn {x y:V}{us:List QL}(r:Vals [x,y] us):∃ u w',us=[u,w']/\RelV x u/\RelV y w':=by
 cases r with
 | cons r1 r2=>
  cases r2 with
  | cons r3 r4=>cases r4;exact ⟨_,_,rfl,r1,r3⟩
end
end L2
namespace L2
open PySem PySem.Spec PyProof.Rows
structure ObjM (h:Si)(x dx C:Addr)(mA:Str->Option QL):Prop where
 obj:h.get? x=some (Zj C dx)
 ns:h.Ns1 dx mA
 ne:dx≠x
section
variable {prog:Rk}{w:RG}{A:Rw}{E:QL->QM->Prop}{s:QM}{K:QH}{x dx C f:Addr}{mA:Str->Option QL}{name:Str}{v:QL}
end
theorem RelO.some_of {v:V}{o:Option QL}(r:RelO (some v) o):∃ u,o=some u/\RelV v u:=by
 cases o with
 | none=>exact (show False from r).elim
 | some u=>exact ⟨u,rfl,r⟩
section
variable {P:Rk}{w:RG}{H H':Hp}{h h':Si}{a C dx:Addr}{fs fs':List (Str×V)}
end
structure Cls (K:QH)(C:Addr):Prop where
 pg:Y4 K C Str.empty=true
 hd:PySem.W.hasDictIn K C=true
 po:PySem.W.plainOver K C=true
 sa:VJ K (.ref C) "__setattr__" = some (some (.builtin "object.__setattr__"))
theorem Cls.get {K:QH}{C:Addr}(c:Cls K C)(f:Str):Y4 K C f=true:=c.pg
structure Con (K:QH)(C:Addr)(f:Str)(v:V)(u:QL):Prop where
 at_:VJ K (.ref C) f=some (some u)
 rel:RelV v u
 get:YQ K u "__get__" = some none
 cp:PySem.W.copiedNames.contains f=false
structure Meth (K:QH)(C:Addr)(m:Str)(f:Addr):Prop where
 at_:VJ K (.ref C) m=some (some (.ref f))
 fn:a0b K (.ref f)=true
 kp:Te K (.ref f)=true
section
variable {X:Cx}{a2j:List (Addr×Td)}{σ:St}{H:Hp}{s:QM}{a C dx:Addr}{fs:List (Str×V)}{f:Str}{v:V}{A:Rw}{E:QL->QM->Prop}
end
section
variable {X:Cx}{o e value:Q1}{f:Str}{pos pos' tpos:Ta}{ta tv:TE}
end
section
variable {X:Cx}{a2j:List (Addr×Td)}{σ:St}{H:Hp}{s:QM}{A:Rw}{E:QL->QM->Prop}{Q:QL->QM->Prop}{c:QL}{b:Bool}
inductive TyOf (K:QH)(H:Hp):V->QL->Prop where
 | non:TyOf K H .non (.type "NoneType")
 | bl (x:Bool):TyOf K H (.bl x) (.type "bool")
 | int (i:Int):TyOf K H (.int i) (.type "int")
 | str (x:Str):TyOf K H (.str x) (.type "str")
 | flt (x:UInt64):TyOf K H (.flt x) (.type "float")
 | lst {a:Addr}{xs:List V}(e:H a=some (.lst xs)):TyOf K H (.ref a) (.type "list")
 | frz {a:Addr}{o:Td}{xs:List V}(e:H a=some (.frz o (.lst xs))):TyOf K H (.ref a) (.type "list")
 | tup {a:Addr}{xs:List V}(e:H a=some (.tup xs)):TyOf K H (.ref a) (.type "tuple")
 | dK {a:Addr}{kvs:List (aD×V)}(e:H a=some (.dK kvs)):TyOf K H (.ref a) (.type "dict")
 | dT {a:Addr}{kvs:List (List aD×V)}(e:H a=some (.dT kvs)):TyOf K H (.ref a) (.type "dict")
 | ins {a C dx:Addr}{fs:List (Str×V)}(e:H a=some (.ins C dx fs))(cl:Cls K C)(ha:VJ K (.ref C) "__class__" = some (some (.builtin "object.__class__")))
   (hn:YQ K (.builtin "object.__class__") "__get__" = some (some (.builtin "getset_descriptor.__get__"))) (htk:PySem.W.takesIn K (.builtin "object.__class__")=some true)
   (hm:PySem.W.mroIn K C (.type "object")=some true):TyOf K H (.ref a) (.ref C)
end
end L2
namespace L2
open PySem PySem.Spec PyProof.Rows
structure Room (k:Nat)(A:Rw):Prop where
 hd:A.handled=none
 dp:A.depth+3 * k+5<a1Y
 un:A.units+16 * k+200<SK
theorem Room.deeper {k:Nat}{A:Rw}(r:Room (k+1) A)(env:W3):Room k (A.deeper env):=
 ⟨r.hd,by have:=r.dp;show A.depth+1+3 * k+5<_;omega,by have:=r.un;show A.units+3+16 * k+200<_;omega⟩
theorem Room.depth {k:Nat}{A:Rw}(r:Room k A):A.depth<a1Y:=by have:=r.dp;omega
theorem Room.units {k:Nat}{A:Rw}(r:Room k A):A.units+64<SK:=by have:=r.un;omega
noncomputable def zB:TA:=fun _ H Q=>Q [] H
noncomputable def Gp (ta:TE)(tr:TA):TA:=fun σ H Q=>ta σ H fun x H1=>tr σ H1 fun xs H2=>Q (x::xs) H2
section
variable {X:Cx}{e:Q1}{es:List Q1}{te:TE}{t:TA}{pos:Ta}
theorem Gq:PA X [] zB:=fun _ _ _ _ H Q I h=>V0 ⟨[],H,I,.nil,h⟩
theorem Gr (ha:PE X e te)(hr:PA X es t)(hs:RK (e::es) X.env=(false,eval e X.env)::RK es X.env:=by rfl):PA X (e::es) (Gp te t):=by
 intro pos a2j s σ H Q I h
 rw [hs]
 show Ri _ _ (spliced ((false,eval e X.env)::Uk pos (RK es X.env))) _ _ s
 refine VS (aJ (ha a2j s σ H _ I h) fun u s1 ⟨x,H1,I1,r1,q1⟩=>?_)
 exact aJ (hr pos a2j s1 σ H1 _ I1 q1) fun us s2 ⟨xs,H2,I2,r2,q2⟩=>⟨x::xs,H2,I2,.cons r1 r2,q2⟩
noncomputable def Gs (t:TA):TE:=fun σ H Q=>t σ H fun xs H1=>xs.length<=Q6/\∀ p,H1 p=none->Q (.ref p) (aE H1 p (.tup xs))
noncomputable def Gu (t:TA):TE:=fun σ H Q=>t σ H fun xs H1=>xs.length<=Q6/\∀ p,H1 p=none->Q (.ref p) (aE H1 p (.lst xs))
theorem Gv {x1} (h:PA X es t):PE X (.Tuple es x1 pos) (Gs t):=by
 intro a2j s σ H Q I hq
 refine wpAny_Tuple_spliced (aJ (h pos a2j s σ H _ I hq) fun us s1 ⟨xs,H1,I1,r,z,q⟩=>⟨by rw [<- r.length];exact z,?_⟩)
 have hf:H1 s1.heap.objs.size=none:=I1.hok.fresh (Q0 _)
 refine ⟨.ref s1.heap.objs.size,aE H1 s1.heap.objs.size (.tup xs),I1.laid (t':=s1.toks) (fun b u e=>QU _ e) (Q0 _) ?_,rfl,q _ hf⟩
 exact ⟨z,us,r,⟨_,Rj _ rfl,rfl,_,rfl,rfl⟩⟩
theorem Gw (h:PA X es t):PE X (.List es pos) (Gu t):=by
 intro a2j s σ H Q I hq
 refine wpAny_List_spliced (aJ (h pos a2j s σ H _ I hq) fun us s1 ⟨xs,H1,I1,r,z,q⟩=>⟨by rw [<- r.length];exact z,?_⟩)
 have hf:H1 s1.heap.objs.size=none:=I1.hok.fresh (Q0 _)
 refine ⟨.ref s1.heap.objs.size,aE H1 s1.heap.objs.size (.lst xs),I1.laid (t':=s1.toks) (fun b u e=>QU _ e) (Q0 _) ?_,rfl,q _ hf⟩
 exact ⟨z,us,0,r,Rj _ rfl⟩
end
noncomputable abbrev Sp:=List V->Hp->VK->XK->Prop
noncomputable abbrev fR:=List W3->Hp->QM->XK->QL->QM->Prop
structure Env0 (P:Rk)(w:RG)(K:QH)(mg:Str->Option QL)(base:Si)(A:Rw)(outer:List W3)(s:QM)(H:Hp):Prop where
 frames:A.frames=some outer
 mod:Mod K mg base
 bs:∀ b o,base.get? b=some o->s.heap.get? b=some o/\H b=none
 bsz:base.objs.size<=s.heap.objs.size
 funs:s.heap.FunFrames base outer
 frf:∀ b∈eX outer,H b=none
 hok:HOk P w H s.heap
 bare:W5 s.gens
noncomputable def CE (outer:List W3)(P:Rk)(w:RG)(H:Hp)(s:QM)(Q:VK)(u:QL)(s':QM):Prop:=
 ∃ v H',s'.os=s.os/\W5 s'.gens/\Un (eX outer) [] H H' s.heap s'.heap/\HOk P w H' s'.heap/\RelV v u/\Q v H'
noncomputable def CR (CX:fR)(outer:List W3)(P:Rk)(w:RG)(H:Hp)(s:QM)(Q:VK)(E:XK)(r:X7)(s':QM):Prop:=
 match r with
 | .ok (.ret u)=>CE outer P w H s Q u s'
 | .ok _=>False
 | .error e=>CX outer H s E e s'
structure FnOk (P:Rk)(w:RG)(K:QH)(mg:Str->Option QL)(base:Si)(CX:fR)(k:Nat)(f:Addr)(fd:T3)(ps:List Str)(sp:Sp):Prop where
 len:∀ vs H Q E,sp vs H Q E->vs.length=ps.length
 run:∀ (A:Rw)(outer:List W3)(s:QM)(H:Hp)(args:Args)(us:List QL)(vs:List V)(Q:VK)(E:XK),Room k A->Env0 P w K mg base A outer s H->XS s fd args (ps.zip us)->Vals vs us->sp vs H Q E->
  Vz (Rl P w) A (.call (.ref f) args) (CR CX outer P w H s Q E) s
section
variable {X:Cx}{a2j:List (Addr×Td)}{σ:St}{H:Hp}{s s':QM}
theorem Inv.env0 (I:Inv X a2j σ H s):Env0 X.prog X.w X.K X.mg X.base X.A X.stack s H:=
 ⟨I.ok.frames,I.ok.mod,I.bs,SR I.ok.bsz I.sz,I.stack,I.stkFree,I.hok,I.bare⟩
theorem Inv.after {Q:VK}{u:QL}(I:Inv X a2j σ H s)(h:CE X.stack X.prog X.w H s Q u s'):EP X a2j σ Q u s':=by
 obtain ⟨v,H',os,bare,un,hok,r,q⟩:=h
 obtain ⟨hh,g,d,t,os'⟩:=s'
 obtain rfl:os'=s.os:=os
 exact ⟨v,H',I.call (h':=hh) (g':=g) (d':=d) (t':=t) (ch:=[]) un hok bare (fun b z=>absurd z (by simp)),r,q⟩
end
noncomputable def sQ (sp:Sp)(dvs:List V)(E:XK)(t:TA):TE:=fun σ H Q=>t σ H fun vs H1=>sp (vs++dvs) H1 Q E
noncomputable def Binds (K:QH)(fd:T3)(ps:List Str)(ds:List QL):Prop:=
 ∀ (s:QM)(us:List QL),K.In s.heap->(us++ds).length=ps.length->XS s fd ⟨us,[]⟩ (ps.zip (us++ds))
theorem Binds.all {K:QH}{fd:T3}{ps:List Str}(h:∀ us:List QL,us.length=ps.length->YC fd ⟨us,[]⟩=pure (ps.zip us)):Binds K fd ps []:=fun s us _ hl=>by
 rw [SW] at hl ⊢
 exact .of_eq (h us hl)
noncomputable def o8 (CX:fR)(X:Cx)(E:XK):Prop:=∀ (a2j:List (Addr×Td))(σ:St)(H:Hp)(s:QM)(e:QL)(s':QM),Inv X a2j σ H s->CX X.stack H s E e s'->X.xe e s'
section
variable {X:Cx}{CX:fR}{k:Nat}{f C:Addr}{fd:T3}{ps:List Str}{sp:Sp}{dvs:List V}{ds:List QL}{E:XK}{x m:Str}{p pos apos:Ta}{e o:Q1}{es:List Q1}{ta:TE}{t:TA}
theorem zC {a2j:List (Addr×Td)}{σ:St}{H:Hp}{s:QM}{Q:VK}{us:List QL}{vs:List V}(F:FnOk X.prog X.w X.K X.mg X.base CX k f fd ps sp)(hr:Room k X.A)(hb:Binds X.K fd ps ds)(hd:Vals dvs ds)(hx:o8 CX X E)
  (I:Inv X a2j σ H s)(r:Vals vs us)(h:sp (vs++dvs) H Q E):Ri (Rl X.prog X.w) X.A (call (.ref f) us) (EP X a2j σ Q) X.xe s:=by
 have r2:Vals (vs++dvs) (us++ds):=r.append hd
 have hl:(us++ds).length=ps.length:=by rw [<- r2.length];exact F.len _ _ _ _ h
 refine wpAny_call (XG (F.run X.A X.stack s H ⟨us,[]⟩ (us++ds) (vs++dvs) Q E hr I.env0 (hb s us I.kIn hl) r2 h) fun r s' hq=>?_)
 cases r with
 | error e=>exact hx a2j σ H s e s' I hq
 | ok fl=>
  cases fl with
  | ret u=>exact I.after hq
  | next=>exact Tv hq
  | brk=>exact Tv hq
  | cont=>exact Tv hq
theorem Gx (F:FnOk X.prog X.w X.K X.mg X.base CX k f fd ps sp)(hr:Room k X.A)(hg:Gl X x)(hm:X.mg x=some (.ref f))(hk:Te X.K (.ref f)=true)(hb:Binds X.K fd ps ds)(hd:Vals dvs ds)(hx:o8 CX X E)
  (ha:PA X (e::es) t)(hdb:(x == ("__debug__":Str))=false:=by decide) (he:RK (e::es) X.env=(false,eval e X.env)::RK es X.env:=by rfl)(hpl:(Uk pos (RK es X.env)).any (·.1)=false:=by rfl) :
  PE X (.Call (.Name x p) (e::es) [] pos) (sQ sp dvs E t):=by
 intro a2j s σ H Q I h
 refine Tr (sD I hg hm ?_ hdb)
 refine PySem.W.callWith_K (h₀:=X.base) I.ok.mod.kin hk (aJ (ha pos a2j s σ H _ I h) fun us s1 ⟨vs,H1,I1,r,q⟩=>⟨I1.kIn,?_⟩) he hpl
 exact zC F hr hb hd hx I1 r q
theorem Gy (F:FnOk X.prog X.w X.K X.mg X.base CX k f fd ps sp)(hr:Room k X.A)(hg:Gl X x)(hm:X.mg x=some (.ref f))(hk:Te X.K (.ref f)=true)(hb:Binds X.K fd ps ds)(hd:Vals dvs ds)(hx:o8 CX X E)
  (hdb:(x == ("__debug__":Str))=false:=by decide):PE X (.Call (.Name x p) [] [] pos) (sQ sp dvs E zB):=by
 intro a2j s σ H Q I h
 refine Tr (sD I hg hm ?_ hdb)
 exact PySem.W.callWith_K0 I.kIn hk (zC (us:=[]) F hr hb hd hx I .nil h)
structure Mk (K:QH)(C f:Addr):Prop where
 makes:PySem.W.makesIn K C=true
 init:VJ K (.ref C) "__init__" = some (some (.ref f))
 fn:a0b K (.ref f)=true
 kp:Te K (.ref C)=true
end
section
variable {X:Cx}{CX:fR}{k:Nat}{f C:Addr}{fd:T3}{ps ks:List Str}{sp:Sp}{E:XK}{x m:Str}{p pos apos kpos:Ta}{e o:Q1}{es:List Q1}{kws:List UY}{te ta:TE}{t tk:TA}{nm:Option Str}
structure KBinds (K:QH)(fd:T3)(ps ks:List Str)(g:List QL->List QL->List QL)(gV:List V->List V->List V):Prop where
 to:∀ (s:QM)(us ws:List QL),K.In s.heap->(g us ws).length=ps.length->XS s fd ⟨us,ks.zip ws⟩ (ps.zip (g us ws))
 rel:∀ {vs:List V}{us:List QL}{zs:List V}{ws:List QL},Vals vs us->Vals zs ws->Vals (gV vs zs) (g us ws)
variable {g:List QL->List QL->List QL}{gV:List V->List V->List V}
end
structure FnScope (N P:List Str)(sc:Uo):Prop where
 kind:sc.kind=.function
 co:sc.isCoroutine=false
 gen:sc.isGenerator=false
 nd:N.Nodup
 pre:N.take P.length=P
 par:∀ x∈P,sc.names.lookup x=some .local\/sc.names.lookup x=some .cell
 nofree:∀ y∈sc.names,y.2≠.free
theorem zD {kindOf:Str->Option Ud}{x:Str}:∀ {binds:List (Str×QL)}{m:Str->Option QL},(∀ v,(x,v)∉binds)->Zg kindOf binds m x=m x
 | [],_,_=>rfl
 | (n,v)::r,m,h=>by
  unfold Zg
  rw [zD fun w hw=>h w (Rm _ hw)]
  split
  ·have:x≠n:=by rintro rfl;exact h v Ru
   simp [this]
  ·rfl
theorem zE {kindOf:Str->Option Ud}{x:Str}:∀ {binds:List (Str×QL)}{m:Str->Option QL},(∀ v,(x,v)∉binds)->Zh kindOf binds m x=m x
 | [],_,_=>rfl
 | (n,v)::r,m,h=>by
  unfold Zh
  rw [zE fun w hw=>h w (Rm _ hw)]
  split
  ·rfl
  ·have:x≠n:=by rintro rfl;exact h v Ru
   simp [this]
theorem zF {kindOf:Str->Option Ud}{x:Str}{v:QL}:∀ {P:List Str}{vs:List QL}{i:Nat}{m:Str->Option QL},P.Nodup->P[i]? = some x->vs[i]? = some v->kindOf x=some .local->
  Zg kindOf (P.zip vs) m x=some v
 | [],_,_,_,_,h,_,_=>by simp at h
 | _::_,[],_,_,_,_,h,_=>by simp at h
 | p::P,w::vs,0,m,nd,h1,h2,hk=>by
  simp at h1 h2;subst h1;subst h2
  show Zg kindOf ((p,w)::P.zip vs) m p=_
  unfold Zg
  rw [zD fun v hv=>(So.mp nd).1 (Xs hv).1,if_pos hk]
  simp
 | p::P,w::vs,i+1,m,nd,h1,h2,hk=>by
  show Zg kindOf ((p,w)::P.zip vs) m x=_
  unfold Zg
  exact zF (i:=i) (So.mp nd).2 (by simpa using h1) (by simpa using h2) hk
theorem zG {kindOf:Str->Option Ud}{x:Str}{v:QL}:∀ {P:List Str}{vs:List QL}{i:Nat}{m:Str->Option QL},P.Nodup->P[i]? = some x->vs[i]? = some v->kindOf x≠some .local->
  Zh kindOf (P.zip vs) m x=some v
 | [],_,_,_,_,h,_,_=>by simp at h
 | _::_,[],_,_,_,_,h,_=>by simp at h
 | p::P,w::vs,0,m,nd,h1,h2,hk=>by
  simp at h1 h2;subst h1;subst h2
  show Zh kindOf ((p,w)::P.zip vs) m p=_
  unfold Zh
  rw [zE fun v hv=>(So.mp nd).1 (Xs hv).1,if_neg hk]
  simp
 | p::P,w::vs,i+1,m,nd,h1,h2,hk=>by
  show Zh kindOf ((p,w)::P.zip vs) m x=_
  unfold Zh
  exact zG (i:=i) (So.mp nd).2 (by simpa using h1) (by simpa using h2) hk
noncomputable def start (N:List Str)(vs:List V):St:=vs.map some++Tq (N.length - vs.length) none
noncomputable def gY (CX:fR)(P:Rk)(w:RG)(K:QH)(mg:Str->Option QL)(base:Si)(N:List Str)(qual:Str)(scope:Uo)(f:Addr)(cd:QL)(A:Rw)(outer:List W3)(s:QM)(H:Hp)(E:XK):Cx where
 prog:=P
 w:=w
 K:=K
 mg:=mg
 base:=base
 A:=A.deeper (envOfC qual scope s.heap.objs.size f cd)
 N:=N
 s₀:=s
 H₀:=H
 env:=envOfC qual scope s.heap.objs.size f cd
 outer:=outer
 stack:=envOfC qual scope s.heap.objs.size f cd::outer
 ex:=[]
 calm:=true
 fn:=fun _=>true
 pn:=[]
 xe:=fun e s'=>Ri (Rl P w) (A.deeper (envOfC qual scope s.heap.objs.size f cd)) (leaving (envOfC qual scope s.heap.objs.size f cd) e) (fun _ s''=>CX outer H s E e s'') (fun e' s''=>CX outer H s E e' s'') s'
theorem zH {sc:Uo}{n:Nat}{x:Str}(h:sc.names.lookup x=some .cell):∃ c,(a1d n sc.names []).lookup x=some c:=by
 have q:=X8 sc.names n [] (.inl h)
 exact Option.isSome_iff_exists.mp q
theorem Gz {CX:fR}{P:Rk}{w:RG}{K:QH}{mg:Str->Option QL}{base:Si}{N ps:List Str}{qual:Str}{scope:Uo}{f:Addr}{cd:QL}{A:Rw}{outer:List W3}{s s1:QM}{H:Hp}{E:XK}{us:List QL}{vs:List V}
  (S:FnScope N ps scope)(hd:A.handled=none)(e0:Env0 P w K mg base A outer s H)(hl:vs.length=ps.length)(r:Vals vs us)
  (x:InCallC s s.heap.objs.size (Zg (envOfC qual scope s.heap.objs.size f cd).kindOf (ps.zip us) fun _=>none) (a1d (s.heap.objs.size+1) scope.names []) (Zh (envOfC qual scope s.heap.objs.size f cd).kindOf (ps.zip us) fun _=>none) s1) :
  Inv (gY CX P w K mg base N qual scope f cd A outer s H E) [] (start N vs) H s1:=by
 have hpl:ps.length<=N.length:=by have:=congrArg RN S.pre;rw [RC] at this;omega
 obtain ⟨h1,tk,rfl,hk⟩:=x.done
 have noA:∀ b:Addr,b∉(gY CX P w K mg base N qual scope f cd A outer s H E).ex:=fun b z=>absurd (show b∈([]:List Addr) from z) (by simp)
 refine ⟨⟨e0.mod,S.kind,rfl,rfl,Q0 _,fun y z c h1 h2=>?_,fun y hy=>?_,fun y c _ h=>?_,fun _=>hd,Around.frames_deeper e0.frames,.inr ⟨rfl,rfl⟩,fun b z=>absurd z (noA b),e0.bs,e0.bsz,fun b _ _=>noA b,fun b z=>absurd z (noA b),e0.funs,e0.frf⟩,
  rfl,e0.bare,Un.kept hk,⟨_,x.toInCall.ns,fun i y v h1 h2 h3=>?_⟩,fun y c h=>⟨_,x.cell y c h⟩,e0.hok.fresh (Q0 _),fun y c h=>?_,fun p hp=>absurd (show p∈([]:List (Addr×Td)) from hp) (by simp),e0.hok.kept hk,?_⟩
 ·exact name_of_addr x.apart (Sy h1) (Sy h2)
 ·have hy:scope.names.lookup y=some .cell\/scope.names.lookup y=some .free:=hy
  rcases hy with hy|hy
  ·exact zH hy
  ·exact absurd rfl (S.nofree _ (Sy hy))
 ·exact Vn (x.above y c (Sy h))
 ·have hi:i<vs.length:=by
   unfold start at h2
   by_cases hi:i<vs.length
   ·exact hi
   ·rw [Rg (by simpa using hi)] at h2
    rw [Ug] at h2
    split at h2<;>cases h2
  have ha:vs[i]? = some v:=by
   unfold start at h2
   rw [Q9 (by simpa using hi),RH] at h2
   cases e:vs[i]? with
   | none=>rw [e] at h2;cases h2
   | some a=>rw [e] at h2;cases h2;rfl
  obtain ⟨u,hu,rv⟩:=r.get ha
  have hp:ps[i]? = some y:=by
   rw [<- S.pre,Sv (by omega)];exact h1
  have ndP:ps.Nodup:=by rw [<- S.pre];exact S.nd.sublist (Uw _ _)
  refine ⟨u,rv,?_⟩
  rcases S.par y (Rz hp) with k|k
  ·exact .inl ⟨k,zF ndP hp hu k⟩
  ·obtain ⟨c,e⟩:=zH (n:=s.heap.objs.size+1) k
   refine .inr ⟨.inl k,c,e,?_⟩
   have q:=x.cell y c e
   rw [zG ndP hp hu (by show scope.names.lookup y≠_;rw [k];decide)] at q
   exact q
 ·exact e0.hok.fresh (Vn (x.above y c (Sy h)))
 ·unfold start
  show _=N.length
  rw [Q8,QY,TU]
  omega
theorem GA {CX:fR}{P:Rk}{w:RG}{K:QH}{mg:Str->Option QL}{base:Si}{k:Nat}{f:Addr}{name qual:Str}{params:Arguments}{body:List Stmt}{scope:Uo}{dV kV doc pm cdv ct oc:QL}{an od:Option Addr}
  {osl:Array (Option QL)}{N ps:List Str}{sp:Sp}(lk:K.lookup f=some ⟨oc,od,.func (TX name qual params body scope dV kV doc pm an cdv ct),osl⟩)(hcd:Wh K cdv qual=true)(S:FnScope N ps scope)
  (len:∀ vs H Q E,sp vs H Q E->vs.length=ps.length)
  (hbody:∀ (A:Rw)(outer:List W3)(s:QM)(H:Hp)(vs:List V)(Q:VK)(E:XK),Room k (A.deeper (envOfC qual scope s.heap.objs.size f cdv))->sp vs H Q E->
   ∃ t,PSs (gY CX P w K mg base N qual scope f cdv A outer s H E) body t/\t { nx:=fun _ H'=>Q .non H',rt:=Q } (start N vs) H) :
  FnOk P w K mg base CX (k+1) f (TX name qual params body scope dV kV doc pm an cdv ct) ps sp:=by
 refine ⟨len,fun A outer s H args us vs Q E hr e0 hb r hsp=>?_⟩
 have hl:=len _ _ _ _ hsp
 have KX:K.In s.heap:=e0.mod.kin.keeps fun b o e=>(e0.bs b o e).1
 have lim:s.heap.NoLimit:=e0.mod.nolimit.keeps fun b o e=>(e0.bs b o e).1
 have hkind:∀ y∈ps.zip us,scope.names.lookup y.1=some .local\/(scope.names.lookup y.1=some .cell/\((a1d (s.heap.objs.size+1) scope.names []).lookup y.1).isSome=true):=fun ⟨n,v⟩ hy=>by
  rcases S.par n (Xs hy).1 with q|q
  ·exact .inl q
  ·exact .inr ⟨q,X8 _ _ _ (.inl q)⟩
 refine codeAny_call_function hr.depth (KX _ _ lk) rfl S.co S.gen rfl (PySem.W.codeRec_of KX hcd) (hb _ _ _ _ ?_)
 refine wpAny_newFunctionEnv_cells S.kind hkind fun env he s1 x=>?_
 subst he
 refine ⟨lim.keeps x.toInCall.keep,codeAny_func ?_⟩
 obtain ⟨t,ht,hq⟩:=hbody A outer s H vs Q E (hr.deeper _) hsp
 have I:Inv (gY CX P w K mg base N qual scope f cdv A outer s H E) [] (start N vs) H s1:=Gz S hr.hd e0 hl r x
 refine RV (ht [] s1 (start N vs) H _ I hq) (fun fl s' hs=>?_) fun e s' hs=>hs
 have fin:∀ {σ':St}{H':Hp}{v:V}{u:QL},Inv (gY CX P w K mg base N qual scope f cdv A outer s H E) [] σ' H' s'->RelV v u->Q v H'->CE outer P w H s Q u s':=
  fun {σ' H' v u} J rv q=>⟨v,H',J.os,J.bare,J.base,J.hok,rv,q⟩
 cases fl with
 | ret u=>
  obtain ⟨v,σ',H',J,rv,q⟩:=hs
  exact fin J rv q
 | next=>
  obtain ⟨σ',H',J,q⟩:=hs
  exact fin (v:=V.non) (u:=Sm) J rfl q
 | brk=>
  obtain ⟨_,_,_,q⟩:=hs
  exact Tv q
 | cont=>
  obtain ⟨_,_,_,q⟩:=hs
  exact Tv q
end L2
namespace L2
open PySem PySem.Spec PyProof.Rows
section
variable {X:Cx}{x:Str}{p pos:Ta}{e:Q1}{es:List Q1}{t:TA}{id T:String}{r:List V->Hp->VK->Prop}
noncomputable def o9 (r:List V->Hp->VK->Prop)(t:TA):TE:=fun σ H Q=>t σ H fun vs H1=>r vs H1 Q
theorem GB (hc:CallR X (.builtin id) r)(hg:Gl X x)(hm:X.mg x=none)(hv:S2 x=some (.builtin id))(ha:PA X (e::es) t)(hn:x ≠ "__name__":=by decide) (hdb:(x == ("__debug__":Str))=false:=by decide)
  (he:RK (e::es) X.env=(false,eval e X.env)::RK es X.env:=by rfl)(hpl:(Uk pos (RK es X.env)).any (·.1)=false:=by rfl):PE X (.Call (.Name x p) (e::es) [] pos) (o9 r t):=by
 intro a2j s σ H Q I h
 refine Tr (gX I hg hm hv ?_ hn hdb)
 exact Wu (aJ (ha pos a2j s σ H _ I h) fun us s1 ⟨vs,H1,I1,r1,q1⟩=>hc a2j s1 σ H1 vs us Q I1 r1 q1) he hpl
theorem GC (hc:CallR X (.type T) r)(hg:Gl X x)(hm:X.mg x=none)(hv:S2 x=some (.type T))(ha:PA X (e::es) t)(hn:x ≠ "__name__":=by decide) (hdb:(x == ("__debug__":Str))=false:=by decide)
  (he:RK (e::es) X.env=(false,eval e X.env)::RK es X.env:=by rfl)(hpl:(Uk pos (RK es X.env)).any (·.1)=false:=by rfl):PE X (.Call (.Name x p) (e::es) [] pos) (o9 r t):=by
 intro a2j s σ H Q I h
 refine Tr (gX I hg hm hv ?_ hn hdb)
 exact S3 (aJ (ha pos a2j s σ H _ I h) fun us s1 ⟨vs,H1,I1,r1,q1⟩=>hc a2j s1 σ H1 vs us Q I1 r1 q1) he hpl
end
end L2
namespace L2
open PySem PySem.Spec PyProof.Rows
section
variable {κ:Type} [DecidableEq κ]
noncomputable def cY (kvs:List (κ×V))(k:κ):Option V:=(kvs.find? fun kv=>decide (kv.1=k)).map (·.2)
noncomputable def cR (kvs:List (κ×V))(k:κ)(v:V):List (κ×V):=
 if (kvs.any fun kv=>decide (kv.1=k))=true then kvs.map (fun kv=>if kv.1=k then (kv.1,v) else kv) else kvs++[(k,v)]
noncomputable def zI (kvs:List (κ×V))(k:κ):List (κ×V):=kvs.filter fun kv=>decide (kv.1≠k)
theorem sR {p:κ×V}{r:List (κ×V)}{k:κ}(e:p.1=k):cY (p::r) k=some p.2:=by simp [cY,Sq,e]
theorem sS {p:κ×V}{r:List (κ×V)}{k:κ}(e:¬ p.1=k):cY (p::r) k=cY r k:=by simp [cY,Sq,e]
theorem zJ (k:κ):∀ kvs:List (κ×V),(kvs.any fun kv=>decide (kv.1=k))=(cY kvs k).isSome
 | []=>rfl
 | p::r=>by
  rw [VC]
  by_cases e:p.1=k
  ·simp only [sR e,decide_eq_true e,Bool.true_or,WH]
  ·rw [sS e,decide_eq_false e,Bool.false_or];exact zJ k r
theorem sT (kvs:List (κ×V))(k:κ)(v:V):(cR kvs k v).length<=kvs.length+1:=by
 unfold cR
 split
 ·rw [QY];omega
 ·rw [Q8,Rq,Tz];omega
theorem RelO.isSome_eq {o:Option V}{u:Option QL}(r:RelO o u):o.isSome=u.isSome:=by
 cases o with
 | none=>cases u with
  | none=>rfl
  | some _=>exact (show False from r).elim
 | some _=>cases u with
  | none=>exact (show False from r).elim
  | some _=>rfl
theorem RelO.getD {o:Option V}{u:Option QL}{d:V}{d':QL}(r:RelO o u)(rd:RelV d d'):RelV (o.getD d) (u.getD d'):=by
 cases o with
 | none=>cases u with
  | none=>exact rd
  | some _=>exact (show False from r).elim
 | some _=>cases u with
  | none=>exact (show False from r).elim
  | some _=>exact r
theorem KV.val {kvs:List (κ×V)}{vs:List (κ×QL)}(r:KV kvs vs)(k:κ):RelO (cY kvs k) (Xw vs k):=by
 unfold KV at r
 induction r with
 | nil=>exact Tg
 | @cons p q ps qs h t ih=>
  obtain ⟨h1,h2⟩:=h
  by_cases e:p.1=k
  ·have e':q.1=k:=h1.symm.trans e
   have b:Xw (q::qs) k=some q.2:=by simp [Xw,Sq,e']
   rw [sR e,b];exact h2
  ·have e':¬ q.1=k:=fun z=>e (h1.trans z)
   have b:Xw (q::qs) k=Xw qs k:=by simp [Xw,Sq,e']
   rw [sS e,b];exact ih
theorem KV.any {kvs:List (κ×V)}{vs:List (κ×QL)}(r:KV kvs vs)(k:κ):(kvs.any fun kv=>decide (kv.1=k))=vs.any fun kv=>decide (kv.1=k):=by
 unfold KV at r
 induction r with
 | nil=>rfl
 | cons h t ih=>rw [VC,VC,ih,h.1]
theorem KV.repl {kvs:List (κ×V)}{vs:List (κ×QL)}(r:KV kvs vs)(k:κ){y:V}{u:QL}(ry:RelV y u) :
  KV (kvs.map fun kv=>if kv.1=k then (kv.1,y) else kv) (vs.map fun kv=>if kv.1=k then (kv.1,u) else kv):=by
 unfold KV at r ⊢
 induction r with
 | nil=>exact .nil
 | @cons p q ps qs h t ih=>
  rw [Ra,Ra]
  refine .cons ?_ ih
  obtain ⟨h1,h2⟩:=h
  by_cases e:p.1=k
  ·rw [if_pos e,if_pos (h1.symm.trans e)];exact ⟨h1,ry⟩
  ·rw [if_neg e,if_neg (fun z=>e (h1.trans z))];exact ⟨h1,h2⟩
theorem KV.put {kvs:List (κ×V)}{vs:List (κ×QL)}(r:KV kvs vs)(k:κ){y:V}{u:QL}(ry:RelV y u):KV (cR kvs k y) (stored vs k u):=by
 unfold cR stored
 rw [r.any k]
 by_cases e:(vs.any fun kv=>decide (kv.1=k))=true
 ·rw [if_pos e,if_pos e];exact r.repl k ry
 ·rw [if_neg e,if_neg e];exact W9 r ⟨rfl,ry⟩
theorem KV.drop {kvs:List (κ×V)}{vs:List (κ×QL)}(r:KV kvs vs)(k:κ):KV (zI kvs k) (without vs k):=by
 unfold KV at r ⊢
 unfold zI without
 induction r with
 | nil=>exact .nil
 | @cons p q ps qs h t ih=>
  obtain ⟨h1,h2⟩:=h
  rw [ZZ,ZZ]
  by_cases e:p.1=k
  ·have a:¬ decide (p.1≠k)=true:=by simp [e]
   have b:¬ decide (q.1≠k)=true:=by simp [h1.symm.trans e]
   rw [if_neg a,if_neg b];exact ih
  ·have e':¬ q.1=k:=fun z=>e (h1.trans z)
   have a:decide (p.1≠k)=true:=by simp [e]
   have b:decide (q.1≠k)=true:=by simp [e']
   rw [if_pos a,if_pos b];exact .cons ⟨h1,h2⟩ ih
theorem KV.keys {kvs:List (κ×V)}{vs:List (κ×QL)}(r:KV kvs vs):kvs.map (·.1)=vs.map (·.1):=by
 unfold KV at r
 induction r with
 | nil=>rfl
 | cons h t ih=>rw [Ra,Ra,ih,h.1]
theorem KV.length {kvs:List (κ×V)}{vs:List (κ×QL)}(r:KV kvs vs):kvs.length=vs.length:=WD r
end
theorem pA {P:Rk}{w:RG}{k:aD}{u:QL}(r:RelV (kV k) u):(cK P w).is k u=true:=by
 cases k with
 | inl i=>obtain ⟨t,e⟩:=(show ∃ t,u=VO i t from r);subst e;exact ER P w i t
 | inr x=>obtain ⟨t,e⟩:=(show ∃ t,u=V9 x t from r);subst e;exact ES P w x t
theorem zK {P:Rk}{w:RG}:∀ {ks:List aD}{us:List QL},Vals (ks.map kV) us->ItemsAre (cK P w) ks us
 | [],_,r=>by rw [Vg] at r;cases r;exact .nil
 | k::ks,_,r=>by
  rw [Ra] at r
  cases r with
  | cons h t=>exact .cons (pA h) (zK t)
noncomputable abbrev KT (H:Hp):List (List aD×V)->List (List aD×Addr×QL)->Prop:=Vk fun p q=>p.1=q.1/\H q.2.1=some (.tup (p.1.map kV))/\RelV p.2 q.2.2
theorem KT.val {H:Hp}{kvs:List (List aD×V)}{xs:List (List aD×Addr×QL)}(r:KT H kvs xs)(k:List aD):RelO (cY kvs k) ((UM xs k).map (·.2)):=by
 induction r with
 | nil=>exact Tg
 | @cons p q ps qs h t ih=>
  obtain ⟨h1,_,h2⟩:=h
  by_cases e:p.1=k
  ·have e':q.1=k:=h1.symm.trans e
   have b:UM (q::qs) k=some q.2:=by simp [UM,Sq,e']
   rw [sR e,b];exact h2
  ·have e':¬ q.1=k:=fun z=>e (h1.trans z)
   have b:UM (q::qs) k=UM qs k:=by simp [UM,Sq,e']
   rw [sS e,b];exact ih
theorem KT.repl {H:Hp}{kvs:List (List aD×V)}{xs:List (List aD×Addr×QL)}(r:KT H kvs xs)(k:List aD){y:V}{u:QL}(ry:RelV y u) :
  KT H (kvs.map fun kv=>if kv.1=k then (kv.1,y) else kv) (xs.map (a1Z k u)):=by
 induction r with
 | nil=>exact .nil
 | @cons p q ps qs h t ih=>
  rw [Ra,Ra]
  refine .cons ?_ ih
  obtain ⟨h1,h2,h3⟩:=h
  unfold a1Z
  by_cases e:p.1=k
  ·rw [if_pos e,if_pos (h1.symm.trans e)];exact ⟨h1,h2,ry⟩
  ·rw [if_neg e,if_neg (fun z=>e (h1.trans z))];exact ⟨h1,h2,h3⟩
theorem KT.put {H:Hp}{kvs:List (List aD×V)}{xs:List (List aD×Addr×QL)}(r:KT H kvs xs)(k:List aD){b:Addr}{y:V}{u:QL}(hb:H b=some (.tup (k.map kV)))(ry:RelV y u) :
  KT H (cR kvs k y) (Yv xs k b u):=by
 have e:(kvs.any fun kv=>decide (kv.1=k))=(UM xs k).isSome:=by
  rw [zJ,(r.val k).isSome_eq,U3]
 unfold cR Yv
 rw [e]
 by_cases q:(UM xs k).isSome=true
 ·rw [if_pos q,if_pos q];exact r.repl k ry
 ·rw [if_neg q,if_neg q];exact W9 r ⟨rfl,hb,ry⟩
theorem KT.keeps {H H':Hp}{kvs:List (List aD×V)}{xs:List (List aD×Addr×QL)}(r:KT H kvs xs)(ht:∀ b ys,H b=some (.tup ys)->H' b=some (.tup ys)):KT H' kvs xs:=
 Vk.mapP r fun _ _ z=>⟨z.1,ht _ _ z.2.1,z.2.2⟩
section
variable {P:Rk}{w:RG}{H:Hp}{h:Si}{a:Addr}
theorem zL {u:HO}(ok:HOk P w H h)(e:Rd H a u):ObjOk P w H h a u:=e.ok ok
theorem pH {kvs:List (aD×V)}(ok:HOk P w H h)(e:Rd H a (.dK kvs)):kvs.length<=Q6/\(a == RX)=false/\∃ vs,KV kvs vs/\h.DictOf (cK P w) a vs:=
 show ObjOk P w H h a (.dK kvs) from zL ok e
theorem zM {kvs:List (aD×V)}(ok:HOk P w H h)(e:H a=some (.dK kvs)):kvs.length<=Q6/\(a == RX)=false/\∃ vs,KV kvs vs/\h.DictOf (cK P w) a vs:=pH ok (.inl e)
theorem sU {ks:List aD}(ok:HOk P w H h)(e:H a=some (.tup (ks.map kV))):(SN (cK P w)).is h ks a:=by
 obtain ⟨_,its,r,o,h1,h2,n,h3,_⟩:=(show ObjOk P w H h a (.tup (ks.map kV)) from ok a _ e)
 exact ⟨o,its.toArray,n,h1,h2,h3,by simpa using zK r⟩
theorem sV {kvs:List (List aD×V)}(ok:HOk P w H h)(e:Rd H a (.dT kvs)):kvs.length<=Q6/\(a == RX)=false /\
  ∃ xs,KT H kvs xs/\h.DictOfH (SN (cK P w)) a xs:=by
 obtain ⟨z,y,xs,r,o,es,ep,h1,h2,h3,h4,h5⟩:=(show ObjOk P w H h a (.dT kvs) from zL ok e)
 refine ⟨z,y,xs,r,o,es,ep,h1,h2,h3,h4,fun x hx=>?_,h5⟩
 have all:∀ {l:List (List aD×V)}{m:List (List aD×Addr×QL)},KT H l m->∀ x∈m,(SN (cK P w)).is h x.1 x.2.1:=by
  intro l m q
  induction q with
  | nil=>intro x hx;exact nomatch hx
  | @cons p q ps qs hq t ih=>
   intro x hx
   rcases RD.mp hx with e|hx
   ·subst e
    exact sU ok (by rw [<- hq.1];exact hq.2.1)
   ·exact ih x hx
 exact all r x hx
theorem GD {kvs:List (List aD×V)}(ok:HOk P w H h)(e:H a=some (.dT kvs)):kvs.length<=Q6/\(a == RX)=false /\
  ∃ xs,KT H kvs xs/\h.DictOfH (SN (cK P w)) a xs:=sV ok (.inl e)
end
noncomputable def DGet (H:Hp)(a:Addr)(y:V)(r:Option V):Prop:=
 (∃ kvs k,Rd H a (.dK kvs)/\y=kV k/\r=cY kvs k)\/∃ kvs k b,Rd H a (.dT kvs)/\y=.ref b/\H b=some (.tup (k.map kV))/\r=cY kvs k
noncomputable def DPut (H:Hp)(a:Addr)(y v:V)(H':Hp):Prop:=
 (∃ kvs k,H a=some (.dK kvs)/\y=kV k/\kvs.length<Q6/\H'=aE H a (.dK (cR kvs k v))) \/
 ∃ kvs k b,H a=some (.dT kvs)/\y=.ref b/\H b=some (.tup (k.map kV))/\kvs.length<Q6/\H'=aE H a (.dT (cR kvs k v))
theorem DGet.k {H:Hp}{a:Addr}{kvs:List (aD×V)}{k:aD}(e:H a=some (.dK kvs)):DGet H a (kV k) (cY kvs k):=.inl ⟨kvs,k,.inl e,rfl,rfl⟩
theorem DGet.t {H:Hp}{a b:Addr}{kvs:List (List aD×V)}{k:List aD}(e:H a=some (.dT kvs))(eb:H b=some (.tup (k.map kV))):DGet H a (.ref b) (cY kvs k):=.inr ⟨kvs,k,b,.inl e,rfl,eb,rfl⟩
theorem DPut.k {H:Hp}{a:Addr}{kvs:List (aD×V)}{k:aD}{v:V}(e:H a=some (.dK kvs))(hl:kvs.length<Q6):DPut H a (kV k) v (aE H a (.dK (cR kvs k v))):=.inl ⟨kvs,k,e,rfl,hl,rfl⟩
theorem DPut.t {H:Hp}{a b:Addr}{kvs:List (List aD×V)}{k:List aD}{v:V}(e:H a=some (.dT kvs))(eb:H b=some (.tup (k.map kV)))(hl:kvs.length<Q6) :
  DPut H a (.ref b) v (aE H a (.dT (cR kvs k v))):=.inr ⟨kvs,k,b,e,rfl,eb,hl,rfl⟩
section
variable {X:Cx}{a2j:List (Addr×Td)}{σ:St}{H:Hp}{s:QM}{a:Addr}{y v:V}{u r:QL}{o:Option V}{A:Rw}{E:QL->QM->Prop}
theorem Inv.big (I:Inv X a2j σ H s):RX<s.heap.objs.size:=by
 have h:S6<s.heap.objs.size:=(I.mod.glob.keeps I.bk).lt
 exact Vm (by decide) h
theorem GF {Q:QL->QM->Prop}(hu:A.units+1<SK)(I:Inv X a2j σ H s)(g:DGet H a y (some v))(ry:RelV y u)(h:∀ w' s',Inv X a2j σ H s'->RelV v w'->Q w' s') :
  Ri (Rl X.prog X.w) A (XE (.ref a) u) Q E s:=by
 rcases g with ⟨kvs,k,e,ey,l⟩|⟨kvs,k,b,e,ey,eb,l⟩
 ·subst ey
  obtain ⟨z,hd,vs,rel,dd⟩:=pH I.hok e
  obtain ⟨w',hw,rw'⟩:=RelO.some_of (v:=v) (o:=Xw vs k) (by rw [l];exact rel.val k)
  exact wpAny_getItem_of (pA ry) dd.mapOf hw (h w' _ (I.tok _) rw')
 ·subst ey
  cases (show u=Q2 b from ry)
  obtain ⟨z,hd,xs,rel,dd⟩:=sV I.hok e
  obtain ⟨w',hw,rw'⟩:=RelO.some_of (v:=v) (o:=(UM xs k).map (·.2)) (by rw [l];exact rel.val k)
  obtain ⟨p,hp,hp2⟩:=QR.mp hw
  refine a0u (a0x hu) (sU I.hok eb) dd hp ?_
  rw [hp2]
  exact h w' _ (I.tok _) rw'
theorem jZ {h':Si}{t':Nat}{ob:HO}(I:Inv X a2j σ H s)(mu:nC (H a))(hs:T8 a s.heap h')(he:∃ q,h'.get? a=some q)(new:ObjOk X.prog X.w (aE H a ob) h' a ob) :
  Inv X a2j σ (aE H a ob) { s with heap:=h',toks:=t' }:=
 I.write (x:=a) (e:=a) mu (.inl rfl) (fun b q hb z=>(hs.2 b hb).trans z) he new
theorem zN {P:Rk}{w:RG}{H':Hp}{h':Si}{kvs:List (aD×V)}{vs:List (aD×QL)}(z:kvs.length<=Q6)(hd:(a == RX)=false)(rel:KV kvs vs)(dd:h'.DictOf (cK P w) a vs) :
  ObjOk P w H' h' a (.dK kvs):=⟨z,hd,vs,rel,dd⟩
theorem GG {H':Hp}{Q:Unit->QM->Prop}(hu:A.units+1<SK)(I:Inv X a2j σ H s)(g:DPut H a y v H')(ry:RelV y u)(rv:RelV v r)(h:∀ s',Inv X a2j σ H' s'->Q () s') :
  Ri (Rl X.prog X.w) A (setItem (.ref a) u r) Q E s:=by
 rcases g with ⟨kvs,k,e,ey,l,eH⟩|⟨kvs,k,b,e,ey,eb,l,eH⟩
 ·subst ey eH
  obtain ⟨z,hd,vs,rel,dd⟩:=zM I.hok e
  have hz:vs.length<=Q6:=by rw [<- rel.length];exact z
  have hl:(cR kvs k v).length<=Q6:=by have:=sT kvs k v;omega
  refine wpAny_setItem_pairs (hsz:=hz) (pA ry) dd fun h' dd' hs=>h _ ?_
  have he:∃ q,h'.get? a=some q:=let ⟨q,_,_,hq,_⟩:=dd';⟨q,hq⟩
  exact jZ I (by rw [e];exact Tg) hs he (zN hl hd (rel.put k rv) dd')
 ·subst ey eH
  cases (show u=Q2 b from ry)
  obtain ⟨z,hd,xs,rel,dd⟩:=GD I.hok e
  have hz:xs.length<=Q6:=by rw [<- WD rel];exact z
  have hl:(cR kvs k v).length<=Q6:=by have:=sT kvs k v;omega
  refine a0s (hsz:=hz) (a0x hu) (sU I.hok eb) dd fun h' dd' hs=>h _ ?_
  obtain ⟨q,es,ep,hq,h2,h3,h4,_,h5⟩:=dd'
  refine jZ I (by rw [e];exact Tg) hs ⟨q,hq⟩ ⟨hl,hd,_,(rel.put k eb rv).keeps fun c ys ec=>?_,q,es,ep,hq,h2,h3,h4,h5⟩
  rw [aS (ET ec e (fun z=>nomatch z))]
  exact ec
end
section
variable {X:Cx}{a2j:List (Addr×Td)}{σ:St}{H:Hp}{s:QM}{a:Addr}{kvs:List (aD×V)}{k:aD}{u:QL}{A:Rw}{E:QL->QM->Prop}
theorem GH {Q:QL->QM->Prop}(I:Inv X a2j σ H s)(e:Rd H a (.dK kvs))(h:∀ t s',Inv X a2j σ H s'->Q (.int kvs.length t) s'):Ri (Rl X.prog X.w) A (call (.builtin "len") [.ref a]) Q E s:=by
 obtain ⟨z,hd,vs,rel,dd⟩:=pH I.hok e
 refine call_len_dict hd dd (by rw [<- rel.length];rw [Sn] at z;omega) ?_
 rw [<- rel.length]
 exact h _ _ (I.tok _)
end
noncomputable def pI (i:Q1):Prop:=∀ ov iv,Yd i false ov iv=operate [ov,iv] (XE ov iv)
theorem zO {prog:Rk}{w:RG}{A:Rw}{E:QL->QM->Prop}{s:QM}{env:W3}{value slice:Q1}{pos:Ta}{T id:String}{Q:QL->QM->Prop}
  (hl:Xi (.type T) "__getitem__" = pure (some (.builtin id))) (hs:pI slice)
  (h:Ri (Rl prog w) A (eval value env) (fun o s₁=>Ri (Rl prog w) A (eval slice env) (fun i s₂=>s₂.TypeIs o T/\Ri (Rl prog w) A (XE o i) Q E s₂) E s₁) E s) :
  Ri (Rl prog w) A (eval (.Subscript value slice pos) env) Q E s:=by
 refine a0E (RV h (fun o s₁ h₁=>RV h₁ (fun i s₂ h₂=>?_) fun _ _ x=>x) fun _ _ x=>x)
 obtain ⟨hT,h₂⟩:=h₂
 unfold Y3
 refine QK ?_
 rw [getitemInPython_of_ne hT.not_modules]
 refine QK (Va hT hl ?_)
 have fin:Ri (Rl prog w) A (Yd slice false o i) (fun r s₃=>Ri (Rl prog w) A (letTemporaryGo value o r >>= fun _=>pure r) Q E s₃) E s₂:=by
  rw [hs o i]
  exact wpAny_operating (RV h₂ (fun r s₃ h₃=>QK (wpAny_letTemporaryGo (QX h₃))) fun _ _ x=>x)
 first
  | exact QX (QK fin)
  | exact QK (QX (QK fin))
  | exact QK fin
theorem GJ {X:Cx}{a2j:List (Addr×Td)}{σ:St}{H:Hp}{s:QM}{a:Addr}{y:V}{o:Option V}(I:Inv X a2j σ H s)(g:DGet H a y o):s.TypeIs (.ref a) "dict":=by
 rcases g with ⟨kvs,k,e,_,_⟩|⟨kvs,k,b,e,_,_,_⟩
 ·obtain ⟨_,_,vs,_,dd⟩:=pH I.hok e
  exact dd.typeIs
 ·obtain ⟨_,_,xs,_,dd⟩:=sV I.hok e
  exact dd.typeIs
noncomputable def GK (td ty:TE):TE:=fun σ H Q=>td σ H fun x H1=>ty σ H1 fun y H2=>∃ a v,x=.ref a/\DGet H2 a y (some v)/\Q v H2
noncomputable def GL (td ty tv:TE):TS:=fun D σ H=>tv σ H fun v H1=>td σ H1 fun x H2=>ty σ H2 fun y H3=>∃ a H4,x=.ref a/\DPut H3 a y v H4/\D.nx σ H4
section
variable {X:Cx}{o i e value:Q1}{pos pos' tpos:Ta}{td ty tv:TE}
theorem GN (hu:X.A.units+1<SK)(ho:PE X o td)(hi:PE X i ty)(hs:pI i):PE X (.Subscript o i pos) (GK td ty):=by
 intro a2j s σ H Q I h
 refine zO Xr.lookup hs (aJ (ho a2j s σ H _ I h) fun u s1 ⟨x,H1,I1,rx,q1⟩=>aJ (hi a2j s1 σ H1 _ I1 q1) fun iv s2 ⟨y,H2,I2,ry,a,v,ex,g,q2⟩=>?_)
 subst ex
 obtain rfl:u=Q2 a:=rx
 exact ⟨GJ I2 g,GF hu I2 g ry fun w' s3 I3 rw'=>⟨v,H2,I3,rw',q2⟩⟩
theorem GO (hu:X.A.units+1<SK)(ho:PE X o td)(hi:PE X i ty)(hv:PE X value tv)(hs:Vo value (some (.Subscript o i pos')) pos.line X.env=pure false) :
  PS X (.Assign [.Subscript o i pos'] value pos) (GL td ty tv):=by
 intro a2j s σ H D I h
 refine WB (aJ (hv a2j s σ H _ I h) fun r s1 ⟨v,H1,I1,rv,q1⟩=>aJ (ho a2j s1 σ H1 _ I1 q1) fun u s2 ⟨x,H2,I2,rx,q2⟩=>aJ (hi a2j s2 σ H2 _ I2 q2) fun iv s3 ⟨y,H3,I3,ry,a,H4,ex,g,q3⟩=>?_) hs
 subst ex
 obtain rfl:u=Q2 a:=rx
 exact GG hu I3 g ry rv fun s4 I4=>⟨σ,H4,I4,q3⟩
end
theorem GP {P:Rk}{w:RG}{H:Hp}(h:Si)(hb:RX<h.objs.size):ObjOk P w H (h.push { cls:=.type "dict",data:=.dict #[] }) h.objs.size (.dK []):=
 ⟨Su _,beq_eq_false_iff_ne.mpr (Sw (Ro hb)),[],.nil,a2h h⟩
section
variable {X:Cx}{pos:Ta}
end
noncomputable def pJ:List (TE×TE)->St->Hp->(List (V×V)->Hp->Prop)->Prop
 | [],_,H,Q=>Q [] H
 | (tk,tv)::r,σ,H,Q=>tk σ H fun x H1=>tv σ H1 fun y H2=>pJ r σ H2 fun ps H3=>Q ((x,y)::ps) H3
noncomputable abbrev VV:List (V×V)->List (QL×QL)->Prop:=Vk fun p q=>RelV p.1 q.1/\RelV p.2 q.2
noncomputable def gZ (X:Cx)(pos:Ta)(keys:List (Option Q1))(values:List Q1)(trs:List (TE×TE)):Prop:=
 ∀ (a2j:List (Addr×Td))(s:QM)(σ:St)(H:Hp)(Q:List (V×V)->Hp->Prop),Inv X a2j σ H s->pJ trs σ H Q->
  Ri (Rl X.prog X.w) X.A (evalPairs (pairTrees keys values X.env pos)) (fun vs s'=>∃ ps H',Inv X a2j σ H' s'/\VV ps vs/\Q ps H') X.xe s
theorem GQ {X:Cx}{pos:Ta}:gZ X pos [] [] []:=fun a2j s σ H Q I h=>pairTrees_nil_walk ⟨[],H,I,.nil,h⟩
theorem GR {X:Cx}{pos:Ta}{k v:Q1}{ks:List (Option Q1)}{vs:List Q1}{tk tv:TE}{trs:List (TE×TE)}(hk:PE X k tk)(hv:PE X v tv)(hr:gZ X pos ks vs trs) :
  gZ X pos (some k::ks) (v::vs) ((tk,tv)::trs):=fun a2j s σ H Q I h=>
 pairTrees_cons_walk (aJ (hk a2j s σ H _ I h) fun u s1 ⟨x,H1,I1,rx,q1⟩=>aJ (hv a2j s1 σ H1 _ I1 q1) fun w2 s2 ⟨y,H2,I2,ry,q2⟩=>
  aJ (hr a2j s2 σ H2 _ I2 q2) fun ws s3 ⟨ps,H3,I3,rel,q3⟩=>⟨(x,y)::ps,H3,I3,.cons ⟨rx,ry⟩ rel,q3⟩)
noncomputable def j6 (kvs more:List (aD×V)):List (aD×V):=more.foldl (fun acc kv=>cR acc kv.1 kv.2) kvs
theorem KV.merge:∀ {more:List (aD×V)}{rs:List (aD×QL)}{kvs:List (aD×V)}{vs:List (aD×QL)},KV more rs->KV kvs vs->KV (j6 kvs more) (merged vs rs):=by
 intro more rs kvs vs r
 unfold KV at r
 induction r generalizing kvs vs with
 | nil=>intro q;exact q
 | @cons p q ps qs h t ih=>
  intro r0
  have e:KV (cR kvs p.1 p.2) (stored vs q.1 q.2):=by
   have:=r0.put p.1 h.2
   rw [<- h.1];exact this
  exact ih e
theorem zP:∀ (more kvs:List (aD×V)),(j6 kvs more).length<=kvs.length+more.length
 | [],kvs=>by show kvs.length<=kvs.length+0;omega
 | p::r,kvs=>by
  have h1:=zP r (cR kvs p.1 p.2)
  have h2:=sT kvs p.1 p.2
  show (j6 (cR kvs p.1 p.2) r).length<=_
  rw [Rq];omega
theorem zQ {P:Rk}{w:RG}:∀ {kvs:List (aD×V)}{ws:List (QL×QL)},VV (kvs.map fun kv=>(kV kv.1,kv.2)) ws->∃ rs,Carries (cK P w) ws rs/\KV kvs rs
 | [],_,r=>by rw [Vg] at r;cases r;exact ⟨[],Tg,.nil⟩
 | p::kvs,_,r=>by
  rw [Ra] at r
  cases r with
  | @cons a b as bs h t=>
   obtain ⟨rs,c,q⟩:=zQ (P:=P) (w:=w) t
   obtain ⟨b1,b2⟩:=b
   exact ⟨(p.1,b2)::rs,⟨pA h.1,rfl,c⟩,.cons ⟨rfl,h.2⟩ q⟩
noncomputable def GS (trs:List (TE×TE)):TE:=fun σ H Q=>∀ p,H p=none->pJ trs σ (aE H p (.dK [])) fun ps H2=>H2 p=some (.dK [])/\∃ kvs:List (aD×V),ps=kvs.map (fun kv=>(kV kv.1,kv.2))/\kvs.length<=15/\Q (.ref p) (aE H2 p (.dK (j6 [] kvs)))
theorem GU {X:Cx}{pos:Ta}{keys:List (Option Q1)}{values:List Q1}{trs:List (TE×TE)}(h:gZ X pos keys values trs)(hall:keys.all (·.isSome)=true)(hl:keys.length=values.length)(h0:keys≠[])
  (h15:keys.length<=15):PE X (.Dict keys values pos) (GS trs):=by
 intro a2j s σ H Q I q
 have hn:=I.hok.fresh (Q0 s.heap.objs.size)
 have I1:=I.laid (a:=s.heap.objs.size) (o:=.dK []) (h':=s.heap.push { cls:=.type "dict",data:=.dict #[] }) (t':=s.toks) (fun _ _ q=>QU _ q) (Q0 _) (GP s.heap I.big)
 refine wpAny_Dict_walk (knd:=cK X.prog X.w) hall hl h0 h15 (aJ (h a2j _ σ _ _ I1 (q _ hn)) fun ws s2 ⟨ps,H2,I2,rel,e,kvs,ep,lk,q2⟩=>?_)
 subst ep
 obtain ⟨rs,c,rk⟩:=zQ (P:=X.prog) (w:=X.w) rel
 obtain ⟨z,hd,vs0,r0,dd⟩:=zM I2.hok e
 cases r0
 refine ⟨rs,c,dd,fun h' dd' hs=>⟨.ref s.heap.objs.size,_,?_,rfl,q2⟩⟩
 have hz:(j6 [] kvs).length<=Q6:=by
  have h1:=zP kvs []
  rw [Tz] at h1
  rw [Sn];omega
 have he:∃ q,h'.get? s.heap.objs.size=some q:=let ⟨q,_,_,hq,_⟩:=dd';⟨q,hq⟩
 exact jZ I2 (by rw [e];exact Tg) hs he (zN hz hd (rk.merge .nil) dd')
structure M1 (X:Cx)(o:Q1)(m:Str)(apos:Ta)(e:Q1)(cpos:Ta):Prop where
 base:UH o m X.env (eval o X.env)=eval o X.env
 few:((Uk cpos (RK [e] X.env)).all (fun x=>!x.1)&&(YD cpos (WX [] X.env)).all (fun x=>x.1.isSome)
  && decide (([e]:List Q1).length+([]:List UY).length+(if ([]:List UY).isEmpty then 0 else 1)<30))=true
 line:(apos.endLine == cpos.line)=true
 trees:Uk cpos (RK [e] X.env)=[(false,eval e X.env)]
structure M2 (X:Cx)(o:Q1)(m:Str)(apos:Ta)(e f:Q1)(cpos:Ta):Prop where
 base:UH o m X.env (eval o X.env)=eval o X.env
 few:((Uk cpos (RK [e,f] X.env)).all (fun x=>!x.1)&&(YD cpos (WX [] X.env)).all (fun x=>x.1.isSome)
  && decide (([e,f]:List Q1).length+([]:List UY).length+(if ([]:List UY).isEmpty then 0 else 1)<30))=true
 line:(apos.endLine == cpos.line)=true
 trees:Uk cpos (RK [e,f] X.env)=[(false,eval e X.env),(false,eval f X.env)]
noncomputable def IsD (H:Hp)(a:Addr):Prop:=(∃ kvs,Rd H a (.dK kvs))\/∃ kvs,Rd H a (.dT kvs)
section
variable {X:Cx}{a2j:List (Addr×Td)}{σ:St}{H:Hp}{s:QM}{a:Addr}{y d:V}{u r:QL}{o:Option V}{A:Rw}{E:QL->QM->Prop}
end
section
variable {X:Cx}{o e f:Q1}{apos cpos:Ta}{td ty tx:TE}
end
section
variable {X:Cx}{a2j:List (Addr×Td)}{σ:St}{H:Hp}{s:QM}{a:Addr}{kvs:List (aD×V)}{A:Rw}{E:QL->QM->Prop}
end
section
variable {X:Cx}{a2j:List (Addr×Td)}{σ:St}{H:Hp}{s:QM}{a:Addr}{y:V}{u:QL}{A:Rw}{E:QL->QM->Prop}
end
end L2
namespace HT
open PySem PyProof.Rows
noncomputable def lexLt:List Int->List Int->Bool
 | [],[]=>false
 | [],_::_=>true
 | _::_,[]=>false
 | x::xs,y::ys=>if x=y then lexLt xs ys else decide (x<y)
theorem lexLt_cons (x y:Int)(xs ys:List Int):lexLt (x::xs) (y::ys)=if x=y then lexLt xs ys else decide (x<y):=rfl
theorem GV:lexLt [] []=false:=rfl
theorem GW (y:Int)(ys:List Int):lexLt [] (y::ys)=true:=rfl
theorem GX (x:Int)(xs:List Int):lexLt (x::xs) []=false:=rfl
theorem GY (A:Rw)(s:QM)(a:Int)(t:a0D)(c:Int)(u:a0D):∃ e,XJ A s (.int a t) (.int c u) e/\(e=true↔a=c):=
 ⟨(a == c),Yg a t c u,by simp⟩
theorem GZ (A:Rw)(s:QM)(a:Int)(t:a0D)(c:Int)(u:a0D)(prog:Rk)(w:RG)(E:QL->QM->Prop)(Q:QL->QM->Prop)(h:Q (.bool (decide (a<c))) s) :
  Ri (Rl prog w) A (richCompare .Lt (.int a t) (.int c u)) Q E s:=
 (XN h:Ri (Rl prog w) A (R6 .Lt (.int a t) (.int c u)) Q E s)
section
open PySem.SeqAt
open PySem.AutoSeq1 (wpAny_loadPart')
open PySem.MeetsSeq PySem.MeetsSeq2 PySem.MeetsSeq3
theorem G0 (l b:Addr)(items items2:Array QL)(n n2:Nat)(dd dd2:Option Addr)(sl sl2:Array (Option QL))(ns ms:List Int)(hi:Uz items.toList ns)(hj:Uz items2.toList ms) :
  Meets (Builtin.«tuple.__lt__» ⟨[.ref l,.ref b],[]⟩)
   (fun _ R s=>s.heap.get? l=some { cls:=.type "tuple",dict:=dd,data:=.seq items n,slots:=sl }/\s.heap.get? b=some { cls:=.type "tuple",dict:=dd2,data:=.seq items2 n2,slots:=sl2 } /\
    R (.ok (.ret (.bool (lexLt ns ms)))) s):=
 .of_wp fun prog w A R s h=>by
  obtain ⟨hp,g,d,tk,os⟩:=s;obtain ⟨hl,hb,h⟩:=h
  have f2:=AutoSeq1.sub_tuple_tuple
  have z1:items.size=ns.length:=by rw [<- hi.length];simp
  have z2:items2.size=ms.length:=by rw [<- hj.length];simp
  wp_walk using a1r hl,a1r hb,X4 _ (fun rest b s'=>b.1=none/\s'=⟨hp,g,d,tk,os⟩/\∃ (vs ws:List QL)(ns' ms':List Int),rest=vs.zip ws /\
   Uz vs ns'/\Uz ws ms'/\ns'.length+items2.size=ms'.length+items.size/\R (.ok (.ret (.bool (lexLt ns' ms')))) ⟨hp,g,d,tk,os⟩) _
  case turn=>
   rintro ⟨y,x⟩ rest b s' ⟨hb',rfl,vs,ws,ns',ms',hz,hvi,hwi,hlen,hR⟩
   cases hvi with
   | nil=>rw [List.zip_nil_left] at hz;cases hz
   | cons a t hvi'=>
    cases hwi with
    | nil=>rw [List.zip_nil_right] at hz;cases hz
    | cons c u hwi'=>
     rw [Zm] at hz
     injection hz with hyx hrest
     injection hyx with hy hx
     subst hy hx
     rw [lexLt_cons] at hR
     simp only [Rq] at hlen
     obtain ⟨e,he,hiff⟩:=GY A.in1 ⟨hp,g,d,tk,os⟩ a t c u
     refine QK (he prog w _ _ ?_)
     cases e with
     | true=>
      rw [if_pos (hiff.mp rfl)] at hR
      wp_walk
      exact ⟨rfl,rfl,_,_,_,_,hrest,hvi',hwi',by omega,hR⟩
     | false=>
      rw [if_neg (fun q=>absurd (hiff.mpr q) RR)] at hR
      have hri:=GZ A.in1 ⟨hp,g,d,tk,os⟩ a t c u prog w
      wp_walk using hri
      exact ⟨_,rfl,by simpa using hR⟩
  case fin=>
   rintro ⟨b1,b2⟩ s' ⟨hb',rfl,vs,ws,ns',ms',hz,hvi,hwi,hlen,hR⟩
   simp only at hb'
   subst hb'
   have hv:lexLt ns' ms'=decide (items.size<items2.size):=by
    cases hvi with
    | nil=>
     cases hwi with
     | nil=>
      simp only [Tz] at hlen
      rw [GV]
      exact (decide_eq_false (by omega)).symm
     | cons c u hw=>
      simp only [Tz,Rq] at hlen
      rw [GW]
      exact (decide_eq_true (by omega)).symm
    | cons a t hv=>
     cases hwi with
     | nil=>
      simp only [Tz,Rq] at hlen
      rw [GX]
      exact (decide_eq_false (by omega)).symm
     | cons c u hw=>
      rw [Zm] at hz
      cases hz
   rw [hv] at hR
   wp_walk
   exact ⟨_,rfl,by simpa [a1p] using hR⟩
  case h=>
   exact ⟨rfl,rfl,items.toList,items2.toList,ns,ms,rfl,hi,hj,by omega,h⟩
end
section
variable {prog:Rk}{w:RG}{A:Rw}{E:QL->QM->Prop}{s:QM}
theorem lt_tupInts {l b:Addr}{items items2:Array QL}{ns ms:List Int}{Q:QL->QM->Prop}(hl:a0X s.heap l items)(hb:a0X s.heap b items2)(hi:Uz items.toList ns)(hj:Uz items2.toList ms)
  (hu:A.units<SK)(h:Q (.bool (lexLt ns ms)) s):Ri (Rl prog w) A (R6 .Lt (.ref l) (.ref b)) Q E s:=by
 obtain ⟨⟨cls,dd,data,sl⟩,ho,hc,n,hd⟩:=id hl
 obtain ⟨⟨cls2,dd2,data2,sl2⟩,ho2,hc2,n2,hd2⟩:=id hb
 simp only at hc hd hc2 hd2
 subst hc hd hc2 hd2
 exact richCompare_meets_room (op:=.Lt) ⟨_,ho,rfl⟩ ⟨_,ho2,rfl⟩ PySem.F.slot_tuple_lt PySem.F.entry_tuple_lt (PySem.F.args_tuple_lt_2 _ _) (G0 l b items items2 n n2 dd dd2 sl sl2 ns ms hi hj)
  ⟨ho,ho2,show Vp (lexLt ns ms)≠Value.notImplemented/\Q (.bool (lexLt ns ms)) s from ⟨(fun x=>nomatch x),h⟩⟩ hu
noncomputable def sIx (n d:Nat):Option Int->Nat
 | none=>d
 | some v=>if v<0 then (v+(n:Int)).toNat else min v.toNat n
theorem sIx_none (n d:Nat):sIx n d none=d:=rfl
theorem sIx_nat (n d k:Nat):sIx n d (some (k:Int))=min k n:=by
 show (if (k:Int)<0 then ((k:Int)+(n:Int)).toNat else min (k:Int).toNat n)=min k n
 rw [if_neg (by omega),UB]
end
end HT
namespace L2
open PySem PySem.Spec PyProof.Rows
noncomputable abbrev TO:=St->Hp->(Option Int->Hp->Prop)->Prop
noncomputable def PO (X:Cx)(e:Option Q1)(t:TO):Prop:=
 ∀ (a2j:List (Addr×Td))(s:QM)(σ:St)(H:Hp)(Q:Option Int->Hp->Prop),Inv X a2j σ H s->t σ H Q->
  Ri (Rl X.prog X.w) X.A (evalPart e X.env) (fun u s'=>∃ o H',Inv X a2j σ H' s'/\IsPart u o/\Q o H') X.xe s
noncomputable def G1:TO:=fun _ H Q=>Q none H
noncomputable def G2 (t:TE):TO:=fun σ H Q=>t σ H fun x H1=>∃ i,x=.int i/\Q (some i) H1
theorem sW {ns:List Int}:∀ {us:List QL},Vals (ns.map V.int) us->Uz us ns:=by
 induction ns with
 | nil=>intro us r;rw [Vg] at r;cases r;exact .nil
 | cons n ns ih=>
  intro us r
  rw [Ra] at r
  cases r with
  | cons r1 r2=>
   obtain ⟨t,e⟩:=r1
   subst e
   exact .cons n t (ih r2)
section
variable {X:Cx}{e:Q1}{te:TE}{lo hi:Option Q1}{tl th:TO}{pos p2:Ta}
theorem G3:PO X none G1:=by
 intro a2j s σ H Q I h
 rw [evalPart_none]
 exact QX ⟨none,H,I,.none,h⟩
theorem G4 (h:PE X e te):PO X (some e) (G2 te):=by
 intro a2j s σ H Q I hw
 rw [evalPart_some]
 refine aJ (h a2j s σ H _ I hw) fun u s1 ⟨x,H1,I1,r1,q1⟩=>?_
 obtain ⟨i,rfl,q⟩:=q1
 obtain ⟨t,rfl⟩:=r1
 exact ⟨some i,H1,I1,.int i t,q⟩
noncomputable def SlR (X:Cx)(r:V->Option Int->Option Int->Hp->VK->Prop):Prop:=
 ∀ (a2j:List (Addr×Td))(s:QM)(σ:St)(H:Hp)(x:V)(v vl vu:QL)(lo hi:Option Int)(sl:Addr)(Q:VK),Inv X a2j σ H s->RelV x v->s.heap.IsSliceOf sl vl vu .none->IsPart vl lo->IsPart vu hi->r x lo hi H Q->
  ∃ T id,Xi (.type T) "__getitem__" = pure (some (.builtin id))/\s.TypeIs v T/\Ri (Rl X.prog X.w) X.A (XE v (.ref sl)) (EP X a2j σ Q) X.xe s
theorem SlR.or {r r':V->Option Int->Option Int->Hp->VK->Prop}(h:SlR X r)(h':SlR X r'):SlR X (fun x lo hi H Q=>r x lo hi H Q\/r' x lo hi H Q):=by
 intro a2j s σ H x v vl vu lo hi sl Q I rx hs pl pu q
 rcases q with q|q
 ·exact h a2j s σ H x v vl vu lo hi sl Q I rx hs pl pu q
 ·exact h' a2j s σ H x v vl vu lo hi sl Q I rx hs pl pu q
noncomputable def G5 (r:V->Option Int->Option Int->Hp->VK->Prop)(te:TE)(tl th:TO):TE:=fun σ H Q=>te σ H fun x H1=>tl σ H1 fun l H2=>th σ H2 fun u H3=>r x l u H3 Q
theorem G6 {r:V->Option Int->Option Int->Hp->VK->Prop}(hr:SlR X r)(he:PE X e te)(hl:PO X lo tl)(hu:PO X hi th):PE X (.Subscript e (.Slice lo hi none p2) pos) (G5 r te tl th):=by
 intro a2j s σ H Q I h
 refine a0E (aJ (he a2j s σ H _ I h) fun v s1 ⟨x,H1,I1,r1,q1⟩=>?_)
 refine wpAny_Slice (aJ (hl a2j s1 σ H1 _ I1 q1) fun vl s2 ⟨l,H2,I2,pl,q2⟩=>aJ (hu a2j s2 σ H2 _ I2 q2) fun vu s3 ⟨u,H3,I3,pu,q3⟩=>?_)
 rw [evalPart_none]
 refine QX ?_
 have I4:Inv X a2j σ H3 { s3 with heap:=s3.heap.push { cls:=.type "slice",data:=.fields #[vl,vu,.none] } }:=I3.kept (t':=s3.toks) fun b ob q=>QU _ q
 obtain ⟨T,id,hT,ht,hg⟩:=hr a2j { s3 with heap:=s3.heap.push { cls:=.type "slice",data:=.fields #[vl,vu,.none] } } σ H3 x v vl vu l u s3.heap.objs.size Q I4 r1 (a0Y ..) pl pu q3
 show Ri (Rl X.prog X.w) X.A (Y3 e (.Slice lo hi none p2) v (.ref s3.heap.objs.size)) (EP X a2j σ Q) X.xe { s3 with heap:=s3.heap.push { cls:=.type "slice",data:=.fields #[vl,vu,.none] } }
 exact tail_any (ops:=[.ref s3.heap.objs.size,v]) ht hT hg (by with_unfolding_all rfl)
noncomputable def i5 (xs:List V)(lo hi:Option Int):List V:=(xs.drop (HT.sIx xs.length 0 lo)).take (HT.sIx xs.length xs.length hi - HT.sIx xs.length 0 lo)
theorem G7 (xs:List V)(lo hi:Option Int):(i5 xs lo hi).length<=xs.length:=by
 unfold i5
 rw [RC,RZ]
 omega
end
end L2
namespace L2
open PySem PySem.Spec PyProof.Rows
noncomputable def g7 (n:Nat)(i:Int):Option Nat:=if 0<=i then (if i<n then some i.toNat else none) else if -(n:Int)<=i then some (i+n).toNat else none
noncomputable def atI {α:Type}(xs:List α)(i:Int):Option α:=(g7 xs.length i).bind fun j=>xs[j]?
theorem zR {n:Nat}{i:Int}{j:Nat}(h:g7 n i=some j):seqIndex? i n=some j/\j<n/\-(n:Int)<=i/\i<n:=by
 unfold g7 at h
 by_cases h0:0<=i
 ·rw [if_pos h0] at h
  by_cases h1:i<n
  ·rw [if_pos h1] at h
   have e:i.toNat=j:=RA h
   exact ⟨by rw [Z9 h0 h1,e],by omega,by omega,h1⟩
  ·rw [if_neg h1] at h;cases h
 ·rw [if_neg h0] at h
  by_cases h1:-(n:Int)<=i
  ·rw [if_pos h1] at h
   have e:(i+n).toNat=j:=RA h
   exact ⟨by rw [Zu (by omega) h1,e],by omega,h1,by omega⟩
  ·rw [if_neg h1] at h;cases h
theorem sX {α:Type}{xs:List α}{i:Int}{v:α}(h:atI xs i=some v):∃ j,seqIndex? i xs.length=some j/\xs[j]? = some v/\j<xs.length/\-(xs.length:Int)<=i/\i<xs.length:=by
 unfold atI at h
 cases e:g7 xs.length i with
 | none=>rw [e] at h;cases h
 | some j=>
  rw [e] at h
  obtain ⟨h1,h2,h3,h4⟩:=zR e
  exact ⟨j,h1,h,h2,h3,h4⟩
noncomputable def sY (b:Q1):Prop:=∀ o i,Yd b false o i=operate [o,i] (XE o i)
noncomputable def IxR (X:Cx)(r:R2):Prop:=
 ∀ (value slice:Q1)(a2j:List (Addr×Td))(s:QM)(σ:St)(H:Hp)(x y:V)(v u:QL)(Q:VK),Inv X a2j σ H s->RelV x v->RelV y u->r x y H Q->
  Yd slice false v u=operate [v,u] (XE v u)->Ri (Rl X.prog X.w) X.A (Y3 value slice v u) (EP X a2j σ Q) X.xe s
noncomputable def MtR (X:Cx)(id:String)(r:V->List V->Hp->VK->Prop):Prop:=
 ∀ (a2j:List (Addr×Td))(s:QM)(σ:St)(H:Hp)(x:V)(xs:List V)(v:QL)(us:List QL)(Q:VK),Inv X a2j σ H s->RelV x v->Vals xs us->r x xs H Q->
  Ri (Rl X.prog X.w) X.A (call (.builtin id) (v::us)) (EP X a2j σ Q) X.xe s
section
variable {X:Cx}{a b:Q1}{ta tb:TE}{pos:Ta}
theorem IxR.or {r r':R2}(h:IxR X r)(h':IxR X r'):IxR X (fun x y H Q=>r x y H Q\/r' x y H Q):=by
 intro value slice a2j s σ H x y v u Q I rx ry q hs
 rcases q with q|q
 ·exact h value slice a2j s σ H x y v u Q I rx ry q hs
 ·exact h' value slice a2j s σ H x y v u Q I rx ry q hs
theorem MtR.or {id:String}{r r':V->List V->Hp->VK->Prop}(h:MtR X id r)(h':MtR X id r'):MtR X id (fun x xs H Q=>r x xs H Q\/r' x xs H Q):=by
 intro a2j s σ H x xs v us Q I rx rs q
 rcases q with q|q
 ·exact h a2j s σ H x xs v us Q I rx rs q
 ·exact h' a2j s σ H x xs v us Q I rx rs q
theorem G8 {r:R2}(hr:IxR X r)(ha:PE X a ta)(hb:PE X b tb)(hs:sY b):PE X (.Subscript a b pos) (nH r ta tb):=by
 intro a2j s σ H Q I h
 exact a0E (sI ha hb I h fun v u s2 x y H2 I2 rx ry q=>hr a b a2j s2 σ H2 x y v u Q I2 rx ry q (hs _ _))
noncomputable def zS (K:QH):R2:=fun x y H Q=>∃ p xs i v,x=.ref p/\y=.int i/\SqL K H p xs/\atI xs i=some v/\Q v H
noncomputable def zT (K:QH):R2:=fun x y H Q=>∃ p xs i v,x=.ref p/\y=.int i/\SqT K H p xs/\atI xs i=some v/\Q v H
noncomputable def zU:R2:=fun x y H Q=>∃ z i c,x=.str z/\y=.int i/\z.length<=Q6/\atI z.cps.toList i=some c/\Q (.str ⟨#[c]⟩) H
theorem ix_list:IxR X (zS X.K):=by
 intro value slice a2j s σ H x y v u Q I rx ry h hs
 obtain ⟨p,xs,i,z,rfl,rfl,hq,he,q⟩:=h
 cases rx
 obtain ⟨t,rfl⟩:=ry
 obtain ⟨its,r,pl,hz⟩:=I.list hq
 obtain ⟨j,h1,h2,h3,h4,h5⟩:=sX he
 obtain ⟨w,ew,rw'⟩:=r.get h2
 have hl:=r.length
 have hn:=jY
 have fin:EP X a2j σ Q w s:=⟨z,H,I,rw',q⟩
 by_cases h0:0<=i
 ·have hj:i.toNat=j:=by
   rw [Z9 h0 h5] at h1
   exact RA h1
  exact item_listR pl.isList h0 (by omega) (by rw [hj];simpa using ew) fin hs
 ·have hj:(i+(its.toArray.size:Int)).toNat=j:=by
   rw [Zu (by omega) h4] at h1
   rw [QZ,<- hl]
   exact RA h1
  exact Zt (x:=w) pl.isList.typeIs a0N.lookup
   (wpAny_getItem_list_neg (Q:=fun r s'=>r=w/\EP X a2j σ Q r s') pl.isList (by omega) (by rw [QZ]<;>omega) (by omega) (by rw [hj];simpa using ew) ⟨rfl,fin⟩) hs
theorem ix_tup:IxR X (zT X.K):=by
 intro value slice a2j s σ H x y v u Q I rx ry h hs
 obtain ⟨p,xs,i,z,rfl,rfl,hq,he,q⟩:=h
 cases rx
 obtain ⟨t,rfl⟩:=ry
 obtain ⟨its,r,pl,hz⟩:=I.tuple hq
 obtain ⟨j,h1,h2,h3,h4,h5⟩:=sX he
 obtain ⟨w,ew,rw'⟩:=r.get h2
 have hl:=r.length
 have hn:=jY
 have fin:EP X a2j σ Q w s:=⟨z,H,I,rw',q⟩
 exact Zt (x:=w) pl.typeIs slot_tuple_getitem.lookup
  (getItem_tuple (j:=j) (Q:=fun r s'=>r=w/\EP X a2j σ Q r s') pl (by omega) (by omega) (by rw [QZ,<- hl];exact h1) (by simpa using ew) ⟨rfl,fin⟩) hs
theorem G9:IxR X zU:=by
 intro value slice a2j s σ H x y v u Q I rx ry h hs
 obtain ⟨z,i,c,rfl,rfl,hz,he,q⟩:=h
 obtain ⟨t,rfl⟩:=rx
 obtain ⟨t',rfl⟩:=ry
 obtain ⟨j,h1,h2,h3,h4,h5⟩:=sX he
 have hl:z.cps.toList.length=z.length:=by simp [Str.length]
 rw [hl] at h1 h4 h5
 have hn:=jY
 exact tail_any (a0w s z t) slot_str_getitem.lookup (getItem_str (c:=c) (by
  have e1:decide (i < -(2 ^ 63:Int))=false:=decide_eq_false (by omega)
  have e2:decide (i >= 2 ^ 63)=false:=decide_eq_false (by omega)
  rw [e1,e2,Yj]) (by rw [h1];simpa using h2) ⟨.str ⟨#[c]⟩,H,I.tok _,⟨_,rfl⟩,q⟩) hs
noncomputable def zV (K:QH):R2:=fun x y H Q=>zS K x y H Q\/zT K x y H Q\/zU x y H Q
theorem Ha:IxR X (zV X.K):=ix_list.or (ix_tup.or G9)
theorem Hb (its:List QL)(n j:Nat)(u:QL):RW (·.setIfInBounds j u) { cls:=.type "list",data:=.seq its.toArray n } = { cls:=.type "list",data:=.seq (its.set j u).toArray n }:=by
 simp [RW]
theorem Inv.lst {a2j:List (Addr×Td)}{σ:St}{H:Hp}{s:QM}{p:Addr}{xs:List V}(I:Inv X a2j σ H s)(h:H p=some (.lst xs)) :
  ∃ (its:List QL)(n:Nat),Vals xs its/\s.heap.get? p=some { cls:=.type "list",data:=.seq its.toArray n }/\xs.length<=Q6:=by
 obtain ⟨z,its,n,r,e⟩:=I.hok p _ h
 exact ⟨its,n,r,e,z⟩
theorem Inv.lstUpd {a2j:List (Addr×Td)}{σ:St}{H:Hp}{s:QM}{p:Addr}{xs ys:List V}{its its':List QL}{n n':Nat}{f:Td->Td}(I:Inv X a2j σ H s)(h:H p=some (.lst xs))
  (ho:s.heap.get? p=some { cls:=.type "list",data:=.seq its.toArray n }) (hf:f { cls:=.type "list",data:=.seq its.toArray n } = { cls:=.type "list",data:=.seq its'.toArray n' }) (r:Vals ys its')(hz:ys.length<=Q6)(t:Nat) :
  Inv X a2j σ (aE H p (.lst ys)) { s with heap:=s.heap.update p f,toks:=t }:=by
 have e:(s.heap.update p f).get? p=some { cls:=.type "list",data:=.seq its'.toArray n' }:=by
  rw [SO f ho (by rw [hf]<;>rfl),hf]
 refine I.write (x:=p) (e:=p) (by rw [h];trivial) (.inl rfl) (fun b u hb q=>(Sg _ _ (Sw hb)).trans q) ⟨_,e⟩ ?_
 exact ⟨hz,its',n',r,e⟩
noncomputable def zW:V->V->V->Hp->(Hp->Prop)->Prop:=fun o i v H Q=>∃ p xs k j,o=.ref p/\i=.int k/\H p=some (.lst xs)/\g7 xs.length k=some j/\Q (aE H p (.lst (xs.set j v)))
theorem Hc:FQ X zW:=by
 intro a2j s σ H o i v ov iv u Q I ro ri rv h
 obtain ⟨p,xs,k,j,rfl,rfl,hp,hj,q⟩:=h
 cases ro
 obtain ⟨t,rfl⟩:=ri
 obtain ⟨its,n,r,ho,hz⟩:=I.lst hp
 obtain ⟨h1,h2,h3,h4⟩:=zR hj
 have hl:=r.length
 have hn:=jY
 have I':Inv X a2j σ (aE H p (.lst (xs.set j v))) { s with heap:=s.heap.update p (RW (·.setIfInBounds j u)) }:=
  I.lstUpd hp ho (Hb its n j u) (r.set rv j) (by rw [SG];exact hz) s.toks
 by_cases h0:0<=k
 ·have hk:k.toNat=j:=by
   rw [Z9 h0 h4] at h1
   exact RA h1
  exact PySem.W.ki_setAt ho h0 (by omega) (by rw [QZ,<- hl];exact h4) (by rw [hk];exact ⟨_,I',q⟩)
 ·have hk:(k+(its.toArray.size:Int)).toNat=j:=by
   rw [Zu (by omega) h3] at h1
   rw [QZ,<- hl]
   exact RA h1
  exact PySem.W.ki_setBack ho (by omega) (by rw [QZ,<- hl];exact h3) (by omega) (by rw [hk];exact ⟨_,I',q⟩)
theorem Hd (lo hi:Option Int)(n:Nat):(VQ lo hi none n).1=((HT.sIx n 0 lo:Nat):Int)/\(VQ lo hi none n).2.1=((HT.sIx n n hi:Nat):Int)/\(VQ lo hi none n).2.2=1:=by
 refine ⟨?_,?_,rfl⟩
 ·cases lo with
  | none=>simp [VQ,HT.sIx]
  | some i=>
   simp only [VQ,HT.sIx,Zl,show (1:Int)>0 by decide,if_true]
   by_cases h:i<0
   ·simp only [h,if_true]<;>omega
   ·simp only [h,if_false]<;>omega
 ·cases hi with
  | none=>simp [VQ,HT.sIx]
  | some i=>
   simp only [VQ,HT.sIx,Zl,show (1:Int)>0 by decide,if_true]
   by_cases h:i<0
   ·simp only [h,if_true]<;>omega
   ·simp only [h,if_false]<;>omega
theorem He (its:List QL)(lo hi:Option Int):slicePick its.toArray lo hi none=((its.drop (HT.sIx its.length 0 lo)).take (HT.sIx its.length its.length hi - HT.sIx its.length 0 lo)).toArray:=by
 obtain ⟨h1,h2,h3⟩:=Hd lo hi its.toArray.size
 unfold slicePick
 rw [h1,h2,h3]
 simp only [sliceRange_one,pick_run,QZ]<;>rfl
noncomputable def sZ (K:QH):V->Option Int->Option Int->Hp->VK->Prop:=fun x lo hi H Q=>∃ a xs,x=.ref a/\SqL K H a xs/\∀ p,H p=none->Q (.ref p) (aE H p (.lst (i5 xs lo hi)))
theorem Hf:SlR X (sZ X.K):=by
 intro a2j s σ H x v vl vu lo hi sl Q I rx hs pl pu h
 obtain ⟨a,xs,rfl,hx,q⟩:=h
 cases rx
 obtain ⟨its,r,ht,hz⟩:=I.list hx
 have hlen:=r.length
 refine ⟨"list",_,a0N.lookup,ht.isList.typeIs,?_⟩
 refine wpAny_getItem_list_slice ht.isList hs pl pu .none (by simp) ?_ (by rw [QZ]<;>omega)
 rw [He,<- hlen]
 refine ⟨.ref s.heap.objs.size,_,I.laid (t':=s.toks) (o:=.lst (i5 xs lo hi)) (fun b ob q=>QU _ q) (Q0 _) ?_,rfl,q _ (I.hok.fresh (Q0 _))⟩
 exact ⟨SR (G7 xs lo hi) hz,_,0,(r.drop (HT.sIx xs.length 0 lo)).take (HT.sIx xs.length xs.length hi - HT.sIx xs.length 0 lo),Rj _ rfl⟩
theorem zX:OpR X (R6 .NotIn) (fun x y H Q=>∃ i j,x=.str i/\y=.str j/\Q (.bl (!(!(R0 j i 0 j.length 1).isEmpty))) H):=by
 intro a2j s σ H x y v u Q I rx ry h
 obtain ⟨i,j,rfl,rfl,q⟩:=h
 obtain ⟨t,rfl⟩:=rx
 obtain ⟨t',rfl⟩:=ry
 exact notIn_str ⟨.bl _,H,I,rfl,q⟩
theorem call_len_seq:CallR X (.builtin "len") (fun xs H Q=>∃ p ys,xs=[.ref p]/\(SqL X.K H p ys\/SqT X.K H p ys)/\Q (.int ys.length) H):=by
 intro a2j s σ H xs us Q I r h
 obtain ⟨p,ys,rfl,hq,q⟩:=h
 obtain ⟨u,rfl,rx⟩:=dC r
 cases rx
 have hn:=jY
 rcases hq with hq|hq
 ·obtain ⟨its,r',pl,hz⟩:=I.list hq
  have hlen:=r'.length
  exact Calls.call_len_list pl.isList (by simp only [QZ]<;>omega) ⟨.int ys.length,H,I.tok _,⟨s.toks+1,by rw [QZ,hlen]⟩,q⟩
 ·obtain ⟨its,r',pl,hz⟩:=I.tuple hq
  have hlen:=r'.length
  exact len_tuple pl (by simp only [QZ]<;>omega) ⟨.int ys.length,H,I.tok _,⟨s.toks+1,by rw [QZ,hlen]⟩,q⟩
theorem Hg:CallR X (.builtin "len") (fun xs H Q=>∃ z,xs=[.str z]/\z.length<=Q6/\Q (.int z.length) H):=by
 intro a2j s σ H xs us Q I r h
 obtain ⟨z,rfl,hz,q⟩:=h
 obtain ⟨u,rfl,t,rfl⟩:=dC r
 have hn:=jY
 exact len_str (by omega) ⟨.int z.length,H,I.tok _,⟨_,rfl⟩,q⟩
theorem CallR.or {f:QL}{r r':List V->Hp->VK->Prop}(h:CallR X f r)(h':CallR X f r'):CallR X f (fun xs H Q=>r xs H Q\/r' xs H Q):=by
 intro a2j s σ H xs us Q I rs q
 rcases q with q|q
 ·exact h a2j s σ H xs us Q I rs q
 ·exact h' a2j s σ H xs us Q I rs q
theorem call_list_of:CallR X (.type "list") (fun xs H Q=>∃ p ys,xs=[.ref p]/\(SqL X.K H p ys\/SqT X.K H p ys)/\∀ l,H l=none->Q (.ref l) (aE H l (.lst ys))):=by
 intro a2j s σ H xs us Q I r h
 obtain ⟨p,ys,rfl,hq,q⟩:=h
 obtain ⟨u,rfl,rx⟩:=dC r
 cases rx
 have fin:∀ (its:List QL),Vals ys its->ys.length<=Q6->∀ (h':Si)(c':Nat),(∀ b o',s.heap.get? b=some o'->h'.get? b=some o')->
   h'.get? s.heap.objs.size=some { cls:=.type "list",dict:=none,data:=.seq its.toArray c',slots:=#[] }->EP X a2j σ Q (.ref s.heap.objs.size) { s with heap:=h' }:=fun its r' hz h' c' kp e=>
  ⟨.ref s.heap.objs.size,_,I.laid (t':=s.toks) kp (Q0 _) (show ObjOk X.prog X.w _ h' _ (.lst ys) from ⟨hz,its,c',r',e⟩),rfl,q _ (I.hok.fresh (Q0 _))⟩
 rcases hq with hq|hq
 ·obtain ⟨its,r',pl,hz⟩:=I.list hq
  have hlen:=r'.length
  obtain ⟨o,ho,hc,n,hd⟩:=pl.isList
  exact call_list_seq p (.inl rfl) ho hc hd (fun h' c' kp e=>fin its r' hz h' c' kp e) (by simp only [QZ]<;>omega)
 ·obtain ⟨its,r',pl,hz⟩:=I.tuple hq
  have hlen:=r'.length
  obtain ⟨o,ho,hc,n,hd⟩:=pl
  exact call_list_seq p (.inr rfl) ho hc hd (fun h' c' kp e=>fin its r' hz h' c' kp e) (by simp only [QZ]<;>omega)
theorem zY:CallR X (.type "tuple") (fun xs H Q=>∃ p ys,xs=[.ref p]/\((SqL X.K H p ys/\∀ l,H l=none->Q (.ref l) (aE H l (.tup ys)))\/(SqT X.K H p ys/\Q (.ref p) H))):=by
 intro a2j s σ H xs us Q I r h
 obtain ⟨p,ys,rfl,h⟩:=h
 obtain ⟨u,rfl,rx⟩:=dC r
 cases rx
 rcases h with ⟨hq,q⟩|⟨hq,q⟩
 ·obtain ⟨its,r',pl,hz⟩:=I.list hq
  have hlen:=r'.length
  refine call_tuple_list pl.isList (fun h' kp=>?_) (by simp only [QZ]<;>omega)
  have I1:Inv X a2j σ H { s with heap:=h' }:=I.kept (t':=s.toks) kp
  have I2:Inv X a2j σ (aE H h'.objs.size (.tup ys)) { s with heap:=h'.push { cls:=.type "tuple",data:=.seq its.toArray } }:=
   I1.laid (t':=s.toks) (fun b o e=>QU _ e) (Q0 _) (show ObjOk X.prog X.w _ _ _ (.tup ys) from ⟨hz,its,r',TupN.new _ _⟩)
  exact ⟨.ref h'.objs.size,_,I2,rfl,q _ (I1.hok.fresh (Q0 _))⟩
 ·obtain ⟨its,r',pl,hz⟩:=I.tuple hq
  exact call_tuple_same pl ⟨.ref p,H,I,rfl,q⟩
noncomputable def pK (K:QH)(T:String)(x:V)(H:Hp):Prop:=match x with
 | .str _=>T = "str"
 | .int _=>T = "int"
 | .ref p=>(T = "list"/\∃ xs,SqL K H p xs)\/(T = "tuple"/\∃ o,K.lookup p=some o/\o.cls=.type "tuple"/\o.dict=none) \/
   (T = "dict"/\((∃ kvs,H p=some (.dK kvs))\/∃ kvs,H p=some (.dT kvs)))\/(T = "set"/\∃ S n,H p=some (.set S n))
 | _=>False
theorem zZ {a2j:List (Addr×Td)}{σ:St}{H:Hp}{s:QM}{T:String}{x:V}{v:QL}(I:Inv X a2j σ H s)(r:RelV x v)(ty:pK X.K T x H) :
  s.TypeIs v T/\∀ a,v=.ref a->∃ ob,s.heap.get? a=some ob/\ob.dict=none:=by
 cases x with
 | str z=>
  obtain ⟨t,rfl⟩:=r
  cases (show T = "str" from ty)
  exact ⟨a0w s z t,fun _ e=>nomatch e⟩
 | int i=>
  obtain ⟨t,rfl⟩:=r
  cases (show T = "int" from ty)
  exact ⟨typeIs_int s i t,fun _ e=>nomatch e⟩
 | ref p=>
  cases r
  rcases ty with ⟨rfl,xs,hq⟩|⟨rfl,o,hk,hc,hd⟩|⟨rfl,hk⟩|⟨rfl,S,n,hk⟩
  ·obtain ⟨its,_,pl,_⟩:=I.list hq
   refine ⟨pl.isList.typeIs,fun a e=>?_⟩
   cases e
   obtain ⟨o,n,e,c,hd,_⟩:=pl
   exact ⟨o,e,hd⟩
  ·refine ⟨⟨o,I.kIn p o hk,hc⟩,fun a e=>?_⟩
   cases e
   exact ⟨o,I.kIn _ o hk,hd⟩
  ·have z:∃ o,s.heap.get? p=some o/\o.ExactDict:=by
    rcases hk with ⟨kvs,hk⟩|⟨kvs,hk⟩
    ·obtain ⟨_,_,_,_,o,_,_,e,ex,_⟩:=I.hok p _ hk
     exact ⟨o,e,ex⟩
    ·obtain ⟨_,_,_,_,o,_,_,e,ex,_⟩:=I.hok p _ hk
     exact ⟨o,e,ex⟩
   obtain ⟨o,e,ex⟩:=z
   refine ⟨⟨o,e,ex.1⟩,fun a e2=>?_⟩
   cases e2
   exact ⟨o,e,ex.2.1⟩
  ·obtain ⟨o,_,_,_,e,ex,_⟩:=I.hok p _ hk
   refine ⟨⟨o,e,ex.1⟩,fun a e2=>?_⟩
   cases e2
   exact ⟨o,e,ex.2.1⟩
 | _=>exact Tv ty
noncomputable def z7 (K:QH)(T:String)(r:V->List V->Hp->VK->Prop)(to:TE):TE:=fun σ H Q=>to σ H fun x H1=>pK K T x H1/\r x [] H1 Q
noncomputable def tB (K:QH)(T:String)(r:V->List V->Hp->VK->Prop)(to:TE)(t:TA):TE:=fun σ H Q=>to σ H fun x H1=>pK K T x H1/\t σ H1 fun xs H2=>r x xs H2 Q
variable {o e:Q1}{es:List Q1}{to:TE}{t:TA}{name:Str}{apos cpos:Ta}{T id:String}{r:V->List V->Hp->VK->Prop}
theorem Hh (pa:PlainAttrs T)(slot:a0F T name id)(hty:Xh (.builtin id)=pure (.type "method_descriptor")) (hm:MtR X id r)(ho:PE X o to)
  (hbase:UH o name X.env (eval o X.env)=eval o X.env:=by rfl)(hline:(apos.endLine == cpos.line)=true:=by rfl):PE X (.Call (.Attribute o name apos) [] [] cpos) (z7 X.K T r to):=by
 intro a2j s σ H Q I h
 refine Wr hbase hline (aJ (ho a2j s σ H _ I h) fun v s1 ⟨x,H1,I1,r1,ty,q1⟩=>?_)
 obtain ⟨h1,h2⟩:=zZ I1 r1 ty
 exact ⟨T,id,pa,slot,hty,h1,h2,Ul rfl (WC (hm a2j s1 σ H1 x [] v [] Q I1 r1 .nil q1))⟩
theorem z8 (pa:PlainAttrs T)(slot:a0F T name id)(hty:Xh (.builtin id)=pure (.type "method_descriptor")) (hm:MtR X id r)(ho:PE X o to)(ha:PA X (e::es) t)
  (hbase:UH o name X.env (eval o X.env)=eval o X.env:=by rfl)
  (hfew:((Uk cpos (RK (e::es) X.env)).all (fun x=>!x.1)&&(YD cpos (WX [] X.env)).all (fun x=>x.1.isSome)
   && decide ((e::es).length+([]:List UY).length+(if ([]:List UY).isEmpty then 0 else 1)<30))=true:=by rfl)
  (hline:(apos.endLine == cpos.line)=true:=by rfl)(hs:RK (e::es) X.env=(false,eval e X.env)::RK es X.env:=by rfl)(hplain:(Uk cpos (RK es X.env)).any (·.1)=false:=by rfl) :
  PE X (.Call (.Attribute o name apos) (e::es) [] cpos) (tB X.K T r to t):=by
 intro a2j s σ H Q I h
 refine Zs hbase hfew hline rfl (aJ (ho a2j s σ H _ I h) fun v s1 ⟨x,H1,I1,r1,ty,q1⟩=>?_)
 obtain ⟨h1,h2⟩:=zZ I1 r1 ty
 refine ⟨T,id,pa,slot,hty,h1,h2,?_⟩
 have hA:=ha cpos a2j s1 σ H1 _ I1 q1
 rw [hs] at hA ⊢
 refine Ul (by show (false||(Uk cpos (RK es X.env)).any (·.1))=false;rw [hplain]<;>rfl) (YM ?_)
 exact aJ hA fun us s2 ⟨vs,H2,I2,r2,q2⟩=>hm a2j s2 σ H2 x vs v us Q I2 r1 r2 q2
end
end L2
namespace L2
open PySem PySem.Spec PyProof.Rows
noncomputable def dD (X:Cx)(id:String)(r:V->List V->Hp->VK->Prop):Prop:=
 ∀ (a2j:List (Addr×Td))(s:QM)(σ:St)(H:Hp)(x:V)(xs:List V)(v:QL)(us:List QL)(Q:VK),Inv X a2j σ H s->RelV x v->Vals xs us->r x xs H Q->
  Ri (Rl X.prog X.w) X.A (call (.builtin id) (v::us)) (EP X a2j σ Q) X.xe s
theorem Vals.one:∀ {x:V}{us:List QL},Vals [x] us->∃ u,us=[u]/\RelV x u
 | _,_,.cons r .nil=>⟨_,rfl,r⟩
theorem Vals.two:∀ {x y:V}{us:List QL},Vals [x,y] us->∃ u v,us=[u,v]/\RelV x u/\RelV y v
 | _,_,_,.cons r (.cons q .nil)=>⟨_,_,rfl,r,q⟩
theorem Vals.zero:∀ {us:List QL},Vals [] us->us=[]
 | _,.nil=>rfl
theorem Vals.dropLast {xs:List V}{us:List QL}(h:Vals xs us):Vals xs.dropLast us.dropLast:=by
 induction h with
 | nil=>exact .nil
 | cons r t ih=>
  cases t with
  | nil=>exact .nil
  | cons q t'=>exact .cons r ih
theorem Vals.reverse {xs:List V}{us:List QL}(h:Vals xs us):Vals xs.reverse us.reverse:=by
 induction h with
 | nil=>exact .nil
 | cons r t ih=>rw [Ux,Ux];exact Vals.append ih (.cons r .nil)
theorem Hi {α:Type}(l:List α):l.eraseIdx (l.length - 1)=l.dropLast:=by
 induction l with
 | nil=>rfl
 | cons a r ih=>
  cases r with
  | nil=>rfl
  | cons b r=>
   have e:(a::b::r).length - 1=((b::r).length - 1)+1:=by
    have h1:(a::b::r).length=r.length+2:=rfl
    have h2:(b::r).length=r.length+1:=rfl
    omega
   rw [e,List.eraseIdx_cons_succ,ih]
   all_goals rfl
section
variable {X:Cx}{a2j:List (Addr×Td)}{σ:St}{H:Hp}{s:QM}{l b:Addr}{xs ys zs:List V}
theorem Inv.lset {its its':List QL}{n:Nat}{f:Array QL->Array QL}{t':Nat}(I:Inv X a2j σ H s)(hH:H l=some (.lst xs))
  (e:s.heap.get? l=some { cls:=.type "list",data:=.seq its.toArray n }) (hf:f its.toArray=its'.toArray)(hv:Vals ys its')(hz:ys.length<=Q6) :
  Inv X a2j σ (aE H l (.lst ys)) { s with heap:=s.heap.update l (RW f),toks:=t' }:=by
 have q:=PySem.IsL.update e f
 rw [hf] at q
 refine I.write (x:=l) (e:=l) (by rw [hH];exact trivial) (.inl rfl) (fun b' u hb hu=>(Sg s.heap (RW f) (Sw hb)).trans hu) ⟨_,q⟩ ?_
 exact ⟨hz,its',_,hv,q⟩
theorem Inv.lnew {its:List QL}{t':Nat}(I:Inv X a2j σ H s)(hv:Vals ys its)(hz:ys.length<=Q6) :
  Inv X a2j σ (aE H s.heap.objs.size (.lst ys)) { s with heap:=s.heap.push { cls:=.type "list",data:=.seq its.toArray },toks:=t' }:=
 I.laid (fun _ _ q=>QU _ q) (Q0 _) ⟨hz,its,0,hv,Rj _ rfl⟩
theorem Inv.fresh (I:Inv X a2j σ H s):H s.heap.objs.size=none:=I.hok.fresh (Q0 _)
theorem Inv.lstM (I:Inv X a2j σ H s)(hH:H l=some (.lst xs)):xs.length<=Q6/\∃ (its:List QL)(n:Nat),Vals xs its/\xs.length=its.length/\s.heap.get? l=some { cls:=.type "list",data:=.seq its.toArray n }:=by
 obtain ⟨z,its,n,r,e⟩:=I.hok l _ hH
 exact ⟨z,its,n,r,r.length,e⟩
end
section
variable {X:Cx}
noncomputable def z9:V->List V->Hp->VK->Prop:=fun x vs H Q=>∃ l xs y,x=.ref l/\vs=[y]/\H l=some (.lst xs)/\xs.length<Q6/\Q .non (aE H l (.lst (xs++[y])))
theorem Aa:dD X "list.append" z9:=by
 intro a2j s σ H x vs v us Q I rx rv h
 obtain ⟨l,xs,y,rfl,rfl,hH,hz,q⟩:=h
 cases rx
 obtain ⟨u,rfl,ru⟩:=rv.one
 obtain ⟨z,its,n,r,hl,e⟩:=I.lstM hH
 refine Xj F.slot_list_append ⟨_,e,rfl⟩ F.entry_list_append (F.args_list_append_2 _ _) (PySem.list_append l its.toArray n u (by rw [QZ];omega)) ⟨e,?_⟩
 refine ⟨.non,_,I.lset (its':=its++[u]) hH e (by simp) (r.append (.cons ru .nil)) ?_,rfl,q⟩
 rw [Q8,YI]
 omega
noncomputable def Ab:V->List V->Hp->VK->Prop:=fun x vs H Q=>∃ l xs y,x=.ref l/\vs=[]/\H l=some (.lst xs)/\xs[xs.length - 1]? = some y/\Q y (aE H l (.lst xs.dropLast))
theorem Hj:dD X "list.pop" Ab:=by
 intro a2j s σ H x vs v us Q I rx rv h
 obtain ⟨l,xs,y,rfl,rfl,hH,hy,q⟩:=h
 cases rx
 have hus:=rv.zero
 subst hus
 obtain ⟨z,its,n,r,hl,e⟩:=I.lstM hH
 obtain ⟨u,hu,ru⟩:=r.get hy
 have hy':its.toArray[its.toArray.size - 1]? = some u:=by
  show its.toArray[its.length - 1]? = some u
  rw [<- Sx,<- hl]
  exact hu
 refine Xj F.slot_list_pop ⟨_,e,rfl⟩ F.entry_list_pop (F.args_list_pop_1 _) (MeetsSeq.list_pop_last l its.toArray n u hy' (by rw [QZ];omega)) ⟨e,?_⟩
 refine ⟨y,_,I.lset (its':=its.dropLast) hH e ?_ r.dropLast ?_,ru,q⟩
 ·show its.toArray.eraseIdxIfInBounds (its.toArray.size - 1)=its.dropLast.toArray
  rw [QZ,List.eraseIdxIfInBounds_toArray,Hi]
 ·rw [List.length_dropLast]
  omega
noncomputable def Ac:V->List V->Hp->VK->Prop:=fun x vs H Q=>∃ l xs,x=.ref l/\vs=[]/\H l=some (.lst xs)/\Q .non (aE H l (.lst xs.reverse))
theorem Hk:dD X "list.reverse" Ac:=by
 intro a2j s σ H x vs v us Q I rx rv h
 obtain ⟨l,xs,rfl,rfl,hH,q⟩:=h
 cases rx
 have hus:=rv.zero
 subst hus
 obtain ⟨z,its,n,r,hl,e⟩:=I.lstM hH
 refine Xj F.slot_list_reverse ⟨_,e,rfl⟩ F.entry_list_reverse (F.args_list_reverse_1 _) (AutoSeq1.list_reverse_list_0 l its.toArray n (by rw [QZ];omega)) ⟨e,?_⟩
 refine ⟨.non,_,I.lset (its':=its.reverse) hH e (by simp) r.reverse ?_,rfl,q⟩
 rw [SF]
 omega
noncomputable def Ad:V->List V->Hp->VK->Prop:=fun x vs H Q=>∃ l xs,x=.ref l/\vs=[]/\H l=some (.lst xs)/\Q .non (aE H l (.lst []))
theorem Hl:dD X "list.clear" Ad:=by
 intro a2j s σ H x vs v us Q I rx rv h
 obtain ⟨l,xs,rfl,rfl,hH,q⟩:=h
 cases rx
 have hus:=rv.zero
 subst hus
 obtain ⟨z,its,n,r,hl,e⟩:=I.lstM hH
 refine Xj F.slot_list_clear ⟨_,e,rfl⟩ F.entry_list_clear (F.args_list_clear_1 _) (AutoSeq1.list_clear_list_0 l its.toArray n (by rw [QZ];omega)) ⟨e,?_⟩
 exact ⟨.non,_,I.lset (its':=[]) (ys:=[]) hH e rfl .nil (Su _),rfl,q⟩
noncomputable def Ae:R2:=fun x y H Q=>∃ l b xs zs,x=.ref l/\y=.ref b/\H l=some (.lst xs)/\H b=some (.lst zs)/\xs.length+zs.length<=Q6/\∀ p,H p=none->Q (.ref p) (aE H p (.lst (xs++zs)))
theorem Hn:OpR X (US .Add) Ae:=by
 intro a2j s σ H x y v u Q I rx ry h
 obtain ⟨l,b,xs,zs,rfl,rfl,hH,hB,hz,q⟩:=h
 cases rx
 cases ry
 obtain ⟨z,its,n,r,hl,e⟩:=I.lstM hH
 obtain ⟨z2,its2,n2,r2,hl2,e2⟩:=I.lstM hB
 refine PySem.P.add_list e e2 ?_ (by rw [QZ,QZ];omega)
 have ea:its.toArray++its2.toArray=(its++its2).toArray:=by simp
 rw [ea]
 exact ⟨.ref _,_,I.lnew (t':=s.toks) (r.append r2) (by rw [Q8];omega),rfl,q _ I.fresh⟩
end
section
variable {prog:Rk}{w:RG}{A:Rw}{E:QL->QM->Prop}{s:QM}
end
section
variable {X:Cx}
end
end L2
namespace Att
open PySem PySem.W PySem.Calls PyProof.Rows
theorem Ho {P:Params}{h:Si}:∀ (ns:List Int)(vs:List QL),WellAll P h vs (ns.map VD)->Uz vs ns:=by
 intro ns
 induction ns with
 | nil=>
  intro vs w
  rw [Vg] at w
  cases w
  exact .nil
 | cons n ns ih=>
  intro vs w
  rw [Ra] at w
  cases w with
  | cons a b=>
   cases a
   exact .cons _ _ (ih _ b)
theorem script_of {l:OpenLaw}{n:Nat}(hn:l.most=some n){P:Params}{h:Si}{args:List WData}{vals:List QL}
  (hpre:l.row.toRowW.claim.pre args=true)(hwl:WellAll P h vals args) :
  ∃ a vs ns,vals=[Q2 a]/\args=[WData.list (ns.map VD)]/\h.get? a=some { cls:=.type "list",data:=.seq vs.toArray }/\Uz vs ns/\ns.length<=n:=by
 have hsh:WShape.hasAll [] args [.list .int]=true:=(pre_splitW hpre).1
 have hc:l.pre.holds [] { args:=args } = true:=(pre_splitW hpre).2
 obtain ⟨d,r,rfl,h1,h2⟩:=hasAllW_cons hsh
 obtain rfl:=hasAllW_nil h2
 obtain ⟨xs,rfl,h3⟩:=hasW_list h1
 obtain ⟨ns,rfl⟩:=items_int h3
 have hlen:ns.length<=n:=by
  unfold OpenLaw.pre at hc
  have h4:(WTm.not (.lt (.lit (.int (n:Int))) (.len (.arg 0)))).holds [] { args:=[.list (ns.map .int)] } = true:=by
   have h4:=(holds_andW hc).1
   rw [hn] at h4
   exact h4
  have h5:=condW_of h4 (w_not (w_lt w_lit (w_len_list (w_arg rfl))))
  rw [QY] at h5
  refine a0d fun q=>?_
  have q':(n:Int)<((ns.length:Nat):Int):=by omega
  first
   | (rw [decide_eq_true q'] at h5;exact absurd h5 (by decide))
   | (simp at h5;omega)
 cases hwl with
 | cons w1 w2=>
  cases w2
  cases w1 with
  | list ho hall=>exact ⟨_,_,ns,rfl,rfl,ho,Ho ns _ hall,hlen⟩
theorem post_true (l:OpenLaw)(args:List WData):l.row.toRowW.claim.post args (.bool true) args=true:=
 postW_of (r:=l.row.toRowW) (X:=(true == true))
  (show a0Q [] (.bool true) .bool=true by first|rfl|decide|simp [a0Q,WShape.arms,WShape.armsAll])
  (show (WTm.eq .res (.lit (.bool true))).value [] { args:=args,res:=some (.bool true),after:=args } = some (.bool (true == true)) from w_eq_bool (w_res rfl) w_lit) rfl
section
variable {prog:Rk}{w:RG}{A:Rw}{E:QL->QM->Prop}{s:QM}{K:Frag}
end
end Att
namespace L2
open PySem PySem.Spec PyProof.Rows
theorem tD:∀ {vs:List QL}{ns:List Int},Uz vs ns->Vals (ns.map V.int) vs
 | _,_,.nil=>.nil
 | _,_,.cons n t h=>.cons ⟨t,rfl⟩ (tD h)
noncomputable def Af (H:Hp):Prop:=∀ b,H b=none\/∃ o xs,H b=some (.frz o (.lst xs))
theorem law_call {P:Rk}{w:RG}{K:QH}{mg mb:Str->Option QL}{CX:fR}{k:Nat}{fa a:Addr}{fd:T3}{x:Str}{sp:Sp}{s₁:QM}{vs:List QL}{ns:List Int}
  (KX:K.In s₁.heap)(hns:s₁.heap.Ns S6 mg)(hb:s₁.heap.Ns a0C mb)(hbb:∀ x:Str,x ≠ "__name__"->mb x=S2 x) (hlim:s₁.heap.NoLimit)(hg:s₁.gens = #[])
  (ha:s₁.heap.get? a=some { cls:=.type "list",data:=.seq vs.toArray }) (hi:Uz vs ns)(hl:ns.length<=Q6)(hr:Room k XH)
  (F:∀ base:Si,K.In base->base.Ns S6 mg->FnOk P w K mg base CX k fa fd [x] sp)(hbind:∀ (s:QM)(u:QL),XS s fd ⟨[u],[]⟩ [(x,u)])
  (hsp:∀ H:Hp,Af H->SqL K H a (ns.map V.int)->sp [.ref a] H (fun v _=>v=.bl true) fun _ _ _=>False)
  (hCX:∀ H e s',CX [] H s₁ (fun _ _ _=>False) e s'->False) :
  Vz (Rl P w) XH (.call (.ref fa) ⟨[.ref a],[]⟩) (fun r s'=>r=.ok (.ret (.bool true))/\OldK s₁.heap s'.heap/\s'.os=s₁.os/\W5 s'.gens) s₁:=by
 have rv:=tD hi
 have lenV:=hi.length
  -- from an abstract heap in which nothing but the script may be tracked
 have core:∀ H:Hp,Af H->SqL K H a (ns.map V.int)->HOk P w H s₁.heap->(∀ b,H b≠none->b=a)->(H a≠none->K.lookup a=none)->
   Vz (Rl P w) XH (.call (.ref fa) ⟨[.ref a],[]⟩) (fun r s'=>r=.ok (.ret (.bool true))/\OldK s₁.heap s'.heap/\s'.os=s₁.os/\W5 s'.gens) s₁:=by
  intro H hO hS hok hA hK
  have iI:∀ {b:Addr}{o:Td},s₁.heap.get? b=some o->H b=none->(gW s₁.heap H).get? b=some o:=fun e n=>EV e n
  have noA:∀ {b:Addr}{o:Td}{es:Array Sj}{ep:Nat},s₁.heap.get? b=some o->o.data=.dict es ep->H b=none:=fun {b o es ep} e d=>by
   cases q:H b with
   | none=>rfl
   | some u=>
    have e':b=a:=hA b (by rw [q];simp)
    subst e'
    rw [ha] at e;cases e
    have d':Data.seq vs.toArray _=a2i es ep:=d
    cases d'
  have nsK:∀ {b:Addr}{m:Str->Option QL},s₁.heap.Ns b m->(gW s₁.heap H).Ns b m:=fun {b m} ⟨o,es,ep,e,d,r⟩=>⟨o,es,ep,iI e (noA e d),d,r⟩
  have hKb:K.In (gW s₁.heap H):=fun b o e=>iI (KX b o e) (by
   cases q:H b with
   | none=>rfl
   | some u=>
    have e':b=a:=hA b (by rw [q];simp)
    subst e'
    rw [hK (by rw [q];simp)] at e;cases e)
  have hM:Mod K mg (gW s₁.heap H):=⟨hKb,nsK hns,⟨mb,nsK hb,hbb⟩,let ⟨mc,h1,h2⟩:=hlim;⟨mc,nsK h1,h2⟩⟩
  have e0:Env0 P w K mg (gW s₁.heap H) XH [] s₁ H:=⟨rfl,hM,fun b o e=>EW e,YF (EU _ _),trivial,fun b hb=>absurd (show b∈([]:List Addr) from hb) (by simp),hok,.of_eq hg⟩
  refine XG ((F _ hKb (nsK hns)).run XH [] s₁ H ⟨[.ref a],[]⟩ [.ref a] [.ref a] _ _ hr e0 (hbind s₁ (.ref a)) (.cons rfl .nil) (hsp H hO hS)) fun r s' h=>?_
  cases r with
  | error e=>exact (hCX H e s' h).elim
  | ok fl=>
   cases fl with
   | next=>exact Tv h
   | brk=>exact Tv h
   | cont=>exact Tv h
   | ret u=>
    obtain ⟨v,H',os,bare,un,hok',r',q⟩:=h
    have q':v=.bl true:=q
    subst q'
    obtain rfl:u=Vp true:=r'
    refine ⟨rfl,OldK.of_keep fun b o e=>?_,os,bare⟩
    cases q:H b with
    | none=>exact un.keep b o e q (by intro z;exact absurd (show b∈([]:List Addr) from z) (by simp)) (by simp)
    | some u=>
     rcases hO b with z|⟨ob,xs,z⟩
     ·rw [q] at z;cases z
     ·have z2:=un.frzs b ob _ z
      obtain ⟨e1,_⟩:=hok b _ z
      obtain ⟨e2,_⟩:=hok' b _ z2
      rw [e] at e1;cases e1
      exact e2
 cases hk:K.lookup a with
 | some o=>
    -- the script is one of the module's own objects
  have e:=KX a o hk
  rw [ha] at e
  cases e
  refine core (fun _=>none) (fun _=>.inl rfl) (.inr ⟨_,vs.toArray,_,hk,rfl,rfl,rfl,by rw [QZ,lenV];exact hl,by simpa using rv⟩) (fun b u z=>by have z':(none:Option HO)=some u:=z;cases z') (fun b z=>absurd rfl z) fun z=>absurd rfl z
 | none=>
  refine core (fun b=>if b=a then some (.frz { cls:=.type "list",data:=.seq vs.toArray } (.lst (ns.map V.int))) else none) (fun b=>?_) (.inl (.inr ⟨{ cls:=.type "list",data:=.seq vs.toArray },if_pos rfl⟩)) (fun b u z=>?_) (fun b z=>?_) fun _=>hk
  ·by_cases hb:b=a
   ·exact .inr ⟨_,_,if_pos hb⟩
   ·exact .inl (if_neg hb)
  ·by_cases hb:b=a
   ·have z':=(if_pos hb).symm.trans z
    cases z'
    subst hb
    exact ⟨ha,by rw [QY];exact hl,vs,_,rv,ha⟩
   ·have z':=(if_neg hb).symm.trans z
    cases z'
  ·by_cases hb:b=a
   ·exact hb
   ·exact absurd (if_neg hb) z
end L2
namespace L2
open PySem PySem.Spec PyProof.Rows
end L2
namespace L2
open PySem PySem.Spec PyProof.Rows
noncomputable def g8 (s:Stmt):Arguments:=match s with
 | .FunctionDef _ a _ _ _ _ _ _ _ _=>a
 | _=>{ posonlyargs:=[],args:=[],vararg:=none,kwonlyargs:=[],kw_defaults:=[],kwarg:=none,defaults:=[] }
noncomputable def eE (s:Stmt):List Stmt:=match s with
 | .FunctionDef _ _ b _ _ _ _ _ _ _=>b
 | _=>[]
noncomputable def bU (s:Stmt):Uo:=match s with
 | .FunctionDef _ _ _ _ _ _ sc _ _ _=>sc
 | _=>{ kind:=.function,names:=[],isGenerator:=false,isCoroutine:=false }
noncomputable abbrev d5:fR:=fun _ _ _ _ _ _=>False
noncomputable abbrev E0:XK:=fun _ _ _=>False
theorem Ag {X:Cx}:o8 d5 X E0:=fun _ _ _ _ _ _ _ h=>h.elim
structure Fun (K:QH)(x qual:Str)(st:Stmt)(f:Addr)(fd:T3):Prop where
 ex:∃ (oc:QL)(od:Option Addr)(kV doc pm:QL)(an:Option Addr)(cdv ct:QL)(osl:Array (Option QL)),
  fd=TX x qual (g8 st) (eE st) (bU st) .none kV doc pm an cdv ct/\K.lookup f=some ⟨oc,od,.func fd,osl⟩/\Wh K cdv qual=true
 kp:Te K (.ref f)=true
section
variable {P:Rk}{w:RG}{K:QH}{mg:Str->Option QL}{base:Si}
theorem Fun.ok {x qual:Str}{st:Stmt}{f:Addr}{fd:T3}{N ps:List Str}{k:Nat}{sp:Sp}(F:Fun K x qual st f fd)(S:FnScope N ps (bU st))(len:∀ vs H Q E,sp vs H Q E->vs.length=ps.length)
  (hbody:∀ (cdv:QL)(A:Rw)(outer:List W3)(s:QM)(H:Hp)(vs:List V)(Q:VK)(E:XK),Room k (A.deeper (envOfC qual (bU st) s.heap.objs.size f cdv))->sp vs H Q E->
   ∃ t,PSs (gY d5 P w K mg base N qual (bU st) f cdv A outer s H E).nox (eE st) t/\t { nx:=fun _ H'=>Q .non H',rt:=Q } (start N vs) H):FnOk P w K mg base d5 (k+1) f fd ps sp:=by
 obtain ⟨oc,od,kV,doc,pm,an,cdv,ct,osl,rfl,lk,hcd⟩:=F.ex
 refine GA lk hcd S len fun A outer s H vs Q E hr hsp=>?_
 obtain ⟨t,h,q⟩:=hbody cdv A outer s H vs Q E hr hsp
 exact ⟨t,h.nox,q⟩
theorem Fun.binds {x qual:Str}{st:Stmt}{f:Addr}{fd:T3}{ps:List Str}(F:Fun K x qual st f fd)
  (h:∀ (kV doc pm:QL)(an:Option Addr)(cdv ct:QL)(us:List QL),us.length=ps.length->YC (TX x qual (g8 st) (eE st) (bU st) .none kV doc pm an cdv ct) ⟨us,[]⟩=pure (ps.zip us)):Binds K fd ps []:=by
 obtain ⟨oc,od,kV,doc,pm,an,cdv,ct,osl,rfl,lk,hcd⟩:=F.ex
 exact .all (h kV doc pm an cdv ct)
theorem Hq {x qual:Str}{st:Stmt}{f:Addr}{oc:QL}{od an:Option Addr}{osl:Array (Option QL)}{kV doc pm cdv ct:QL}(l:K.lookup f=some ⟨oc,od,.func (TX x qual (g8 st) (eE st) (bU st) .none kV doc pm an cdv ct),osl⟩)
  (c:Wh K cdv qual=true)(k:Te K (.ref f)=true):Fun K x qual st f (TX x qual (g8 st) (eE st) (bU st) .none kV doc pm an cdv ct):=⟨⟨oc,od,kV,doc,pm,an,cdv,ct,osl,rfl,l,c⟩,k⟩
end
theorem Ah {A:Rw}{k:Nat}(hr:Room k A):A.units+1<SK:=Nat.lt_of_le_of_lt (Nat.add_le_add_left (by decide:1<=64) _) hr.units
section
variable {X:Cx}
theorem call_lenD:CallR X (.builtin "len") (fun xs H Q=>∃ a kvs,xs=[V.ref a]/\H a=some (.dK kvs)/\Q (.int kvs.length) H):=by
 intro a2j s σ H xs us Q I r h
 obtain ⟨a,kvs,rfl,ha,q⟩:=h
 obtain ⟨u,rfl,ru⟩:=dC r
 cases ru
 exact GH I (.inl ha) fun t s' I'=>⟨.int kvs.length,H,I',⟨t,rfl⟩,q⟩
end
theorem j7 {A B:Prop}(h:B):if false=true then A else B:=by
 rw [if_neg RR]
 exact h
theorem j8 {A B:Prop}(h:A):if true=true then A else B:=by
 rw [if_pos rfl]
 exact h
noncomputable def Same (H H':Hp):Prop:=∀ b o,H b=some o->H' b=some o
theorem Same.trans {H H1 H2:Hp}(a:Same H H1)(b:Same H1 H2):Same H H2:=fun c o h=>b c o (a c o h)
theorem Same.free {H H':Hp}(e:Same H H'){l:Addr}(h:H' l=a0G):H l=a0G:=by
 cases q:H l with
 | none=>rfl
 | some o=>
  rw [e l o q] at h
  cases h
theorem Same.seq {K:QH}{H H':Hp}{a:Addr}{xs:List V}(e:Same H H')(h:SqL K H a xs):SqL K H' a xs:=by
 rcases h with (h|⟨o,h⟩)|h
 ·exact .inl (.inl (e _ _ h))
 ·exact .inl (.inr ⟨o,e _ _ h⟩)
 ·exact .inr h
section
variable {κ:Type} [DecidableEq κ]
end
end L2
namespace Lw
open PySem L2
noncomputable def aP (i:Nat):Stmt:=SV.main.body.getD i (.Pass ⟨0,0,0,0⟩)
noncomputable def Vw:Rk:={ SV with main:={ SV.main with body:=aP 1::aP 2::aP 3::aP 4::aP 5::aP 7::aP 8::aP 9::aP 11::aP 12::aP 13::aP 14::aP 15::aP 16::aP 17::aP 18::aP 19::aP 21::aP 22::aP 23::aP 24::aP 25::aP 26::aP 27::aP 28::aP 29::aP 30::aP 31::aP 32::[] } }
noncomputable abbrev vS (x:String)(n:Nat):QL:=V9 (Wg x) n
noncomputable abbrev vI (i:Int):QL:=VO i 0
noncomputable abbrev vR (a:Addr):QL:=Q2 a
noncomputable abbrev vN:QL:=Sm
noncomputable abbrev kO (x y:String)(a b c:Nat)(l n i j k:Int)(r:Addr)(q:Int)(vs:Array QL)(t l2:Int)(e:Nat):Td:={ cls:=Tu "code",data:=a1n (#[vS x a,vS x b,vS y c,vI l,vI n,vI i,vI j,vI k,vR r,Vp true,vI q]++vs++#[vI t,vI l2,vS y e]) }
noncomputable abbrev tO (fs:Array QL):Td:={ cls:=Tu "tuple",data:=Data.seq fs }
noncomputable abbrev fO (x:Str)(n:Nat)(m:QL)(c:Addr):Td:=⟨Tu "function",none,.func (TX x x (g8 (aP n)) (eE (aP n)) (bU (aP n)) Sm Sm Sm m none (Q2 c) Sm),#[]⟩
noncomputable abbrev eO (P:U7)(x:String)(n:Nat)(v:QL):Sj:={ hash:=PyData.keyHash P (Wg x),key:=V9 (Wg x) n,val:=v }
noncomputable abbrev eR (P:U7)(x:String)(n:Nat)(a:Addr):Sj:=eO P x n (vR a)
noncomputable abbrev kA (p:Addr×Td)(R:QH):QH:=p::R
noncomputable abbrev vM (n:Nat):QL:=[vS "creasecourt.places" 289,vS "creasecourt.sheets" 312,vS "law_creasecourt_k22_sheets_made" 385].getD n vN
noncomputable abbrev kF (x:String)(r a:Nat)(l n:Int)(t i:Nat)(m:QL)(R:QH):QH:=(r+5,kO x "/claim/cut.py" a (a+1) (a+2) l n 0 0 3 r 181 #[vR (r+1),vN,vR (r+2),vR (r+3),vR (r+4)] t l (t+1))::(r+6,fO x i m (r+5))::R
noncomputable abbrev kG (x:String)(r a:Nat)(l n:Int)(t i:Nat)(m:QL)(R:QH):QH:=(r+3,kO x "/claim/cut.py" a (a+1) (a+2) l n 0 0 3 r 181 #[vR (r+1),vN,vN,vN,vR (r+2)] t l (t+1))::(r+4,fO x i m (r+3))::R
noncomputable def Kx:U7 → QH:=fun P=>kA (3,{ cls:=Tu "dict",data:=a2i #[eO P "__name__" 165 (vS "law_creasecourt_k22_sheets_made" 385),eO P "__doc__" 166 vN,eO P "__package__" 167 vN,eO P "__loader__" 168 (a0n "__main__.__loader__#opaque"),eO P "__spec__" 169 vN,eR P "__annotations__" 170 6,eR P "__builtins__" 171 4,eO P "__file__" 173 (vS "/claim/cut.py" 172),eO P "__cached__" 174 vN,eR P "CreaseError" 206 24,eR P "NoSize" 222 37,eR P "NoMark" 238 49,eR P "NoEdge" 263 68,eR P "Twice" 288 87,eR P "is_whole" 297 96,eR P "is_place" 304 103,eR P "is_edge" 311 110,eR P "MARKS" 317 111,eR P "is_size" 324 118,eR P "check_size" 332 125,eR P "is_mark" 339 132,eR P "is_within" 348 139,eR P "is_inner_edge" 357 146,eR P "sheet_of" 369 153,eR P "marks_in" 376 160,eR P "mark_at" 384 167,eR P "_law_draw" 394 174,eR P "_law_kind" 401 181,eR P "_law_int" 408 188,eR P "_law_are" 417 195,eR P "_law_amid" 423 200,eR P "_law_size" 430 207,eR P "_law_line" 438 214,eR P "_law_creases" 444 219,eR P "_law_is_sheet" 450 224,eR P "_law_list" 456 229,eR P "_law_right" 468 236,eR P "law" 486 243] 38 }) <|
 kF "is_whole" 90 291 19 1 295 7 (vM 0) <|
 kF "is_place" 97 298 21 1 302 8 (vM 0) <|
 kF "is_edge" 104 305 23 1 309 9 (vM 0) <|
 kA (111,tO #[vS "h" 314,vS "v" 315,vS "o" 316]) <|
 kF "is_size" 112 318 29 1 322 12 (vM 1) <|
 kF "check_size" 119 325 31 2 330 13 (vM 1) <|
 kF "is_mark" 126 333 34 1 337 14 (vM 1) <|
 kF "is_within" 133 340 36 3 346 15 (vM 1) <|
 kF "is_inner_edge" 140 349 38 3 355 16 (vM 1) <|
 kF "sheet_of" 147 358 40 3 367 17 (vM 1) <|
 kF "marks_in" 154 370 53 1 374 18 (vM 1) <|
 kF "mark_at" 161 377 55 2 382 19 (vM 1) <|
 kF "_law_draw" 168 387 58 2 392 21 (vM 2) <|
 kF "_law_kind" 175 395 60 1 399 22 (vM 2) <|
 kF "_law_int" 182 402 62 1 406 23 (vM 2) <|
 kF "_law_are" 189 409 64 2 415 24 (vM 2) <|
 kG "_law_amid" 196 418 71 3 421 25 (vM 2) <|
 kF "_law_size" 201 424 76 1 428 26 (vM 2) <|
 kF "_law_line" 208 431 78 1 436 27 (vM 2) <|
 kG "_law_creases" 215 439 81 3 442 28 (vM 2) <|
 kG "_law_is_sheet" 220 445 95 2 448 29 (vM 2) <|
 kG "_law_list" 225 451 104 2 454 30 (vM 2) <|
 kF "_law_right" 230 457 111 4 466 31 (vM 2) <|
 kF "law" 237 469 121 1 484 32 (vM 2) <| []
noncomputable def As:List Addr:=[3,95,96,102,103,109,110,111,117,118,124,125,131,132,138,139,145,146,152,153,159,160,166,167,173,174,180,181,187,188,194,195,199,200,206,207,213,214,218,219,223,224,228,229,235,236,242,243]
theorem nI:∀ P,As=(Kx P).map (·.1):=fun _=>by kernel_rfl
open PySem.W PyProof.Rows in
theorem run:LeftO (Yr SU).prog Vw [] (fun s=>xlAt Vw [] s&&recOk (a0S (ZI (Yr SU))) s) (Hook.obs (a2d Kx As nI)) (Hook.val (a2d Kx As nI)) 3800:=fun w=>by kernel_rfl
end Lw
set_option maxHeartbeats 4000000
namespace L3
open PySem
open PySem.SetTable (Probe Met Slot bits runEnd leap turns insertAt sizeAbove)
namespace Tb
noncomputable def j9 (m:Nat)(p:Probe):Probe:=
 if p.more>0 then { p with j:=p.j+1,more:=p.more - 1 } else
 { p with j:=(leap m p.i p.perturb).1,more:=runEnd m (leap m p.i p.perturb).1 - (leap m p.i p.perturb).1,i:=(leap m p.i p.perturb).1,perturb:=(leap m p.i p.perturb).2 }
noncomputable def Hr (m:Nat)(b:Nat):Probe:={ j:=b % (m+1),more:=runEnd m (b % (m+1)) - b % (m+1),i:=b % (m+1),perturb:=b,dummy:=none }
noncomputable def bO (m b:Nat):Nat->Probe
 | 0=>Hr m b
 | k+1=>j9 m (bO m b k)
noncomputable def lp (m b:Nat):Nat->Nat×Nat
 | 0=>(b % (m+1),b)
 | n+1=>leap m (lp m b n).1 (lp m b n).2
noncomputable def hd (m i q:Nat):Probe:={ j:=i,more:=runEnd m i - i,i:=i,perturb:=q,dummy:=none }
theorem nJ {m b k i q:Nat}(h:bO m b k=hd m i q):∀ r,r<=runEnd m i - i->bO m b (k+r) = { j:=i+r,more:=runEnd m i - i - r,i:=i,perturb:=q,dummy:=none }
 | 0,_=>by rw [YG,h];rfl
 | r+1,hr=>by
  have e:=nJ h r (by omega)
  show j9 m (bO m b (k+r))=_
  rw [e]
  unfold j9
  rw [if_pos (show runEnd m i - i - r>0 by omega)]
  show Probe.mk (i+r+1) (runEnd m i - i - r - 1) i q none=_
  rw [Ys,Nat.sub_sub]
theorem Hs {m b k i q:Nat}(h:bO m b k=hd m i q):bO m b (k+(runEnd m i - i)+1)=hd m (leap m i q).1 (leap m i q).2:=by
 have e:=nJ h (runEnd m i - i) (Q0 _)
 show j9 m (bO m b (k+(runEnd m i - i)))=_
 rw [e]
 unfold j9
 rw [if_neg (show ¬ (runEnd m i - i - (runEnd m i - i)>0) by omega)]
 rfl
noncomputable def nx (m i:Nat):Nat:=(i * 5+1) % (m+1)
noncomputable def Ai (m:Nat):Nat->Nat->Nat
 | 0,i=>i
 | n+1,i=>Ai m n (nx m i)
noncomputable def lF (m:Nat):Nat->Nat->Nat->Nat
 | 0,_,acc=>acc
 | f+1,i,acc=>lF m f (nx m i) (acc ||| (1 <<< i))
noncomputable def Aj (m:Nat):Bool:=lF m (m+1) 0 0 == 2 ^ (m+1) - 1&&Ai m (m+1) 0 == 0
theorem Ht (m b:Nat):∀ n,(lp m b n).1<=m
 | 0=>ZS (a2g _ (Xa _))
 | n+1=>ZS (a2g _ (Xa _))
noncomputable def tE (m:Nat)(S:List Nat)(b j:Nat):Prop:=∃ k,(bO m b k).j=j/\∀ k',k'<k->(bO m b k').j∈S
theorem tF {xs:Array Nat}{j:Nat}(hr:∀ a b,a<b->b<xs.size->xs.getD a 0<xs.getD b 0):∀ (f lo hi:Nat),hi - lo<=f->lo<=hi->hi<=xs.size->(∀ i,i<lo->xs.getD i 0<j)->(∀ i,hi<=i->i<xs.size->j<=xs.getD i 0)->
  VB xs j f lo hi<=xs.size/\(∀ i,i<VB xs j f lo hi->xs.getD i 0<j)/\∀ i,VB xs j f lo hi<=i->i<xs.size->j<=xs.getD i 0
 | 0,lo,hi,hf,h1,h2,a,b=>by
  have e:lo=hi:=by omega
  show lo<=xs.size/\(∀ i,i<lo->_)/\∀ i,lo<=i->_
  exact ⟨by omega,a,by rw [e];exact b⟩
 | f+1,lo,hi,hf,h1,h2,a,b=>by
  unfold VB
  by_cases q:lo<hi
  ·rw [if_pos q]
   dsimp only
   have hm:(lo+hi) / 2<xs.size:=by omega
   have e:xs.getD ((lo+hi) / 2) j=xs.getD ((lo+hi) / 2) 0:=by simp [Ua,hm]
   rw [e]
   by_cases c:xs.getD ((lo+hi) / 2) 0<j
   ·rw [if_pos c]
    refine tF hr f _ _ (by omega) (by omega) h2 (fun i hi'=>?_) b
    rcases Uq i ((lo+hi) / 2) with z|z
    ·exact Vm (hr _ _ z hm) c
    ·have:i=(lo+hi) / 2:=by omega
     rw [this];exact c
   ·rw [if_neg c]
    refine tF hr f _ _ (by omega) (by omega) (by omega) a fun i hi' hs=>?_
    rcases Uq ((lo+hi) / 2) i with z|z
    ·have:=hr _ _ z hs;omega
    ·have:i=(lo+hi) / 2:=by omega
     rw [this];omega
  ·rw [if_neg q]
   exact ⟨by omega,a,fun i h hs=>b i (by omega) hs⟩
theorem Ak {xs:Array Nat}(h:xs.toList.Pairwise (·<·)):∀ a b,a<b->b<xs.size->xs.getD a 0<xs.getD b 0:=fun a b hab hb=>by
 have:=RB.mp h a b (by simpa using Vm hab hb) (by simpa using hb) hab
 simpa [Ua,hb,Vm hab hb] using this
theorem Hu {xs:Array Nat}(h:xs.toList.Pairwise (·<·))(j:Nat):VH xs j<=xs.size/\(∀ i,i<VH xs j->xs.getD i 0<j)/\∀ i,VH xs j<=i->i<xs.size->j<=xs.getD i 0:=
 tF (Ak h) _ _ _ (by omega) (by omega) (Q0 _) (fun i z=>absurd z (VM _)) fun i z z2=>by omega
noncomputable abbrev lG:=Nat×Int×QL
structure Ok (t:Wt)(R:List lG):Prop where
 place:t.place.toList=R.map (·.1)
 dum:t.dummies = #[]
 rise:(R.map (·.1)).Pairwise (·<·)
 le:∀ r∈R,r.1<=t.mask
 cov:Aj t.mask=true
 odd:t.mask % 2=1
 room:R.length<=t.mask
 road:∀ r∈R,tE t.mask (R.map (·.1)) (bits r.2.1) r.1
section
variable {t:Wt}{R:List lG}
theorem Ok.size (o:Ok t R):t.place.size=R.length:=by
 have:=congrArg RN o.place
 simpa using this
theorem Ok.uniq (o:Ok t R){r r':lG}(h:r∈R)(h':r'∈R)(e:r.1=r'.1):r=r':=by
 have p:=SQ.mp o.rise
 obtain ⟨i,hi,e1⟩:=TK h
 obtain ⟨k,hk,e2⟩:=TK h'
 rcases UA i k with z|z|z
 ·have:=RB.mp p i k hi hk z
  rw [e1,e2] at this;omega
 ·subst z;rw [<- e1,<- e2]
 ·have:=RB.mp p k i hk hi z
  rw [e1,e2] at this;omega
theorem Ok.getD (o:Ok t R){i:Nat}(hi:i<R.length):t.place.getD i 0=(R[i]).1:=by
 have h:t.place.toList[i]? = (R.map (·.1))[i]?:=by rw [o.place]
 have hs:i<t.place.size:=by rw [o.size];exact hi
 simp [hi,hs] at h
 simp [Ua,hs,h]
theorem Ok.sorted (o:Ok t R):t.place.toList.Pairwise (·<·):=by rw [o.place];exact o.rise
theorem Hv (j:Nat):ZP #[] j=false:=by
 unfold ZP
 simp
theorem Ok.live (o:Ok t R){j:Nat}(h:j∈R.map (·.1)):∃ i r,t.slot j=.live i/\R[i]? = some r/\r.1=j:=by
 obtain ⟨r,hr,e⟩:=RE.mp h
 obtain ⟨i,hi,ei⟩:=TK hr
 have b:=Hu o.sorted j
 have hp:t.place.getD i 0=j:=by rw [o.getD hi,ei];exact e
 have hs:i<t.place.size:=by rw [o.size];exact hi
 have e2:VH t.place j=i:=by
  rcases UA (VH t.place j) i with z|z|z
  ·have h1:=b.2.2 _ (Q0 _) (by omega)
   have h2:=Ak o.sorted _ _ z hs
   omega
  ·exact z
  ·have:=b.2.1 i z;omega
 refine ⟨i,r,?_,by rw [<- ei];exact QV hi,e⟩
 unfold Zx
 dsimp only
 rw [e2,if_pos]
 have:t.place[i]? = some j:=by
  rw [UQ hs]
  simpa [Ua,hs] using hp
 rw [this]
 exact beq_self_eq_true _
theorem Ok.empty (o:Ok t R){j:Nat}(h:j∉R.map (·.1)):t.slot j=.empty:=by
 unfold Zx
 dsimp only
 rw [if_neg,o.dum,Hv]
 ·rfl
 ·intro q
  rw [beq_iff_eq] at q
  apply h
  rw [<- o.place]
  exact Array.mem_toList_iff.mpr (Array.mem_of_getElem? q)
theorem Al (m b:Nat):∀ k,(bO m b k).dummy=none
 | 0=>rfl
 | k+1=>by
  show (j9 m (bO m b k)).dummy=none
  unfold j9
  split<;>exact Al m b k
theorem Ok.go (o:Ok t R)(X6:Nat->Int)(hh:∀ i r,R[i]? = some r->X6 i=r.2.1){h:Int}{K:Nat}(hK:(bO t.mask (bits h) K).j∉R.map (·.1))(hT:∀ k',k'<K->(bO t.mask (bits h) k').j∈R.map (·.1)) :
  ∀ (f k:Nat),k<=K->K<k+f->
   (VA t X6 h f (bO t.mask (bits h) k)=some (.empty (bO t.mask (bits h) K).j none)/\∀ k' r,k<=k'->k'<K->r∈R->r.1=(bO t.mask (bits h) k').j->r.2.1≠h) \/
   ∃ k' i r,k<=k'/\k'<K/\R[i]? = some r/\r.1=(bO t.mask (bits h) k').j/\r.2.1=h/\VA t X6 h f (bO t.mask (bits h) k)=some (.candidate (bO t.mask (bits h) k').j i (bO t.mask (bits h) (k'+1))) /\
    ∀ k'' r',k<=k''->k''<k'->r'∈R->r'.1=(bO t.mask (bits h) k'').j->r'.2.1≠h
 | 0,k,h1,h2=>by omega
 | f+1,k,h1,h2=>by
  rcases Uq k K with z|z
  ·obtain ⟨i,r,e,er,ej⟩:=o.live (hT k z)
   have eg:VA t X6 h (f+1) (bO t.mask (bits h) k)=if X6 i == h then some (.candidate (bO t.mask (bits h) k).j i (bO t.mask (bits h) (k+1))) else VA t X6 h f (bO t.mask (bits h) (k+1)):=by
    show (match t.slot (bO t.mask (bits h) k).j with|.empty=>_|.dummy=>_|.live i=>_)=_
    rw [e]
    rfl
   rw [eg,hh i r er]
   have hrm:r∈R:=Rz er
   by_cases q:r.2.1=h
   ·refine .inr ⟨k,i,r,Q0 _,z,er,ej,q,?_,fun k'' r' a b=>by omega⟩
    rw [q,if_pos (beq_self_eq_true _)]
   ·rw [if_neg (by simpa using q)]
    have here:∀ r',r'∈R->r'.1=(bO t.mask (bits h) k).j->r'.2.1≠h:=fun r' hr' e'=>by
     rw [o.uniq hr' hrm (e'.trans ej.symm)];exact q
    rcases Ok.go o X6 hh hK hT f (k+1) z (by omega) with ⟨a,b⟩|⟨k',i',r',a1,a2,a3,a4,a5,a6,a7⟩
    ·refine .inl ⟨a,fun k' r' c1 c2 hr' e'=>?_⟩
     rcases Uq k k' with y|y
     ·exact b k' r' y c2 hr' e'
     ·have:k'=k:=by omega
      subst this;exact here r' hr' e'
    ·refine .inr ⟨k',i',r',by omega,a2,a3,a4,a5,a6,fun k'' r'' c1 c2 hr' e'=>?_⟩
     rcases Uq k k'' with y|y
     ·exact a7 k'' r'' y c2 hr' e'
     ·have:k''=k:=by omega
      subst this;exact here r'' hr' e'
  ·have:k=K:=by omega
   subst this
   refine .inl ⟨?_,fun k' r a b=>by omega⟩
   show (match t.slot (bO t.mask (bits h) k).j with|.empty=>_|.dummy=>_|.live i=>_)=_
   rw [o.empty hK]
   show some (Met.empty _ (bO t.mask (bits h) k).dummy)=_
   rw [Al]
end
noncomputable def lv (m:Nat)(ow:Array (Option Nat)):List (Nat×Nat):=(Se (m+1)).filterMap fun j=>(ow.getD j none).map (j,·)
theorem mem_lv {m:Nat}{ow:Array (Option Nat)}{j i:Nat}:(j,i)∈lv m ow↔j<=m/\ow.getD j none=some i:=by
 unfold lv
 rw [WT]
 constructor
 ·rintro ⟨a,ha,e⟩
  rw [QR] at e
  obtain ⟨b,e1,e2⟩:=e
  cases e2
  exact ⟨by simpa [a0r] using ha,e1⟩
 ·rintro ⟨h1,h2⟩
  exact ⟨j,by simpa [a0r] using h1,by rw [h2];rfl⟩
structure Ow (m:Nat)(ds:List Int)(ow:Array (Option Nat)):Prop where
 size:ow.size=m+1
 lt:∀ j i,ow.getD j none=some i->i<ds.length
 all:∀ i,i<ds.length->∃ j,ow.getD j none=some i
 inj:∀ j j' i,ow.getD j none=some i->ow.getD j' none=some i->j=j'
 road:∀ j i,ow.getD j none=some i->tE m ((lv m ow).map (·.1)) (bits (ds.getD i 0)) j
section
variable {m:Nat}{ds:List Int}{ow:Array (Option Nat)}
theorem Ow.le (o:Ow m ds ow){j i:Nat}(h:ow.getD j none=some i):j<=m:=by
 rcases Uq j ow.size with z|z
 ·rw [o.size] at z;omega
 ·simp [Ua,Up.mpr z] at h
theorem Ow.taken (o:Ow m ds ow){j:Nat}(hj:j<=m):j∈(lv m ow).map (·.1)↔(ow.getD j (some 0)).isNone=false:=by
 have hs:j<ow.size:=by rw [o.size];omega
 have e:ow.getD j (some 0)=ow.getD j none:=by simp [Ua,hs]
 rw [e]
 constructor
 ·intro q
  obtain ⟨⟨a,i⟩,q2,rfl⟩:=RE.mp q
  rw [(mem_lv.mp q2).2];rfl
 ·intro q
  cases z:ow.getD j none with
  | none=>rw [z] at q;cases q
  | some i=>exact RE.mpr ⟨(j,i),mem_lv.mpr ⟨hj,z⟩,rfl⟩
theorem Ow.free (o:Ow m ds ow){b:Nat}:∀ (f n k0:Nat),bO m b k0=hd m (lp m b n).1 (lp m b n).2->(∀ k',k'<k0->(bO m b k').j∈(lv m ow).map (·.1))->(∃ N,n<=N/\N<n+f/\(lp m b N).1∉(lv m ow).map (·.1))->
  ∃ j,WN m ow f (lp m b n).1 (lp m b n).2=some j/\j<=m/\j∉(lv m ow).map (·.1)/\tE m ((lv m ow).map (·.1)) b j
 | 0,n,k0,_,_,⟨N,h1,h2,_⟩=>by omega
 | f+1,n,k0,hk,ht,⟨N,h1,h2,hN⟩=>by
  have hi:=Ht m b n
  have hre:runEnd m (lp m b n).1<=m:=by unfold runEnd;split<;>omega
  have hri:(lp m b n).1<=runEnd m (lp m b n).1:=by unfold runEnd;split<;>omega
  unfold WN
  cases z:(Se (runEnd m (lp m b n).1+1 - (lp m b n).1)).find? fun k=>(ow.getD ((lp m b n).1+k) (some 0)).isNone with
  | some r=>
   rw [List.find?_range_eq_some] at z
   obtain ⟨z1,z2,z3⟩:=z
   rw [Ss] at z2
   refine ⟨(lp m b n).1+r,rfl,by omega,fun q=>?_,k0+r,by rw [nJ hk r (by omega)],fun k' hk'=>?_⟩
   ·rw [o.taken (by omega)] at q
    rw [q] at z1;cases z1
   ·rcases Uq k' k0 with y|y
    ·exact ht k' y
    ·obtain ⟨d,rfl⟩:=Yw y
     rw [nJ hk d (by omega)]
     show (lp m b n).1+d∈_
     rw [o.taken (by omega)]
     have:=z3 d (by omega)
     simpa using this
  | none=>
   rw [List.find?_range_eq_none] at z
   have tk:∀ r,r<runEnd m (lp m b n).1+1 - (lp m b n).1->(lp m b n).1+r∈(lv m ow).map (·.1):=fun r hr=>by
    rw [o.taken (by omega)]
    have:=z r hr
    simpa using this
   have ne:N≠n:=fun e=>hN (by rw [e];exact tk 0 (by omega))
   refine Ow.free o f (n+1) _ (Hs hk) (fun k' hk'=>?_) ⟨N,by omega,by omega,hN⟩
   rcases Uq k' k0 with y|y
   ·exact ht k' y
   ·obtain ⟨d,rfl⟩:=Yw y
    rw [nJ hk d (by omega)]
    exact tk d (by omega)
end
theorem Ow.nil (m:Nat):Ow m [] (Xq (m+1) none):=by
 have e:∀ j,(Xq (m+1) (none:Option Nat)).getD j none=none:=fun j=>by
  simp [Ua]
 have no:∀ {P:Prop}(j i:Nat),(Xq (m+1) (none:Option Nat)).getD j none=some i->P:=fun j i h=>by
  rw [e] at h;exact nomatch h
 exact ⟨by simp,fun j i h=>no j i h,fun i h=>absurd h (VM _),fun j j' i h _=>no j i h,fun j i h=>no j i h⟩
end Tb
end L3
namespace L3
open PySem
open PySem.SetTable (Probe Met Slot bits runEnd leap turns insertAt sizeAbove)
namespace Tb
section
variable {prog:Rk}{w:RG}{K:Type} [DecidableEq K] {knd:KeyKind prog w K}{A:Rw}{E:QL->QM->Prop}{s:QM}
theorem fits_of {t:Wt}{R:List lG}{es:Array (Int×QL)}(o:Ok t R)(he:es.toList=R.map (·.2)):t.fits es.size=true:=by
 have h1:es.size=R.length:=by simpa using congrArg RN he
 have h2:=o.room
 unfold SetTable.fits SetTable.fill
 rw [o.size,h1,o.dum]
 simp;exact h2
end
section
variable {prog:Rk}{w:RG}{A:Rw}{E:QL->QM->Prop}{s:QM}
noncomputable abbrev El:=List Int×Addr
noncomputable def hashT (k:List Int):Int:=reduceHash (a1o (k.map hashInt))
noncomputable def Hw (p:El):Int×QL:=(hashT p.1,Q2 p.2)
noncomputable def Msk (m:Nat):Prop:=m=7\/m=31\/m=127\/m=511
theorem Msk.cov {m:Nat}(h:Msk m):Aj m=true:=by
 rcases h with rfl|rfl|rfl|rfl<;>decide +kernel
theorem Msk.odd {m:Nat}(h:Msk m):m % 2=1:=by
 rcases h with rfl|rfl|rfl|rfl<;>rfl
noncomputable def tG (w:RG):Bool:=w.params.followText "set-order"
noncomputable def Am (led:Bool)(L:List El)(o:Td):Prop:=∃ es ep t R,o.ExactSet/\o.data=.set es ep t/\es.toList=R.map (·.2)/\Ok t R/\es.toList.Perm (L.map Hw)/\(L.map (·.1)).Nodup/\Msk t.mask/\L.length * 5<t.mask * 3/\t.plain=true/\t.led=led
noncomputable def SObj (L:List El)(o:Td):Prop:=∃ led,Am led L o
noncomputable def yP (prog:Rk)(w:RG)(h:Si)(a:Addr)(L:List El):Prop:=∃ o,h.get? a=some o/\Am (!tG w) L o/\∀ p∈L,IsTupleKey (Tt prog w) h p.1 p.2
end
end Tb
end L3
namespace L3
open PySem
namespace Tb
noncomputable def Hx (w:RG)(t:Wt):Nat->Nat
 | 0=>0
 | i+1=>if tG w then 0 else t.place.getD i 0+1
section
variable {prog:Rk}{w:RG}{A:Rw}{E:QL->QM->Prop}{s:QM}
noncomputable def SIt (w:RG)(h:Si)(I a:Addr)(t:Wt)(i n ep:Nat):Prop:=∃ o,h.get? I=some o/\o.cls=.type "set_iterator"/\o.data=.fields #[Vh (Hx w t i),Vh i,.ref a,Vh n,Vh ep]
theorem SIt.ty {I a:Addr}{t:Wt}{i n ep:Nat}(x:SIt w s.heap I a t i n ep):s.TypeIs (.ref I) "set_iterator":=let ⟨o,ho,hc,_⟩:=x;⟨o,ho,hc⟩
structure SAt (w:RG)(h:Si)(a:Addr)(es:Array (Int×QL))(ep:Nat)(t:Wt)(R:List lG):Prop where
 at_:∃ o,h.get? a=some o/\o.cls=.type "set"/\o.data=.set es ep t
 he:es.toList=R.map (·.2)
 ok:Ok t R
 pl:t.plain=true
 led:t.led = !tG w
theorem SAt.ty {a:Addr}{es:Array (Int×QL)}{ep:Nat}{t:Wt}{R:List lG}(x:SAt w s.heap a es ep t R):s.TypeIs (.ref a) "set":=let ⟨o,ho,hc,_⟩:=x.at_;⟨o,ho,hc⟩
end
end Tb
end L3
namespace L3
open PySem L2
inductive D where
 | non|bl (b:Bool)|int (i:Int)|str (x:Str)|tup (xs:List D)|rol (xs:List D)|loc (a:Nat)|ty (n:String)
 deriving Inhabited
inductive C where
 | lst (xs:List D)
 | dK (kvs:List (aD×D))
 | st (ks:List (List Int))
 | dT (kvs:List (List Int×D))
 | dF (kvs:List (List Int×D))
 deriving Inhabited
noncomputable abbrev Hm:=List C
noncomputable abbrev aG:=List (Option D)
noncomputable abbrev ME:=aG->Hm->Option (D×Hm)
noncomputable abbrev MT:=aG->Hm->Option (Bool×Hm)
noncomputable abbrev MA:=aG->Hm->Option (List D×Hm)
inductive Fl where
 | nx|rt (d:D)|bk|ct
noncomputable abbrev MS:=aG->Hm->Option (Fl×aG×Hm)
noncomputable abbrev MF:=List D->Hm->Option (D×Hm)
noncomputable def RoL (K:QH)(H:Hp)(p:Addr)(xs:List V):Prop:=
 (∃ o,H p=some (.frz o (.lst xs))) \/
  ∃ (o:Td)(its:Array QL)(n:Nat),K.lookup p=some o/\o.cls=.type "list"/\o.dict=none/\o.data=.seq its n/\its.size<=Q6/\Vals xs its.toList
theorem RoL.sq {K:QH}{H:Hp}{p:Addr}{xs:List V}(h:RoL K H p xs):SqL K H p xs:=by
 rcases h with ⟨o,h⟩|h
 ·exact .inl (.inr ⟨o,h⟩)
 ·exact .inr h
mutual
inductive IsD (K:QH)(π:Nat->Addr)(n:Nat)(H:Hp):V->D->Prop where
 | non:IsD K π n H .non .non
 | bl (b:Bool):IsD K π n H (.bl b) (.bl b)
 | int (i:Int):IsD K π n H (.int i) (.int i)
 | str (x:Str):IsD K π n H (.str x) (.str x)
 | tup {p:Addr}{vs:List V}{ds:List D}(h:SqT K H p vs)(t:IsDs K π n H vs ds):IsD K π n H (.ref p) (.tup ds)
 | rol {p:Addr}{vs:List V}{ds:List D}(h:RoL K H p vs)(t:IsDs K π n H vs ds):IsD K π n H (.ref p) (.rol ds)
 | loc {a:Nat}(h:a<n):IsD K π n H (.ref (π a)) (.loc a)
 | ty (x:String):IsD K π n H (.ty x) (.ty x)
inductive IsDs (K:QH)(π:Nat->Addr)(n:Nat)(H:Hp):List V->List D->Prop where
 | nil:IsDs K π n H [] []
 | cons {v:V}{d:D}{vs:List V}{ds:List D}(h:IsD K π n H v d)(t:IsDs K π n H vs ds):IsDs K π n H (v::vs) (d::ds)
end
structure Ext (π:Nat->Addr)(n:Nat)(H:Hp)(π':Nat->Addr)(n':Nat)(H':Hp):Prop where
 le:n<=n'
 pi:∀ a,a<n->π' a=π a
 tup:∀ p vs,H p=some (.tup vs)->H' p=some (.tup vs)
 frz:∀ p o u,H p=some (.frz o u)->H' p=some (.frz o u)
structure Ext0 (π:Nat->Addr)(n:Nat)(H:Hp)(π':Nat->Addr)(n':Nat)(H':Hp):Prop where
 le:n<=n'
 pi:∀ a,a<n->π' a=π a
 tup:∀ p vs,H p=some (.tup vs)->H' p=some (.tup vs)
 frz:∀ p o u,(∀ φ,u≠HO.ext φ)->H p=some (.frz o u)->H' p=some (.frz o u)
section
variable {K:QH}{π π' π2:Nat->Addr}{n n' n2:Nat}{H H' H2:Hp}
theorem Ext.weak (e:Ext π n H π' n' H'):Ext0 π n H π' n' H':=⟨e.le,e.pi,e.tup,fun p o u _ h=>e.frz p o u h⟩
theorem Ext.refl:Ext π n H π n H:=⟨Q0 _,fun _ _=>rfl,fun _ _ h=>h,fun _ _ _ h=>h⟩
theorem Ext.trans (a:Ext π n H π' n' H')(b:Ext π' n' H' π2 n2 H2):Ext π n H π2 n2 H2:=
 ⟨SR a.le b.le,fun i h=>(b.pi i (RF h a.le)).trans (a.pi i h),fun p vs h=>b.tup p vs (a.tup p vs h),fun p o u h=>b.frz p o u (a.frz p o u h)⟩
theorem Ext0.sqT (e:Ext0 π n H π' n' H'){p:Addr}{vs:List V}(h:SqT K H p vs):SqT K H' p vs:=by
 rcases h with h|h
 ·rcases h with h|⟨o,h⟩
  ·exact .inl (.inl (e.tup _ _ h))
  ·exact .inl (.inr ⟨o,e.frz _ _ _ (fun _ z=>nomatch z) h⟩)
 ·exact .inr h
theorem Ext.sqT (e:Ext π n H π' n' H'){p:Addr}{vs:List V}(h:SqT K H p vs):SqT K H' p vs:=e.weak.sqT h
theorem Ext0.roL (e:Ext0 π n H π' n' H'){p:Addr}{vs:List V}(h:RoL K H p vs):RoL K H' p vs:=by
 rcases h with ⟨o,h⟩|h
 ·exact .inl ⟨o,e.frz _ _ _ (fun _ z=>nomatch z) h⟩
 ·exact .inr h
theorem Ext.roL (e:Ext π n H π' n' H'){p:Addr}{vs:List V}(h:RoL K H p vs):RoL K H' p vs:=e.weak.roL h
mutual
theorem IsD.mono0 {v:V}{d:D}(e:Ext0 π n H π' n' H'):IsD K π n H v d->IsD K π' n' H' v d
 | .non=>.non
 | .bl b=>.bl b
 | .int i=>.int i
 | .str x=>.str x
 | .ty x=>.ty x
 | .tup h t=>.tup (e.sqT h) (IsDs.mono0 e t)
 | .rol h t=>.rol (e.roL h) (IsDs.mono0 e t)
 | .loc h=>by
  rw [<- e.pi _ h]
  exact .loc (RF h e.le)
theorem IsDs.mono0 {vs:List V}{ds:List D}(e:Ext0 π n H π' n' H'):IsDs K π n H vs ds->IsDs K π' n' H' vs ds
 | .nil=>.nil
 | .cons h t=>.cons (IsD.mono0 e h) (IsDs.mono0 e t)
end
theorem IsD.mono {v:V}{d:D}(e:Ext π n H π' n' H')(h:IsD K π n H v d):IsD K π' n' H' v d:=h.mono0 e.weak
theorem IsDs.mono {vs:List V}{ds:List D}(e:Ext π n H π' n' H')(h:IsDs K π n H vs ds):IsDs K π' n' H' vs ds:=h.mono0 e.weak
theorem IsDs.length {vs:List V}{ds:List D}(h:IsDs K π n H vs ds):vs.length=ds.length:=by
 induction ds generalizing vs with
 | nil=>cases h;rfl
 | cons d ds ih=>
  cases h with
  | cons h t=>rw [Rq,Rq,ih t]
theorem IsDs.get {vs:List V}{ds:List D}(h:IsDs K π n H vs ds){i:Nat}{d:D}(e:ds[i]? = some d):∃ v,vs[i]? = some v/\IsD K π n H v d:=by
 induction ds generalizing vs i with
 | nil=>simp at e
 | cons d' ds ih=>
  cases h with
  | cons h t=>
   cases i with
   | zero=>
    simp at e
    subst e
    exact ⟨_,rfl,h⟩
   | succ i=>
    obtain ⟨v,h1,h2⟩:=ih t (by simpa using e)
    exact ⟨v,by simpa using h1,h2⟩
theorem IsDs.append {vs ws:List V}{ds es:List D}(h:IsDs K π n H vs ds)(h2:IsDs K π n H ws es):IsDs K π n H (vs++ws) (ds++es):=by
 induction ds generalizing vs with
 | nil=>cases h;exact h2
 | cons d ds ih=>
  cases h with
  | cons h t=>exact .cons h (ih t)
theorem IsDs.drop {vs:List V}{ds:List D}(h:IsDs K π n H vs ds)(k:Nat):IsDs K π n H (vs.drop k) (ds.drop k):=by
 induction ds generalizing vs k with
 | nil=>cases h;simpa using IsDs.nil
 | cons d ds ih=>
  cases h with
  | cons h t=>
   cases k with
   | zero=>exact .cons h t
   | succ k=>exact ih t k
theorem IsDs.take {vs:List V}{ds:List D}(h:IsDs K π n H vs ds)(k:Nat):IsDs K π n H (vs.take k) (ds.take k):=by
 induction ds generalizing vs k with
 | nil=>cases h;simpa using IsDs.nil
 | cons d ds ih=>
  cases h with
  | cons h t=>
   cases k with
   | zero=>exact .nil
   | succ k=>exact .cons h (ih t k)
theorem IsDs.atI {vs:List V}{ds:List D}(h:IsDs K π n H vs ds){i:Int}{d:D}(e:L2.atI ds i=some d):∃ v,L2.atI vs i=some v/\IsD K π n H v d:=by
 unfold L2.atI at e ⊢
 rw [h.length]
 cases q:g7 ds.length i with
 | none=>rw [q] at e;cases e
 | some j=>
  rw [q] at e
  exact h.get e
end
noncomputable def pL (p:Addr)(L:List Tb.El):HO:=.ext fun h=>∃ o,h.get? p=some o/\Tb.SObj L o
noncomputable def tH (p:List Int×Addr×V)(w:QL):Sj:=⟨Tb.hashT p.1,.ref p.2.1,w⟩
noncomputable def aH (a:Addr)(ps:List (List Int×Addr×V)):HO:=.ext fun h=>∃ ws:List QL,Vals (ps.map (·.2.2)) ws/\(a == RX)=false/\ps.length<=Q6 /\
 ∃ o es ep,h.get? a=some o/\o.ExactDict/\o.data=.dict es ep/\es.toList=WZ tH ps ws/\(ps.map (·.1)).Nodup
structure Rp (K:QH)(π:Nat->Addr)(H:Hp)(μ:Hm):Prop where
 inj:∀ a b,a<μ.length->b<μ.length->π a=π b->a=b
 has:∀ a,a<μ.length->(H (π a)).isSome=true
 lst:∀ a xs,μ[a]? = some (.lst xs)->∃ vs,H (π a)=some (.lst vs)/\IsDs K π μ.length H vs xs
 dK:∀ a kvs,μ[a]? = some (.dK kvs)->∃ vs,H (π a)=some (.dK vs)/\vs.map (·.1)=kvs.map (·.1)/\IsDs K π μ.length H (vs.map (·.2)) (kvs.map (·.2))
 st:∀ a ks,μ[a]? = some (.st ks)->∃ L:List Tb.El,H (π a)=some (pL (π a) L)/\L.map (·.1)=ks/\IsDs K π μ.length H (L.map fun p=>V.ref p.2) (ks.map fun k=>D.tup (k.map D.int))
 dT:∀ a kvs,μ[a]? = some (.dT kvs)->∃ ps:List (List Int×Addr×V),H (π a)=some (aH (π a) ps)/\ps.map (·.1)=kvs.map (·.1)/\IsDs K π μ.length H (ps.map fun p=>V.ref p.2.1) (kvs.map fun k=>D.tup (k.1.map D.int))/\IsDs K π μ.length H (ps.map (·.2.2)) (kvs.map (·.2))
 dF:∀ a kvs,μ[a]? = some (.dF kvs)->∃ (ob:Td)(ps:List (List Int×Addr×V)),H (π a)=some (.frz ob (aH (π a) ps))/\ps.map (·.1)=kvs.map (·.1)/\IsDs K π μ.length H (ps.map fun p=>V.ref p.2.1) (kvs.map fun k=>D.tup (k.1.map D.int))/\IsDs K π μ.length H (ps.map (·.2.2)) (kvs.map (·.2))
structure En (K:QH)(π:Nat->Addr)(n:Nat)(H:Hp)(σ:St)(ρ:aG):Prop where
 len:σ.length=ρ.length
 get:∀ (i:Nat)(d:D),ρ[i]? = some (some d)->∃ v,σ[i]? = some (some v)/\IsD K π n H v d
section
variable {K:QH}{π π' π2:Nat->Addr}{n n' n2:Nat}{H H' H2:Hp}{μ μ':Hm}{σ:St}{ρ:aG}
theorem En.mono (E:En K π n H σ ρ)(e:Ext π n H π' n' H'):En K π' n' H' σ ρ:=
 ⟨E.len,fun i d h=>let ⟨v,h1,h2⟩:=E.get i d h;⟨v,h1,h2.mono e⟩⟩
theorem En.set (E:En K π n H σ ρ){v:V}{d:D}(h:IsD K π n H v d)(i:Nat):En K π n H (σ.set i (some v)) (ρ.set i (some d)):=by
 refine ⟨by rw [SG,SG];exact E.len,fun j d' e=>?_⟩
 rw [List.getElem?_set] at e ⊢
 by_cases hij:i=j
 ·subst hij
  rw [if_pos rfl] at e ⊢
  rw [E.len]
  by_cases hl:i<ρ.length
  ·rw [if_pos hl] at e ⊢
   cases e
   exact ⟨v,rfl,h⟩
  ·rw [if_neg hl] at e
   cases e
 ·rw [if_neg hij] at e ⊢
  exact E.get j d' e
theorem Rp.ne {p:Addr}(R:Rp K π H μ)(h:H p=none){a:Nat}(ha:a<μ.length):π a≠p:=fun e=>by
 have:=R.has a ha
 rw [e,h] at this
 cases this
theorem Rp.fresh {p:Addr}{o:HO}(R:Rp K π H μ)(h:H p=none):Ext π μ.length H π μ.length (aE H p o)/\Rp K π (aE H p o) μ:=by
 have keep:∀ b u,H b=some u->aE H p o b=some u:=fun b u e=>by
  rw [aS (jW e h)]
  exact e
 have e:Ext π μ.length H π μ.length (aE H p o):=⟨Q0 _,fun _ _=>rfl,fun q vs e=>keep q _ e,fun q o u e=>keep q _ e⟩
 refine ⟨e,R.inj,fun a ha=>?_,fun a xs ha=>?_,fun a kvs ha=>?_,fun a ks ha=>?_
  ,fun a kvs ha=>?_
  ,fun a kvs ha=>?_
  ⟩
 ·rw [aS (R.ne h ha)]
  exact R.has a ha
 ·obtain ⟨vs,h1,h2⟩:=R.lst a xs ha
  exact ⟨vs,keep _ _ h1,h2.mono e⟩
 ·obtain ⟨vs,h1,h2,h3⟩:=R.dK a kvs ha
  exact ⟨vs,keep _ _ h1,h2,h3.mono e⟩
 ·obtain ⟨vs,h1,h2,h3⟩:=R.st a ks ha
  exact ⟨vs,keep _ _ h1,h2,h3.mono e⟩
 ·obtain ⟨vs,h1,h2,h3,h4⟩:=R.dT a kvs ha
  exact ⟨vs,keep _ _ h1,h2,h3.mono e,h4.mono e⟩
 ·obtain ⟨ob,vs,h1,h2,h3,h4⟩:=R.dF a kvs ha
  exact ⟨ob,vs,keep _ _ h1,h2,h3.mono e,h4.mono e⟩
noncomputable def tI (K:QH)(π:Nat->Addr)(n:Nat)(H:Hp)(p:Addr):C->HO->Prop
 | .lst xs,.lst vs=>IsDs K π n H vs xs
 | .dK kvs,.dK vs=>vs.map (·.1)=kvs.map (·.1)/\IsDs K π n H (vs.map (·.2)) (kvs.map (·.2))
 | .st ks,o=>∃ L:List Tb.El,o=pL p L/\L.map (·.1)=ks/\IsDs K π n H (L.map fun p=>V.ref p.2) (ks.map fun k=>D.tup (k.map D.int))
 | .dT kvs,o=>∃ ps:List (List Int×Addr×V),o=aH p ps/\ps.map (·.1)=kvs.map (·.1)/\IsDs K π n H (ps.map fun p=>V.ref p.2.1) (kvs.map fun k=>D.tup (k.1.map D.int))/\IsDs K π n H (ps.map (·.2.2)) (kvs.map (·.2))
 | .dF kvs,o=>∃ (ob:Td)(ps:List (List Int×Addr×V)),o=.frz ob (aH p ps)/\ps.map (·.1)=kvs.map (·.1)/\IsDs K π n H (ps.map fun p=>V.ref p.2.1) (kvs.map fun k=>D.tup (k.1.map D.int))/\IsDs K π n H (ps.map (·.2.2)) (kvs.map (·.2))
 | _,_=>False
noncomputable def eY (π:Nat->Addr)(n:Nat)(p:Addr):Nat->Addr:=fun a=>if a=n then p else π a
theorem Rp.alloc {p:Addr}{c:C}{o:HO}(R:Rp K π H μ)(h:H p=none)(hc:tI K π μ.length H p c o) :
  Ext π μ.length H (eY π μ.length p) (μ++[c]).length (aE H p o)/\Rp K (eY π μ.length p) (aE H p o) (μ++[c])/\eY π μ.length p μ.length=p:=by
 have hl:(μ++[c]).length=μ.length+1:=by simp
 have keep:∀ b u,H b=some u->aE H p o b=some u:=fun b u e=>by
  rw [aS (jW e h)]
  exact e
 have pn:eY π μ.length p μ.length=p:=if_pos rfl
 have po:∀ a,a<μ.length->eY π μ.length p a=π a:=fun a ha=>if_neg (Ro ha)
 have e:Ext π μ.length H (eY π μ.length p) (μ++[c]).length (aE H p o):=⟨by rw [hl];exact VG _,po,fun q vs e=>keep q _ e,fun q o u e=>keep q _ e⟩
 have split:∀ a,a<(μ++[c]).length->a<μ.length\/a=μ.length:=fun a ha=>by rw [hl] at ha;omega
 have get:∀ a,a<μ.length->(μ++[c])[a]? = μ[a]?:=fun a ha=>Q9 ha
 have getn:(μ++[c])[μ.length]? = some c:=by simp
 refine ⟨e,⟨fun a b ha hb q=>?_,fun a ha=>?_,fun a xs ha=>?_,fun a kvs ha=>?_,fun a ks ha=>?_
  ,fun a kvs ha=>?_
  ,fun a kvs ha=>?_
  ⟩,pn⟩
 ·rcases split a ha with ha|rfl<;>rcases split b hb with hb|rfl
  ·rw [po a ha,po b hb] at q
   exact R.inj a b ha hb q
  ·rw [po a ha,pn] at q
   exact absurd q (R.ne h ha)
  ·rw [pn,po b hb] at q
   exact absurd q.symm (R.ne h hb)
  ·rfl
 ·rcases split a ha with ha|rfl
  ·rw [po a ha,aS (R.ne h ha)]
   exact R.has a ha
  ·rw [pn,b7]
   rfl
 ·have hlt:a<(μ++[c]).length:=(QN.mp ha).1
  rcases split a hlt with h1|rfl
  ·rw [get a h1] at ha
   obtain ⟨vs,h2,h3⟩:=R.lst a xs ha
   rw [po a h1]
   exact ⟨vs,keep _ _ h2,h3.mono e⟩
  ·rw [getn] at ha
   cases ha
   cases o with
   | lst vs=>
    rw [pn]
    exact ⟨vs,b7,IsDs.mono e hc⟩
   | _=>exact Tv hc
 ·have hlt:a<(μ++[c]).length:=(QN.mp ha).1
  rcases split a hlt with h1|rfl
  ·rw [get a h1] at ha
   obtain ⟨vs,h2,h3,h4⟩:=R.dK a kvs ha
   rw [po a h1]
   exact ⟨vs,keep _ _ h2,h3,h4.mono e⟩
  ·rw [getn] at ha
   cases ha
   cases o with
   | dK vs=>
    rw [pn]
    exact ⟨vs,b7,hc.1,IsDs.mono e hc.2⟩
   | _=>exact Tv hc
 ·have hlt:a<(μ++[c]).length:=(QN.mp ha).1
  rcases split a hlt with h1|rfl
  ·rw [get a h1] at ha
   obtain ⟨vs,h2,h3,h4⟩:=R.st a ks ha
   rw [po a h1]
   exact ⟨vs,keep _ _ h2,h3,h4.mono e⟩
  ·rw [getn] at ha
   cases ha
   obtain ⟨L,rfl,h3,h4⟩:=hc
   rw [pn]
   exact ⟨L,b7,h3,h4.mono e⟩
 ·have hlt:a<(μ++[c]).length:=(QN.mp ha).1
  rcases split a hlt with h1|rfl
  ·rw [get a h1] at ha
   obtain ⟨vs,h2,h3,h4,h5⟩:=R.dT a kvs ha
   rw [po a h1]
   exact ⟨vs,keep _ _ h2,h3,h4.mono e,h5.mono e⟩
  ·rw [getn] at ha
   cases ha
   obtain ⟨L,rfl,h3,h4,h5⟩:=hc
   rw [pn]
   exact ⟨L,b7,h3,h4.mono e,h5.mono e⟩
 ·have hlt:a<(μ++[c]).length:=(QN.mp ha).1
  rcases split a hlt with h1|rfl
  ·rw [get a h1] at ha
   obtain ⟨ob,vs,h2,h3,h4,h5⟩:=R.dF a kvs ha
   rw [po a h1]
   exact ⟨ob,vs,keep _ _ h2,h3,h4.mono e,h5.mono e⟩
  ·rw [getn] at ha
   cases ha
   obtain ⟨ob,L,rfl,h3,h4,h5⟩:=hc
   rw [pn]
   exact ⟨ob,L,b7,h3,h4.mono e,h5.mono e⟩
theorem Rp.put0 {a:Nat}{c:C}{o u:HO}(R:Rp K π H μ)(ha:a<μ.length)(ho:H (π a)=some u)(hu:(∃ vs,u=.lst vs)\/(∃ vs,u=.dK vs)\/(∃ φ,u=.ext φ)\/∃ ob φ,u=.frz ob (.ext φ))(hc:tI K π μ.length H (π a) c o) :
  Ext0 π μ.length H π (μ.set a c).length (aE H (π a) o)/\Rp K π (aE H (π a) o) (μ.set a c):=by
 have hl:(μ.set a c).length=μ.length:=SG ..
 have e:Ext0 π μ.length H π (μ.set a c).length (aE H (π a) o):=by
  refine ⟨YF hl.symm,fun _ _=>rfl,fun q vs z=>?_,fun q o' u' nx z=>?_⟩
  ·rw [aS]
   ·exact z
   ·intro e
    subst e
    rw [ho] at z
    rcases hu with ⟨w,rfl⟩|⟨w,rfl⟩|⟨w,rfl⟩|⟨ob,w,rfl⟩<;>cases z
  ·rw [aS]
   ·exact z
   ·intro e
    subst e
    rw [ho] at z
    rcases hu with ⟨w,rfl⟩|⟨w,rfl⟩|⟨w,rfl⟩|⟨ob,w,rfl⟩<;>cases z
    exact nx _ rfl
 have other:∀ b,b<μ.length->b≠a->aE H (π a) o (π b)=H (π b):=fun b hb hne=>aS fun q=>hne (R.inj b a hb ha q)
 refine ⟨e,⟨fun b b' hb hb'=>R.inj b b' (hl ▸ hb) (hl ▸ hb'),fun b hb=>?_,fun b xs hb=>?_,fun b kvs hb=>?_,fun b ks hb=>?_
  ,fun b kvs hb=>?_
  ,fun b kvs hb=>?_
  ⟩⟩
 ·by_cases h:b=a
  ·subst h
   rw [b7]
   rfl
  ·rw [other b (hl ▸ hb) h]
   exact R.has b (hl ▸ hb)
 ·have hlt:b<μ.length:=hl ▸ (QN.mp hb).1
  by_cases h:b=a
  ·subst h
   rw [Sf hlt] at hb
   cases hb
   cases o with
   | lst vs=>exact ⟨vs,b7,IsDs.mono0 e hc⟩
   | _=>exact Tv hc
  ·rw [Rt (Sw h)] at hb
   obtain ⟨vs,h2,h3⟩:=R.lst b xs hb
   exact ⟨vs,by rw [other b hlt h];exact h2,h3.mono0 e⟩
 ·have hlt:b<μ.length:=hl ▸ (QN.mp hb).1
  by_cases h:b=a
  ·subst h
   rw [Sf hlt] at hb
   cases hb
   cases o with
   | dK vs=>exact ⟨vs,b7,hc.1,IsDs.mono0 e hc.2⟩
   | _=>exact Tv hc
  ·rw [Rt (Sw h)] at hb
   obtain ⟨vs,h2,h3,h4⟩:=R.dK b kvs hb
   exact ⟨vs,by rw [other b hlt h];exact h2,h3,h4.mono0 e⟩
 ·have hlt:b<μ.length:=hl ▸ (QN.mp hb).1
  by_cases h:b=a
  ·subst h
   rw [Sf hlt] at hb
   cases hb
   obtain ⟨L,rfl,h3,h4⟩:=hc
   exact ⟨L,b7,h3,h4.mono0 e⟩
  ·rw [Rt (Sw h)] at hb
   obtain ⟨vs,h2,h3,h4⟩:=R.st b ks hb
   exact ⟨vs,by rw [other b hlt h];exact h2,h3,h4.mono0 e⟩
 ·have hlt:b<μ.length:=hl ▸ (QN.mp hb).1
  by_cases h:b=a
  ·subst h
   rw [Sf hlt] at hb
   cases hb
   obtain ⟨L,rfl,h3,h4,h5⟩:=hc
   exact ⟨L,b7,h3,h4.mono0 e,h5.mono0 e⟩
  ·rw [Rt (Sw h)] at hb
   obtain ⟨vs,h2,h3,h4,h5⟩:=R.dT b kvs hb
   exact ⟨vs,by rw [other b hlt h];exact h2,h3,h4.mono0 e,h5.mono0 e⟩
 ·have hlt:b<μ.length:=hl ▸ (QN.mp hb).1
  by_cases h:b=a
  ·subst h
   rw [Sf hlt] at hb
   cases hb
   obtain ⟨ob,L,rfl,h3,h4,h5⟩:=hc
   exact ⟨ob,L,b7,h3,h4.mono0 e,h5.mono0 e⟩
  ·rw [Rt (Sw h)] at hb
   obtain ⟨ob,vs,h2,h3,h4,h5⟩:=R.dF b kvs hb
   exact ⟨ob,vs,by rw [other b hlt h];exact h2,h3,h4.mono0 e,h5.mono0 e⟩
theorem Rp.put {a:Nat}{c:C}{o u:HO}(R:Rp K π H μ)(ha:a<μ.length)(ho:H (π a)=some u)(hu:(∃ vs,u=.lst vs)\/(∃ vs,u=.dK vs)\/∃ φ,u=.ext φ)(hc:tI K π μ.length H (π a) c o) :
  Ext π μ.length H π (μ.set a c).length (aE H (π a) o)/\Rp K π (aE H (π a) o) (μ.set a c):=by
 have hl:(μ.set a c).length=μ.length:=SG ..
 have e:Ext π μ.length H π (μ.set a c).length (aE H (π a) o):=by
  refine ⟨YF hl.symm,fun _ _=>rfl,fun q vs z=>?_,fun q o' u' z=>?_⟩
  ·rw [aS]
   ·exact z
   ·intro e
    subst e
    rw [ho] at z
    rcases hu with ⟨w,rfl⟩|⟨w,rfl⟩|⟨w,rfl⟩<;>cases z
  ·rw [aS]
   ·exact z
   ·intro e
    subst e
    rw [ho] at z
    rcases hu with ⟨w,rfl⟩|⟨w,rfl⟩|⟨w,rfl⟩<;>cases z
 exact ⟨e,(R.put0 ha ho (hu.imp_right fun h=>h.imp_right .inl) hc).2⟩
end
noncomputable def KC (K:QH)(Q:VK)(π:Nat->Addr)(n:Nat)(H:Hp)(d:D)(μ':Hm):Prop:=
 ∀ π' v H',Ext π n H π' μ'.length H'->Rp K π' H' μ'->IsD K π' μ'.length H' v d->Q v H'
theorem KC.after {K:QH}{Q:VK}{π π1:Nat->Addr}{n n1:Nat}{H H1:Hp}{d:D}{μ':Hm}(k:KC K Q π n H d μ')(e:Ext π n H π1 n1 H1):KC K Q π1 n1 H1 d μ':=
 fun π' v H' e' R i=>k π' v H' (e.trans e') R i
noncomputable def tM (K:QH)(m:ME):TE:=fun σ H Q=>∃ π ρ μ d μ',Rp K π H μ/\En K π μ.length H σ ρ/\m ρ μ=some (d,μ')/\KC K Q π μ.length H d μ'
noncomputable def b8 (K:QH)(m:MT):TT:=fun σ H Q=>∃ π ρ μ b μ',Rp K π H μ/\En K π μ.length H σ ρ/\m ρ μ=some (b,μ')/\∀ π' H',Ext π μ.length H π' μ'.length H'->Rp K π' H' μ'->Q b H'
noncomputable def dE (K:QH)(m:MA):TA:=fun σ H Q=>∃ π ρ μ ds μ',Rp K π H μ/\En K π μ.length H σ ρ/\m ρ μ=some (ds,μ')/\∀ π' vs H',Ext π μ.length H π' μ'.length H'->Rp K π' H' μ'->IsDs K π' μ'.length H' vs ds->Q vs H'
noncomputable def lH (K:QH)(E:Ends)(π:Nat->Addr)(n:Nat)(H:Hp)(fl:Fl)(ρ':aG)(μ':Hm):Prop:=
 match fl with
 | .nx=>∀ π' σ' H',Ext π n H π' μ'.length H'->Rp K π' H' μ'->En K π' μ'.length H' σ' ρ'->E.nx σ' H'
 | .bk=>∀ π' σ' H',Ext π n H π' μ'.length H'->Rp K π' H' μ'->En K π' μ'.length H' σ' ρ'->E.bk σ' H'
 | .ct=>∀ π' σ' H',Ext π n H π' μ'.length H'->Rp K π' H' μ'->En K π' μ'.length H' σ' ρ'->E.ct σ' H'
 | .rt d=>KC K E.rt π n H d μ'
noncomputable def cC (K:QH)(m:MS):TS:=fun E σ H=>∃ π ρ μ fl ρ' μ',Rp K π H μ/\En K π μ.length H σ ρ/\m ρ μ=some (fl,ρ',μ')/\lH K E π μ.length H fl ρ' μ'
noncomputable def fS (K:QH)(k:Nat)(f:MF):Sp:=fun vs H Q _=>vs.length=k/\∃ π ds μ d μ',Rp K π H μ/\IsDs K π μ.length H vs ds/\f ds μ=some (d,μ')/\KC K Q π μ.length H d μ'
section
variable {X:Cx}{e a b c:Q1}{t:TE}{m ma mb mc:ME}{pos:Ta}
theorem bT (h:PE X e t)(hw:∀ σ H Q,tM X.K m σ H Q->t σ H Q):PE X e (tM X.K m):=fun a2j s σ H Q I q=>h a2j s σ H Q I (hw σ H Q q)
theorem pM {t:TT}{m:MT}(h:PT X e t)(hw:∀ σ H Q,b8 X.K m σ H Q->t σ H Q):PT X e (b8 X.K m):=fun a2j s σ H Q I q=>h a2j s σ H Q I (hw σ H Q q)
theorem An {t:TT}{m:MT}(h:PW X e t)(hw:∀ σ H Q,b8 X.K m σ H Q->t σ H Q):PW X e (b8 X.K m):=fun wh a2j s σ H Q I q=>h wh a2j s σ H Q I (hw σ H Q q)
theorem Ao {es:List Q1}{t:TA}{m:MA}(h:PA X es t)(hw:∀ σ H Q,dE X.K m σ H Q->t σ H Q):PA X es (dE X.K m):=fun p a2j s σ H Q I q=>h p a2j s σ H Q I (hw σ H Q q)
theorem fE {st:Stmt}{t:TS}{m:MS}(h:PS X st t)(hw:∀ E σ H,cC X.K m E σ H->t E σ H):PS X st (cC X.K m):=fun a2j s σ H E I q=>h a2j s σ H E I (hw E σ H q)
theorem Ap {st:List Stmt}{t:TS}{m:MS}(h:PSs X st t)(hw:∀ E σ H,cC X.K m E σ H->t E σ H):PSs X st (cC X.K m):=fun a2j s σ H E I q=>h a2j s σ H E I (hw E σ H q)
noncomputable def aA (i:Nat):ME:=fun ρ μ=>match ρ[i]? with|some (some d)=>some (d,μ)|_=>none
noncomputable def mC (d:D):ME:=fun _ μ=>some (d,μ)
theorem Hy {i:Nat}{ρ:aG}{μ μ':Hm}{d:D}(h:aA i ρ μ=some (d,μ')):ρ[i]? = some (some d)/\μ'=μ:=by
 unfold aA at h
 split at h
 ·rename_i d' e
  cases h
  exact ⟨e,rfl⟩
 ·cases h
theorem Hz {x:Str}(i:Nat)(h:PE X (.Name x pos) (yN i)):PE X (.Name x pos) (tM X.K (aA i)):=bT h (by
 rintro σ H Q ⟨π,ρ,μ,d,μ',R,E,hm,k⟩
 obtain ⟨h1,rfl⟩:=Hy hm
 obtain ⟨v,h2,h3⟩:=E.get i d h1
 exact ⟨v,h2,k π v H .refl R h3⟩)
theorem lI {v:V}{d:D}(h:PE X e (tC v))(hd:∀ π n H,IsD X.K π n H v d):PE X e (tM X.K (mC d)):=bT h (by
 rintro σ H Q ⟨π,ρ,μ,d',μ',R,E,hm,k⟩
 cases hm
 exact k π v H .refl R (hd _ _ _))
theorem HA {i:Int}{j:Nat}:PE X (.Constant (.int i) j pos) (tM X.K (mC (.int i))):=lI E4 fun _ _ _=>.int i
theorem HB {i:Bool}{j:Nat}:PE X (.Constant (.bool i) j pos) (tM X.K (mC (.bl i))):=lI E6 fun _ _ _=>.bl i
theorem HC {i:Str}{j:Nat}:PE X (.Constant (.str i) j pos) (tM X.K (mC (.str i))):=lI Fb fun _ _ _=>.str i
theorem HD {j:Nat}:PE X (.Constant .none j pos) (tM X.K (mC .non)):=lI E7 fun _ _ _=>.non
noncomputable def aB (f:D->D->Hm->Option (D×Hm))(a b:ME):ME:=fun ρ μ=>(a ρ μ).bind fun p=>(b ρ p.2).bind fun q=>f p.1 q.1 q.2
noncomputable def bV (K:QH)(f:D->D->Hm->Option (D×Hm))(r:R2):Prop:=
 ∀ π H μ x y d μ' vx vy Q,Rp K π H μ->IsD K π μ.length H vx x->IsD K π μ.length H vy y->f x y μ=some (d,μ')->KC K Q π μ.length H d μ'->r vx vy H Q
theorem lJ {f:D->D->Hm->Option (D×Hm)}{r:R2}{K:QH}(hf:bV K f r):∀ σ H Q,tM K (aB f ma mb) σ H Q->nH r (tM K ma) (tM K mb) σ H Q:=by
 rintro σ H Q ⟨π,ρ,μ,d,μ',R,E,hm,k⟩
 obtain ⟨⟨x,μ1⟩,h1,hm⟩:=QF.mp hm
 obtain ⟨⟨y,μ2⟩,h2,hm⟩:=QF.mp hm
 exact ⟨π,ρ,μ,x,μ1,R,E,h1,fun π1 v1 H1 e1 R1 i1=>⟨π1,ρ,μ1,y,μ2,R1,E.mono e1,h2,fun π2 v2 H2 e2 R2 i2=>hf π2 H2 μ2 x y d μ' v1 v2 Q R2 (i1.mono e2) i2 hm (k.after (e1.trans e2))⟩⟩
theorem HE {op:YE}{r:R2}{f:D->D->Hm->Option (D×Hm)}(ho:OpR X (US op) r)(hf:bV X.K f r)(ha:PE X a (tM X.K ma))(hb:PE X b (tM X.K mb)):PE X (.BinOp a op b pos) (tM X.K (aB f ma mb)):=
 bT (F8 ho ha hb) (lJ hf)
theorem cZ {op:U9}{r:R2}{f:D->D->Hm->Option (D×Hm)}(ho:OpR X (R6 op) r)(hf:bV X.K f r)(ha:PE X a (tM X.K ma))(hb:PE X b (tM X.K mb))(hm:UG op b=false):PE X (.Compare a [op] [b] pos) (tM X.K (aB f ma mb)):=
 bT (Gf ho ha hb hm) (lJ hf)
noncomputable def a8 (m:ME):MT:=fun ρ μ=>(m ρ μ).bind fun p=>match p.1 with|.bl b=>some (b,p.2)|_=>none
theorem Aq {K:QH}:∀ σ H Q,b8 K (a8 m) σ H Q->tM K m σ H fun x H'=>∃ k,x=.bl k/\Q k H':=by
 rintro σ H Q ⟨π,ρ,μ,b,μ',R,E,hm,k⟩
 obtain ⟨⟨x,μ1⟩,h1,hm⟩:=QF.mp hm
 cases x with
 | bl c=>
  cases hm
  refine ⟨π,ρ,μ,_,_,R,E,h1,fun π' v H' e' R' i'=>?_⟩
  cases i'
  exact ⟨_,rfl,k π' H' e' R'⟩
 | _=>cases hm
theorem c3 {op:U9}{r:R2}{f:D->D->Hm->Option (D×Hm)}(ho:OpR X (R6 op) r)(hf:bV X.K f r)(ha:PE X a (tM X.K ma))(hb:PE X b (tM X.K mb))(hm:UG op b=false):PT X (.Compare a [op] [b] pos) (b8 X.K (a8 (aB f ma mb))):=
 pM (Gg ho ha hb hm) fun σ H Q h=>lJ hf σ H _ (Aq σ H Q h)
end
end L3
namespace L3
open PySem L2
section
variable {X:Cx}{e a b c:Q1}{m ma mb mc:ME}{pos:Ta}{mt mu:MT}{rest:List Q1}
noncomputable def i6 (a b:MT):MT:=fun ρ μ=>(a ρ μ).bind fun p=>match p.1 with|true=>b ρ p.2|false=>some (false,p.2)
noncomputable def dG (a b:MT):MT:=fun ρ μ=>(a ρ μ).bind fun p=>match p.1 with|true=>some (true,p.2)|false=>b ρ p.2
noncomputable def cL (a:MT):MT:=fun ρ μ=>(a ρ μ).map fun p=>(!p.1,p.2)
theorem HF (ha:PT X a (b8 X.K mt)):PW X (.BoolOp .And [a] pos) (b8 X.K mt):=Fh ha
theorem HG (ha:PT X a (b8 X.K mt)):PW X (.BoolOp .Or [a] pos) (b8 X.K mt):=Fj ha
theorem HH (ha:PT X a (b8 X.K mt))(hb:PW X (.BoolOp .And (b::rest) pos) (b8 X.K mu)):PW X (.BoolOp .And (a::b::rest) pos) (b8 X.K (i6 mt mu)):=An (Fm ha hb) (by
 rintro σ H Q ⟨π,ρ,μ,d,μ',R,E,hm,k⟩
 obtain ⟨⟨x,μ1⟩,h1,hm⟩:=QF.mp hm
 refine ⟨π,ρ,μ,x,μ1,R,E,h1,fun π1 H1 e1 R1=>?_⟩
 cases x with
 | true=>
  refine j8 ?_
  exact ⟨π1,ρ,μ1,d,μ',R1,E.mono e1,hm,fun π2 H2 e2 R2=>k π2 H2 (e1.trans e2) R2⟩
 | false=>
  refine j7 ?_
  cases hm
  exact k π1 H1 e1 R1)
theorem HJ (ha:PT X a (b8 X.K mt))(hb:PW X (.BoolOp .Or (b::rest) pos) (b8 X.K mu)):PW X (.BoolOp .Or (a::b::rest) pos) (b8 X.K (dG mt mu)):=An (Fn ha hb) (by
 rintro σ H Q ⟨π,ρ,μ,d,μ',R,E,hm,k⟩
 obtain ⟨⟨x,μ1⟩,h1,hm⟩:=QF.mp hm
 refine ⟨π,ρ,μ,x,μ1,R,E,h1,fun π1 H1 e1 R1=>?_⟩
 cases x with
 | true=>
  refine j8 ?_
  cases hm
  exact k π1 H1 e1 R1
 | false=>
  refine j7 ?_
  exact ⟨π1,ρ,μ1,d,μ',R1,E.mono e1,hm,fun π2 H2 e2 R2=>k π2 H2 (e1.trans e2) R2⟩)
theorem HK (ha:PT X a (b8 X.K mt)):PT X (.UnaryOp .Not a pos) (b8 X.K (cL mt)):=pM (Fo ha) (by
 rintro σ H Q ⟨π,ρ,μ,d,μ',R,E,hm,k⟩
 obtain ⟨⟨x,μ1⟩,h1,hm⟩:=QR.mp hm
 cases hm
 exact ⟨π,ρ,μ,x,μ1,R,E,h1,fun π1 H1 e1 R1=>k π1 H1 e1 R1⟩)
noncomputable def c8 (a b:ME):ME:=fun ρ μ=>(a ρ μ).bind fun p=>match p.1 with|.bl true=>b ρ p.2|.bl false=>some (.bl false,p.2)|_=>none
noncomputable def tJ (a b:ME):ME:=fun ρ μ=>(a ρ μ).bind fun p=>match p.1 with|.bl true=>some (.bl true,p.2)|.bl false=>b ρ p.2|_=>none
noncomputable def kB (a:ME):ME:=fun ρ μ=>(a ρ μ).bind fun p=>match p.1 with|.bl b=>some (.bl (!b),p.2)|_=>none
theorem HL {op:BoolOp}(h:PE X a (tM X.K m)):PE X (.BoolOp op [a] pos) (tM X.K m):=Ft h
theorem HM (ha:PE X a (tM X.K ma))(hb:PE X (.BoolOp .And (b::rest) pos) (tM X.K mb)):PE X (.BoolOp .And (a::b::rest) pos) (tM X.K (c8 ma mb)):=bT (Fu ha hb) (by
 rintro σ H Q ⟨π,ρ,μ,d,μ',R,E,hm,k⟩
 obtain ⟨⟨x,μ1⟩,h1,hm⟩:=QF.mp hm
 cases x with
 | bl c=>
  refine ⟨π,ρ,μ,.bl c,μ1,R,E,h1,fun π1 v1 H1 e1 R1 i1=>?_⟩
  cases i1
  refine ⟨c,rfl,?_⟩
  cases c with
  | true=>
   refine j8 ?_
   exact ⟨π1,ρ,μ1,d,μ',R1,E.mono e1,hm,k.after e1⟩
  | false=>
   refine j7 ?_
   cases hm
   exact k π1 _ H1 e1 R1 (.bl false)
 | _=>cases hm)
theorem HN (ha:PE X a (tM X.K ma))(hb:PE X (.BoolOp .Or (b::rest) pos) (tM X.K mb)):PE X (.BoolOp .Or (a::b::rest) pos) (tM X.K (tJ ma mb)):=bT (Fv ha hb) (by
 rintro σ H Q ⟨π,ρ,μ,d,μ',R,E,hm,k⟩
 obtain ⟨⟨x,μ1⟩,h1,hm⟩:=QF.mp hm
 cases x with
 | bl c=>
  refine ⟨π,ρ,μ,.bl c,μ1,R,E,h1,fun π1 v1 H1 e1 R1 i1=>?_⟩
  cases i1
  refine ⟨c,rfl,?_⟩
  cases c with
  | true=>
   refine j8 ?_
   cases hm
   exact k π1 _ H1 e1 R1 (.bl true)
  | false=>
   refine j7 ?_
   exact ⟨π1,ρ,μ1,d,μ',R1,E.mono e1,hm,k.after e1⟩
 | _=>cases hm)
theorem HP (ha:PE X a (tM X.K ma)):PE X (.UnaryOp .Not a pos) (tM X.K (kB ma)):=bT (Fw ha) (by
 rintro σ H Q ⟨π,ρ,μ,d,μ',R,E,hm,k⟩
 obtain ⟨⟨x,μ1⟩,h1,hm⟩:=QF.mp hm
 cases x with
 | bl c=>
  cases hm
  refine ⟨π,ρ,μ,_,_,R,E,h1,fun π1 v1 H1 e1 R1 i1=>?_⟩
  cases i1
  exact ⟨_,rfl,k π1 _ H1 e1 R1 (.bl _)⟩
 | _=>cases hm)
noncomputable def tK (t:MT)(a b:ME):ME:=fun ρ μ=>(t ρ μ).bind fun p=>match p.1 with|true=>a ρ p.2|false=>b ρ p.2
theorem HQ (hc:PT X c (b8 X.K mt))(ha:PE X a (tM X.K ma))(hb:PE X b (tM X.K mb)):PE X (.IfExp c a b pos) (tM X.K (tK mt ma mb)):=bT (Fy hc ha hb) (by
 rintro σ H Q ⟨π,ρ,μ,d,μ',R,E,hm,k⟩
 obtain ⟨⟨x,μ1⟩,h1,hm⟩:=QF.mp hm
 refine ⟨π,ρ,μ,x,μ1,R,E,h1,fun π1 H1 e1 R1=>?_⟩
 cases x with
 | true=>
  refine j8 ?_
  exact ⟨π1,ρ,μ1,d,μ',R1,E.mono e1,hm,k.after e1⟩
 | false=>
  refine j7 ?_
  exact ⟨π1,ρ,μ1,d,μ',R1,E.mono e1,hm,k.after e1⟩)
noncomputable def aF:MA:=fun _ μ=>some ([],μ)
noncomputable def aC (a:ME)(r:MA):MA:=fun ρ μ=>(a ρ μ).bind fun p=>(r ρ p.2).bind fun q=>some (p.1::q.1,q.2)
variable {es:List Q1}{ms:MA}
theorem HR:PA X [] (dE X.K aF):=Ao Gq (by
 rintro σ H Q ⟨π,ρ,μ,d,μ',R,E,hm,k⟩
 cases hm
 exact k π [] H .refl R .nil)
theorem HS (ha:PE X e (tM X.K m))(hr:PA X es (dE X.K ms))(hs:RK (e::es) X.env=(false,eval e X.env)::RK es X.env:=by rfl):PA X (e::es) (dE X.K (aC m ms)):=Ao (Gr ha hr hs) (by
 rintro σ H Q ⟨π,ρ,μ,d,μ',R,E,hm,k⟩
 obtain ⟨⟨x,μ1⟩,h1,hm⟩:=QF.mp hm
 obtain ⟨⟨xs,μ2⟩,h2,hm⟩:=QF.mp hm
 cases hm
 exact ⟨π,ρ,μ,x,μ1,R,E,h1,fun π1 v1 H1 e1 R1 i1=>⟨π1,ρ,μ1,xs,μ2,R1,E.mono e1,h2,fun π2 vs H2 e2 R2 i2=>k π2 _ H2 (e1.trans e2) R2 (.cons (i1.mono e2) i2)⟩⟩)
noncomputable def eF (ms:MA):ME:=fun ρ μ=>(ms ρ μ).bind fun p=>if p.1.length<=Q6 then some (.tup p.1,p.2) else none
noncomputable def hZ (ms:MA):ME:=fun ρ μ=>(ms ρ μ).bind fun p=>if p.1.length<=Q6 then some (.loc p.2.length,p.2++[.lst p.1]) else none
theorem HU {x1:Nat}(h:PA X es (dE X.K ms)):PE X (.Tuple es x1 pos) (tM X.K (eF ms)):=bT (Gv h) (by
 rintro σ H Q ⟨π,ρ,μ,d,μ',R,E,hm,k⟩
 obtain ⟨⟨xs,μ1⟩,h1,hm⟩:=QF.mp hm
 split at hm
 ·rename_i hl
  cases hm
  refine ⟨π,ρ,μ,_,_,R,E,h1,fun π1 vs H1 e1 R1 i1=>⟨by rw [i1.length];exact hl,fun p hp=>?_⟩⟩
  obtain ⟨e2,R2⟩:=R1.fresh (o:=.tup vs) hp
  exact k π1 _ _ (e1.trans e2) R2 (.tup (.of b7) (i1.mono e2))
 ·cases hm)
theorem HV (h:PA X es (dE X.K ms)):PE X (.List es pos) (tM X.K (hZ ms)):=bT (Gw h) (by
 rintro σ H Q ⟨π,ρ,μ,d,μ',R,E,hm,k⟩
 obtain ⟨⟨xs,μ1⟩,h1,hm⟩:=QF.mp hm
 split at hm
 ·rename_i hl
  cases hm
  refine ⟨π,ρ,μ,xs,μ1,R,E,h1,fun π1 vs H1 e1 R1 i1=>⟨by rw [i1.length];exact hl,fun p hp=>?_⟩⟩
  obtain ⟨e2,R2,q⟩:=R1.alloc (c:=.lst xs) (o:=.lst vs) hp i1
  have i2:IsD X.K (eY π1 μ1.length p) (μ1++[C.lst xs]).length (aE H1 p (.lst vs)) (.ref p) (.loc μ1.length):=by
   have:=IsD.loc (K:=X.K) (π:=eY π1 μ1.length p) (n:=(μ1++[C.lst xs]).length) (H:=aE H1 p (.lst vs)) (a:=μ1.length) (by simp)
   rw [q] at this
   exact this
  exact k _ _ _ (e1.trans e2) R2 i2
 ·cases hm)
noncomputable def aK (f:MF)(ms:MA):ME:=fun ρ μ=>(ms ρ μ).bind fun p=>f p.1 p.2
theorem HW {K:QH}{f:MF}{n:Nat}{E:XK}(hn:∀ ρ μ ds μ',ms ρ μ=some (ds,μ')->ds.length=n):∀ σ H Q,tM K (aK f ms) σ H Q->sQ (fS K n f) [] E (dE K ms) σ H Q:=by
 rintro σ H Q ⟨π,ρ,μ,d,μ',R,E,hm,k⟩
 obtain ⟨⟨xs,μ1⟩,h1,hm⟩:=QF.mp hm
 refine ⟨π,ρ,μ,xs,μ1,R,E,h1,fun π1 vs H1 e1 R1 i1=>?_⟩
 show fS K n f (vs++[]) H1 Q _
 rw [SW]
 exact ⟨by rw [i1.length];exact hn ρ μ xs μ1 h1,π1,xs,μ1,d,μ',R1,i1,hm,k.after e1⟩
theorem HX:∀ ρ μ ds μ',aF ρ μ=some (ds,μ')->ds.length=0:=by
 intro ρ μ ds μ' h
 cases h
 rfl
theorem HY {n:Nat}(h:∀ ρ μ ds μ',ms ρ μ=some (ds,μ')->ds.length=n):∀ ρ μ ds μ',aC m ms ρ μ=some (ds,μ')->ds.length=n+1:=by
 intro ρ μ ds μ' hm
 obtain ⟨⟨x,μ1⟩,h1,hm⟩:=QF.mp hm
 obtain ⟨⟨xs,μ2⟩,h2,hm⟩:=QF.mp hm
 cases hm
 rw [Rq,h ρ μ1 xs _ h2]
theorem HZ {k:Nat}{f:Addr}{fd:T3}{ps:List Str}{fm:MF}{x:Str}{p:Ta}{n:Nat}(F:FnOk X.prog X.w X.K X.mg X.base d5 k f fd ps (fS X.K n fm))(hr:Room k X.A)(hg:Gl X x)(hm:X.mg x=some (.ref f))
  (hk:Te X.K (.ref f)=true)(hb:Binds X.K fd ps [])(ha:PA X (e::es) (dE X.K ms))(hn:∀ ρ μ ds μ',ms ρ μ=some (ds,μ')->ds.length=n)(hdb:(x == ("__debug__":Str))=false:=by decide)
  (he:RK (e::es) X.env=(false,eval e X.env)::RK es X.env:=by rfl)(hpl:(Uk pos (RK es X.env)).any (·.1)=false:=by rfl) :
  PE X (.Call (.Name x p) (e::es) [] pos) (tM X.K (aK fm ms)):=
 bT (Gx F hr hg hm hk hb .nil (E:=E0) Ag ha hdb he hpl) (HW hn)
noncomputable def cH (K:QH)(f:MF)(r:List V->Hp->VK->Prop):Prop:=
 ∀ π H μ xs d μ' vs Q,Rp K π H μ->IsDs K π μ.length H vs xs->f xs μ=some (d,μ')->KC K Q π μ.length H d μ'->r vs H Q
theorem tL {K:QH}{f:MF}{r:List V->Hp->VK->Prop}(hf:cH K f r):∀ σ H Q,tM K (aK f ms) σ H Q->o9 r (dE K ms) σ H Q:=by
 rintro σ H Q ⟨π,ρ,μ,d,μ',R,E,hm,k⟩
 obtain ⟨⟨xs,μ1⟩,h1,hm⟩:=QF.mp hm
 exact ⟨π,ρ,μ,xs,μ1,R,E,h1,fun π1 vs H1 e1 R1 i1=>hf π1 H1 μ1 xs d μ' vs Q R1 i1 hm (k.after e1)⟩
theorem Ia {f:MF}{r:List V->Hp->VK->Prop}{id:String}{x:Str}{p:Ta}(hc:CallR X (.builtin id) r)(hf:cH X.K f r)(hg:Gl X x)(hm:X.mg x=none)(hv:S2 x=some (.builtin id))(ha:PA X (e::es) (dE X.K ms))
  (hn:x ≠ "__name__":=by decide) (hdb:(x == ("__debug__":Str))=false:=by decide)
  (he:RK (e::es) X.env=(false,eval e X.env)::RK es X.env:=by rfl)(hpl:(Uk pos (RK es X.env)).any (·.1)=false:=by rfl):PE X (.Call (.Name x p) (e::es) [] pos) (tM X.K (aK f ms)):=
 bT (GB hc hg hm hv ha hn hdb he hpl) (tL hf)
theorem Ib {f:MF}{r:List V->Hp->VK->Prop}{T:String}{x:Str}{p:Ta}(hc:CallR X (.type T) r)(hf:cH X.K f r)(hg:Gl X x)(hm:X.mg x=none)(hv:S2 x=some (.type T))(ha:PA X (e::es) (dE X.K ms))
  (hn:x ≠ "__name__":=by decide) (hdb:(x == ("__debug__":Str))=false:=by decide)
  (he:RK (e::es) X.env=(false,eval e X.env)::RK es X.env:=by rfl)(hpl:(Uk pos (RK es X.env)).any (·.1)=false:=by rfl):PE X (.Call (.Name x p) (e::es) [] pos) (tM X.K (aK f ms)):=
 bT (GC hc hg hm hv ha hn hdb he hpl) (tL hf)
noncomputable def bH (μ:Hm):D->Option (List D)
 | .tup xs=>some xs
 | .rol xs=>some xs
 | .loc a=>match μ[a]? with|some (.lst xs)=>some xs|_=>none
 | _=>none
noncomputable def eZ:D->D->Hm->Option (D×Hm)
 | .str z,.int i,μ=>if z.length<=Q6 then (atI z.cps.toList i).map fun c=>(.str ⟨#[c]⟩,μ) else none
 | x,.int i,μ=>(bH μ x).bind fun xs=>(atI xs i).map fun d=>(d,μ)
 | _,_,_=>none
theorem Ic {K:QH}:bV K eZ (zV K):=by
 intro π H μ x y d μ' vx vy Q R ix iy hm k
 cases iy with
 | int i=>
  cases ix with
  | str z=>
   simp only [eZ] at hm
   split at hm
   ·rename_i hl
    obtain ⟨c,h1,h2⟩:=QR.mp hm
    cases h2
    exact .inr (.inr ⟨z,i,c,rfl,rfl,hl,h1,k π _ H .refl R (.str _)⟩)
   ·cases hm
  | tup h t=>
   simp only [eZ,bH,RM] at hm
   obtain ⟨d',h1,h2⟩:=QR.mp hm
   cases h2
   obtain ⟨v,h3,h4⟩:=t.atI h1
   exact .inr (.inl ⟨_,_,i,v,rfl,rfl,h,h3,k π _ H .refl R h4⟩)
  | rol h t=>
   simp only [eZ,bH,RM] at hm
   obtain ⟨d',h1,h2⟩:=QR.mp hm
   cases h2
   obtain ⟨v,h3,h4⟩:=t.atI h1
   exact .inl ⟨_,_,i,v,rfl,rfl,h.sq,h3,k π _ H .refl R h4⟩
  | @loc a ha=>
   simp only [eZ,bH] at hm
   split at hm
   ·rename_i xs hx
    simp only [RM] at hm
    obtain ⟨d',h1,h2⟩:=QR.mp hm
    cases h2
    obtain ⟨vs,h5,h6⟩:=R.lst a xs hx
    obtain ⟨v,h3,h4⟩:=h6.atI h1
    exact .inl ⟨_,_,i,v,rfl,rfl,.of h5,h3,k π _ H .refl R h4⟩
   ·cases hm
  | _=>simp [eZ,bH] at hm
 | _=>cases ix<;>simp [eZ] at hm
theorem Ie (ha:PE X a (tM X.K ma))(hb:PE X b (tM X.K mb))(hs:sY b):PE X (.Subscript a b pos) (tM X.K (aB eZ ma mb)):=bT (G8 Ha ha hb hs) (lJ Ic)
noncomputable def fT (xs:List D)(lo hi:Option Int):List D:=(xs.drop (HT.sIx xs.length 0 lo)).take (HT.sIx xs.length xs.length hi - HT.sIx xs.length 0 lo)
noncomputable abbrev MO:=aG->Hm->Option (Option Int×Hm)
noncomputable def nK:MO:=fun _ μ=>some (none,μ)
noncomputable def i7 (m:ME):MO:=fun ρ μ=>(m ρ μ).bind fun p=>match p.1 with|.int i=>some (some i,p.2)|_=>none
noncomputable def nM (K:QH)(m:MO):TO:=fun σ H Q=>∃ π ρ μ o μ',Rp K π H μ/\En K π μ.length H σ ρ/\m ρ μ=some (o,μ')/\∀ π' H',Ext π μ.length H π' μ'.length H'->Rp K π' H' μ'->Q o H'
theorem Ig:PO X none (nM X.K nK):=fun a2j s σ H Q I q=>G3 a2j s σ H Q I (by
 obtain ⟨π,ρ,μ,o,μ',R,E,hm,k⟩:=q
 cases hm
 exact k π H .refl R)
theorem Ih (h:PE X e (tM X.K m)):PO X (some e) (nM X.K (i7 m)):=fun a2j s σ H Q I q=>G4 h a2j s σ H Q I (by
 obtain ⟨π,ρ,μ,o,μ',R,E,hm,k⟩:=q
 obtain ⟨⟨x,μ1⟩,h1,hm⟩:=QF.mp hm
 cases x with
 | int i=>
  cases hm
  refine ⟨π,ρ,μ,_,_,R,E,h1,fun π1 v1 H1 e1 R1 i1=>?_⟩
  cases i1
  exact ⟨_,rfl,k π1 H1 e1 R1⟩
 | _=>cases hm)
noncomputable abbrev Ar (K:QH):V->Option Int->Option Int->Hp->VK->Prop:=sZ K
theorem Ii {X:Cx}:SlR X (Ar X.K):=Hf
theorem Au {K:QH}{x:V}{lo hi:Option Int}{H:Hp}{Q:VK}(h:sZ K x lo hi H Q):Ar K x lo hi H Q:=h
noncomputable def kC (a:ME)(lo hi:MO):ME:=fun ρ μ=>(a ρ μ).bind fun p=>(lo ρ p.2).bind fun q=>(hi ρ q.2).bind fun r=>
 match p.1 with
 | .tup _=>none
 | x=>(bH r.2 x).bind fun xs=>some (.loc r.2.length,r.2++[.lst (fT xs q.1 r.1)])
theorem Av {K:QH}{π:Nat->Addr}{n:Nat}{H:Hp}{vs:List V}{ds:List D}(h:IsDs K π n H vs ds)(lo hi:Option Int):IsDs K π n H (i5 vs lo hi) (fT ds lo hi):=by
 unfold i5 fT
 rw [h.length]
 exact (h.drop _).take _
theorem eG {K:QH}{π:Nat->Addr}{μ:Hm}{p:Addr}{c:C}{H:Hp}:IsD K (eY π μ.length p) (μ++[c]).length H (.ref p) (.loc μ.length):=by
 have:=IsD.loc (K:=K) (π:=eY π μ.length p) (n:=(μ++[c]).length) (H:=H) (a:=μ.length) (by simp)
 rw [show eY π μ.length p μ.length=p from if_pos rfl] at this
 exact this
theorem Ij {lo hi:Option Q1}{ml mh:MO}{p2:Ta}(ha:PE X a (tM X.K ma))(hl:PO X lo (nM X.K ml))(hu:PO X hi (nM X.K mh)):PE X (.Subscript a (.Slice lo hi none p2) pos) (tM X.K (kC ma ml mh)):=bT (G6 Ii ha hl hu) (by
 rintro σ H Q ⟨π,ρ,μ,d,μ',R,E,hm,k⟩
 obtain ⟨⟨x,μ1⟩,h1,hm⟩:=QF.mp hm
 obtain ⟨⟨l,μ2⟩,h2,hm⟩:=QF.mp hm
 obtain ⟨⟨u,μ3⟩,h3,hm⟩:=QF.mp hm
 refine ⟨π,ρ,μ,x,μ1,R,E,h1,fun π1 v1 H1 e1 R1 i1=>⟨π1,ρ,μ1,l,μ2,R1,E.mono e1,h2,fun π2 H2 e2 R2=>⟨π2,ρ,μ2,u,μ3,R2,(E.mono e1).mono e2,h3,fun π3 H3 e3 R3=>?_⟩⟩⟩
 have i3:=(i1.mono e2).mono e3
 cases i3 with
 | rol h t=>
  simp only [bH,RM] at hm
  cases hm
  refine Au ⟨_,_,rfl,h.sq,fun p hp=>?_⟩
  obtain ⟨e4,R4,q⟩:=R3.alloc (c:=.lst (fT _ l u)) (o:=.lst (i5 _ l u)) hp (Av t l u)
  exact k _ _ _ (((e1.trans e2).trans e3).trans e4) R4 eG
 | @loc i hi'=>
  simp only [bH] at hm
  split at hm
  ·rename_i xs hx
   simp only [RM] at hm
   cases hm
   obtain ⟨vs,h5,h6⟩:=R3.lst i xs hx
   refine Au ⟨_,_,rfl,.of h5,fun p hp=>?_⟩
   obtain ⟨e4,R4,q⟩:=R3.alloc (c:=.lst (fT xs l u)) (o:=.lst (i5 vs l u)) hp (Av h6 l u)
   exact k _ _ _ (((e1.trans e2).trans e3).trans e4) R4 eG
  ·cases hm
 | tup h t=>simp at hm
 | _=>simp [bH] at hm)
end
section
variable {X:Cx}{e a b c:Q1}{m:ME}{pos:Ta}{mt:MT}{st:Stmt}{rest body orelse:List Stmt}{ms mr mu:MS}
noncomputable def b9:MS:=fun ρ μ=>some (.nx,ρ,μ)
noncomputable def aV (a b:MS):MS:=fun ρ μ=>(a ρ μ).bind fun p=>match p.1 with|.nx=>b p.2.1 p.2.2|_=>some p
noncomputable def bF (m:ME):MS:=fun ρ μ=>(m ρ μ).map fun p=>(.rt p.1,ρ,p.2)
noncomputable def lK (m:ME):MS:=fun ρ μ=>(m ρ μ).map fun p=>(.nx,ρ,p.2)
noncomputable def cA (t:MT)(a b:MS):MS:=fun ρ μ=>(t ρ μ).bind fun p=>match p.1 with|true=>a ρ p.2|false=>b ρ p.2
noncomputable def bK (i:Nat)(m:ME):MS:=fun ρ μ=>(m ρ μ).map fun p=>(.nx,ρ.set i (some p.1),p.2)
theorem Ik:PSs X [] (cC X.K b9):=Ap FC (by
 rintro E σ H ⟨π,ρ,μ,fl,ρ',μ',R,EN,hm,k⟩
 cases hm
 exact k π σ H .refl R EN)
theorem Il (h1:PS X st (cC X.K ms))(h2:PSs X rest (cC X.K mr)):PSs X (st::rest) (cC X.K (aV ms mr)):=Ap (FD h1 h2) (by
 rintro E σ H ⟨π,ρ,μ,fl,ρ',μ',R,EN,hm,k⟩
 obtain ⟨⟨f1,ρ1,μ1⟩,h1,hm⟩:=QF.mp hm
 refine ⟨π,ρ,μ,f1,ρ1,μ1,R,EN,h1,?_⟩
 cases f1 with
 | nx=>
  intro π1 σ1 H1 e1 R1 E1
  refine ⟨π1,ρ1,μ1,fl,ρ',μ',R1,E1,hm,?_⟩
  cases fl with
  | nx=>exact fun π2 σ2 H2 e2 R2 E2=>k π2 σ2 H2 (e1.trans e2) R2 E2
  | bk=>exact fun π2 σ2 H2 e2 R2 E2=>k π2 σ2 H2 (e1.trans e2) R2 E2
  | ct=>exact fun π2 σ2 H2 e2 R2 E2=>k π2 σ2 H2 (e1.trans e2) R2 E2
  | rt d=>exact KC.after k e1
 | rt d=>cases hm;exact k
 | bk=>cases hm;exact k
 | ct=>cases hm;exact k)
theorem Im (h1:PS X st (cC X.K ms)):PSs X [st] (cC X.K ms):=FE h1
theorem Io:PS X (.Pass pos) (cC X.K b9):=fE FF (by
 rintro E σ H ⟨π,ρ,μ,fl,ρ',μ',R,EN,hm,k⟩
 cases hm
 exact k π σ H .refl R EN)
theorem Ip (he:PE X e (tM X.K m)):PS X (.Return (some e) pos) (cC X.K (bF m)):=fE (FJ he) (by
 rintro E σ H ⟨π,ρ,μ,fl,ρ',μ',R,EN,hm,k⟩
 obtain ⟨⟨x,μ1⟩,h1,hm⟩:=QR.mp hm
 cases hm
 exact ⟨π,ρ,μ,x,μ1,R,EN,h1,k⟩)
theorem Iq (he:PE X e (tM X.K m))(hs:Vo e none pos.line X.env=pure false:=by rfl):PS X (.Expr e pos) (cC X.K (lK m)):=fE (FH he hs) (by
 rintro E σ H ⟨π,ρ,μ,fl,ρ',μ',R,EN,hm,k⟩
 obtain ⟨⟨x,μ1⟩,h1,hm⟩:=QR.mp hm
 cases hm
 exact ⟨π,ρ,μ,x,μ1,R,EN,h1,fun π1 v1 H1 e1 R1 i1=>k π1 σ H1 e1 R1 (EN.mono e1)⟩)
theorem Ir (hc:PT X c (b8 X.K mt))(ha:PSs X body (cC X.K ms))(hb:PSs X orelse (cC X.K mu)):PS X (.If c body orelse pos) (cC X.K (cA mt ms mu)):=fE (FP hc ha hb) (by
 rintro E σ H ⟨π,ρ,μ,fl,ρ',μ',R,EN,hm,k⟩
 obtain ⟨⟨x,μ1⟩,h1,hm⟩:=QF.mp hm
 refine ⟨π,ρ,μ,x,μ1,R,EN,h1,fun π1 H1 e1 R1=>?_⟩
 have k':lH X.K E π1 μ1.length H1 fl ρ' μ':=by
  cases fl with
  | nx=>exact fun π2 σ2 H2 e2 R2 E2=>k π2 σ2 H2 (e1.trans e2) R2 E2
  | bk=>exact fun π2 σ2 H2 e2 R2 E2=>k π2 σ2 H2 (e1.trans e2) R2 E2
  | ct=>exact fun π2 σ2 H2 e2 R2 E2=>k π2 σ2 H2 (e1.trans e2) R2 E2
  | rt d=>exact KC.after k e1
 cases x with
 | true=>
  refine j8 ?_
  exact ⟨π1,ρ,μ1,fl,ρ',μ',R1,EN.mono e1,hm,k'⟩
 | false=>
  refine j7 ?_
  exact ⟨π1,ρ,μ1,fl,ρ',μ',R1,EN.mono e1,hm,k'⟩)
theorem Aw {i:Nat}{x:Str}{pos':Ta}(hN:X.N.Nodup)(hi:X.N[i]? = some x)(hx:Loc X.env.scope x)(he:PE X e (tM X.K m))(hs:Vo e (some (.Name x pos')) pos.line X.env=pure false:=by rfl)
  (hf:X.fn x=true\/X.env.scope.names.lookup x=some .local:=by first|exact .inl rfl|exact .inr rfl|assumption):PS X (.Assign [.Name x pos'] e pos) (cC X.K (bK i m)):=fE (FV hN hi hx he hs hf) (by
 rintro E σ H ⟨π,ρ,μ,fl,ρ',μ',R,EN,hm,k⟩
 obtain ⟨⟨x,μ1⟩,h1,hm⟩:=QR.mp hm
 cases hm
 exact ⟨π,ρ,μ,x,μ1,R,EN,h1,fun π1 v1 H1 e1 R1 i1=>k π1 _ H1 e1 R1 ((EN.mono e1).set i1 i)⟩)
end
noncomputable def pN (n:Nat)(ds:List D):aG:=ds.map some++Tq (n - ds.length) none
noncomputable def tN (n:Nat)(m:MS):MF:=fun ds μ=>(m (pN n ds) μ).bind fun p=>match p.1 with|.rt d=>some (d,p.2.2)|.nx=>some (.non,p.2.2)|_=>none
theorem Iu {K:QH}{π:Nat->Addr}{n:Nat}{H:Hp}{N:List Str}{vs:List V}{ds:List D}(h:IsDs K π n H vs ds)(hl:vs.length<=N.length):En K π n H (L2.start N vs) (pN N.length ds):=by
 have hlen:=h.length
 refine ⟨by simp [L2.start,pN,hlen],fun i d e=>?_⟩
 unfold pN at e
 unfold L2.start
 by_cases hi:i<ds.length
 ·rw [Q9 (by simpa using hi),RH] at e
  obtain ⟨d',h1,h2⟩:=QR.mp e
  cases h2
  obtain ⟨v,h3,h4⟩:=h.get h1
  exact ⟨v,by rw [Q9 (by rw [QY,hlen];exact hi),RH,h3];rfl,h4⟩
 ·rw [Rg (by simpa using Up.mp hi)] at e
  have:=Ug (n:=N.length - ds.length) (a:=(none:Option D)) (i:=i - (ds.map some).length)
  rw [this] at e
  split at e<;>simp at e
section
variable {P:Rk}{w:RG}{K:QH}{mg:Str->Option QL}{base:Si}
theorem Iw {x qual:Str}{st:Stmt}{f:Addr}{fd:T3}{N ps:List Str}{k:Nat}{m:MS}(F:Fun K x qual st f fd)(S:FnScope N ps (bU st))(hps:ps.length<=N.length)
  (hbody:∀ (cdv:QL)(A:Rw)(outer:List W3)(s:QM)(H:Hp)(E:XK),Room k (A.deeper (XO qual (bU st) s.heap.objs.size f cdv))->
   PSs (gY d5 P w K mg base N qual (bU st) f cdv A outer s H E).nox (eE st) (cC K m)):FnOk P w K mg base d5 (k+1) f fd ps (fS K ps.length (tN N.length m)):=by
 refine F.ok S (fun vs H Q E h=>h.1) fun cdv A outer s H vs Q E hr h=>⟨_,hbody cdv A outer s H E hr,?_⟩
 obtain ⟨hv,π,ds,μ,d,μ',R,i,hm,kc⟩:=h
 obtain ⟨⟨fl,ρ',μ1⟩,h1,hm⟩:=QF.mp hm
 refine ⟨π,_,μ,fl,ρ',μ1,R,Iu i (by rw [hv];exact hps),h1,?_⟩
 cases fl with
 | rt d'=>cases hm;exact kc
 | nx=>cases hm;exact fun π1 σ1 H1 e1 R1 E1=>kc π1 .non H1 e1 R1 .non
 | bk=>cases hm
 | ct=>cases hm
end
end L3
namespace L3
open PySem L2
open SeqAt (EqAt RcAt RcNeAt)
inductive KD where
 | non|bl (b:Bool)|int (i:Int)|str (x:Str)|tup (n:Nat)|lst (n:Nat)
inductive IsK (s:QM):QL->KD->Prop where
 | non:IsK s .none .non
 | bl (b:Bool):IsK s (.bool b) (.bl b)
 | int (i:Int)(t:a0D):IsK s (.int i t) (.int i)
 | str (x:Str)(t:a0D):IsK s (.str x t) (.str x)
 | tup {l:Addr}{its:List QL}(h:s.heap.IsTuple l its.toArray):IsK s (.ref l) (.tup its.length)
 | lst {l:Addr}{its:List QL}(h:s.heap.IsList l its.toArray):IsK s (.ref l) (.lst its.length)
noncomputable def lM (e:Nat->Bool):KD->KD->Bool
 | .non,.non=>true
 | .bl a,.bl b=>a == b
 | .bl a,.int b=>(if a then 1 else 0) == b
 | .int a,.bl b=>a == (if b then 1 else 0)
 | .int a,.int b=>a == b
 | .str a,.str b=>a == b
 | .tup n,.tup k=>(Se (min n k)).all e&&n == k
 | .lst n,.lst k=>(Se (min n k)).all e&&n == k
 | _,_=>false
noncomputable def pO (A:Rw)(s:QM)(u v:QL)(e:Nat->Bool):Prop:=
 (∀ l b items items2,u=.ref l->v=.ref b->s.heap.IsTuple l items->s.heap.IsTuple b items2->∀ j (h1:j<items.size)(h2:j<items2.size),EqAt A.in1 s items[j] items2[j] (e j)) /\
 (∀ l b items items2,u=.ref l->v=.ref b->s.heap.IsList l items->s.heap.IsList b items2->∀ j (h1:j<items.size)(h2:j<items2.size),EqAt A.in1 s items[j] items2[j] (e j))
section
variable {A:Rw}{s:QM}{u v:QL}{k k':KD}{e:Nat->Bool}
theorem Ax {n k:Nat}(e:Nat->Bool)(h:n=k):((Se (min n k)).all e&&n == k)=(Se n).all e:=by
 subst h
 simp
theorem Ay {n k:Nat}(e:Nat->Bool)(h:n≠k):((Se (min n k)).all e&&n == k)=false:=by
 simp [h]
theorem tP (h:IsK s u k)(h':IsK s v k')(hu:A.units<SK)(he:pO A s u v e):RcAt A s u v (lM e k k'):=by
 cases h with
 | non=>
  cases h' with
  | non=>exact RcAt.none_none
  | bl b=>exact RcAt.none_bool b
  | int i t=>exact RcAt.none_int i t
  | str x t=>exact RcAt.none_str x t
  | tup h=>exact RcAt.none_tuple h hu
  | lst h=>exact RcAt.none_list h hu
 | bl a=>
  cases h' with
  | non=>exact RcAt.bool_none a
  | bl b=>exact RcAt.bool_bool a b
  | int i t=>exact RcAt.bool_int a i t
  | str x t=>exact RcAt.bool_str a x t
  | tup h=>exact RcAt.bool_tuple a h hu
  | lst h=>exact RcAt.bool_list a h hu
 | int a ta=>
  cases h' with
  | non=>exact RcAt.int_none a ta
  | bl b=>exact RcAt.int_bool a ta b
  | int i t=>exact RcAt.int_int a ta i t
  | str x t=>exact RcAt.int_str a ta x t
  | tup h=>exact RcAt.int_tuple a ta h hu
  | lst h=>exact RcAt.int_list a ta h hu
 | str a ta=>
  cases h' with
  | non=>exact RcAt.str_none a ta
  | bl b=>exact RcAt.str_bool a ta b
  | int i t=>exact RcAt.str_int a ta i t
  | str x t=>exact RcAt.str_str a ta x t
  | tup h=>exact RcAt.str_tuple a ta h hu
  | lst h=>exact RcAt.str_list a ta h hu
 | tup g=>
  cases h' with
  | non=>exact RcAt.tuple_none g hu
  | bl b=>exact RcAt.tuple_bool b g hu
  | int i t=>exact RcAt.tuple_int i t g hu
  | str x t=>exact RcAt.tuple_str x t g hu
  | tup h=>
   have:=RcAt.tuples (e:=e) g h hu (he.1 _ _ _ _ rfl rfl g h)
   simpa [lM] using this
  | lst h=>exact RcAt.tuple_list g h hu
 | lst g=>
  cases h' with
  | non=>exact RcAt.list_none g hu
  | bl b=>exact RcAt.list_bool b g hu
  | int i t=>exact RcAt.list_int i t g hu
  | str x t=>exact RcAt.list_str x t g hu
  | tup h=>exact RcAt.list_tuple g h hu
  | @lst b its2 h=>
   rename_i l its
   by_cases hl:its.length=its2.length
   ·have:=RcAt.lists (e:=e) g h (by simpa using hl) hu (he.2 _ _ _ _ rfl rfl g h)
    show RcAt A s _ _ ((Se (min its.length its2.length)).all e&&its.length == its2.length)
    rw [Ax e hl]
    simpa using this
   ·have:=RcAt.lists_lengths g h (by simpa using hl) hu
    show RcAt A s _ _ ((Se (min its.length its2.length)).all e&&its.length == its2.length)
    rw [Ay e hl]
    exact this
theorem Iy (h:IsK s u k)(h':IsK s v k')(hu:A.units<SK)(he:pO A s u v e):RcNeAt A s u v (!lM e k k'):=by
 cases h with
 | non=>
  cases h' with
  | non=>exact RcNeAt.none_none
  | bl b=>exact RcNeAt.none_bool b
  | int i t=>exact RcNeAt.none_int i t
  | str x t=>exact RcNeAt.none_str x t
  | tup h=>exact RcNeAt.none_tuple h hu
  | lst h=>exact RcNeAt.none_list h hu
 | bl a=>
  cases h' with
  | non=>exact RcNeAt.bool_none a
  | bl b=>exact RcNeAt.bool_bool a b
  | int i t=>exact RcNeAt.bool_int a i t
  | str x t=>exact RcNeAt.bool_str a x t
  | tup h=>exact RcNeAt.bool_tuple a h hu
  | lst h=>exact RcNeAt.bool_list a h hu
 | int a ta=>
  cases h' with
  | non=>exact RcNeAt.int_none a ta
  | bl b=>exact RcNeAt.int_bool a ta b
  | int i t=>exact RcNeAt.int_int a ta i t
  | str x t=>exact RcNeAt.int_str a ta x t
  | tup h=>exact RcNeAt.int_tuple a ta h hu
  | lst h=>exact RcNeAt.int_list a ta h hu
 | str a ta=>
  cases h' with
  | non=>exact RcNeAt.str_none a ta
  | bl b=>exact RcNeAt.str_bool a ta b
  | int i t=>exact RcNeAt.str_int a ta i t
  | str x t=>exact RcNeAt.str_str a ta x t
  | tup h=>exact RcNeAt.str_tuple a ta h hu
  | lst h=>exact RcNeAt.str_list a ta h hu
 | tup g=>
  cases h' with
  | non=>exact RcNeAt.tuple_none g hu
  | bl b=>exact RcNeAt.tuple_bool b g hu
  | int i t=>exact RcNeAt.tuple_int i t g hu
  | str x t=>exact RcNeAt.tuple_str x t g hu
  | tup h=>
   have:=RcNeAt.tuples (e:=e) g h hu (he.1 _ _ _ _ rfl rfl g h)
   simpa [lM] using this
  | lst h=>exact RcNeAt.tuple_list g h hu
 | lst g=>
  cases h' with
  | non=>exact RcNeAt.list_none g hu
  | bl b=>exact RcNeAt.list_bool b g hu
  | int i t=>exact RcNeAt.list_int i t g hu
  | str x t=>exact RcNeAt.list_str x t g hu
  | tup h=>exact RcNeAt.list_tuple g h hu
  | @lst b its2 h=>
   rename_i l its
   by_cases hl:its.length=its2.length
   ·have:=RcNeAt.lists (e:=e) g h (by simpa using hl) hu (he.2 _ _ _ _ rfl rfl g h)
    show RcNeAt A s _ _ (!((Se (min its.length its2.length)).all e&&its.length == its2.length))
    rw [Ax e hl]
    simpa using this
   ·have:=RcNeAt.lists_lengths g h (by simpa using hl) hu
    show RcNeAt A s _ _ (!((Se (min its.length its2.length)).all e&&its.length == its2.length))
    rw [Ay e hl]
    exact this
theorem Iz (h:IsK s u k)(h':IsK s v k')(hu:A.units<SK)(he:pO A s u v e)(hne:∀ l b,u=.ref l->v=.ref b->l≠b):EqAt A s u v (lM e k k'):=by
 cases h with
 | non=>
  cases h' with
  | non=>exact EqAt.same _
  | bl b=>exact EqAt.none_bool b
  | int i t=>exact EqAt.none_int i t
  | str x t=>exact EqAt.none_str x t
  | tup h=>exact EqAt.none_tuple h hu
  | lst h=>exact EqAt.none_list h hu
 | bl a=>
  cases h' with
  | non=>exact EqAt.bool_none a
  | bl b=>exact EqAt.bool_bool a b
  | int i t=>exact EqAt.bool_int a i t
  | str x t=>exact EqAt.bool_str a x t
  | tup h=>exact EqAt.bool_tuple a h hu
  | lst h=>exact EqAt.bool_list a h hu
 | int a ta=>
  cases h' with
  | non=>exact EqAt.int_none a ta
  | bl b=>exact EqAt.int_bool a ta b
  | int i t=>exact EqAt.int_int a ta i t
  | str x t=>exact EqAt.int_str a ta x t
  | tup h=>exact EqAt.int_tuple a ta h hu
  | lst h=>exact EqAt.int_list a ta h hu
 | str a ta=>
  cases h' with
  | non=>exact EqAt.str_none a ta
  | bl b=>exact EqAt.str_bool a ta b
  | int i t=>exact EqAt.str_int a ta i t
  | str x t=>exact EqAt.str_str a ta x t
  | tup h=>exact EqAt.str_tuple a ta h hu
  | lst h=>exact EqAt.str_list a ta h hu
 | @tup l its g=>
  cases h' with
  | non=>exact EqAt.tuple_none g hu
  | bl b=>exact EqAt.tuple_bool b g hu
  | int i t=>exact EqAt.tuple_int i t g hu
  | str x t=>exact EqAt.tuple_str x t g hu
  | @tup b its2 h=>exact EqAt.of_refs (hne l b rfl rfl) (tP (k:=.tup its.length) (k':=.tup its2.length) (.tup g) (.tup h) hu he)
  | lst h=>exact EqAt.tuple_list g h hu
 | @lst l its g=>
  cases h' with
  | non=>exact EqAt.list_none g hu
  | bl b=>exact EqAt.list_bool b g hu
  | int i t=>exact EqAt.list_int i t g hu
  | str x t=>exact EqAt.list_str x t g hu
  | tup h=>exact EqAt.list_tuple g h hu
  | @lst b its2 h=>exact EqAt.of_refs (hne l b rfl rfl) (tP (k:=.lst its.length) (k':=.lst its2.length) (.lst g) (.lst h) hu he)
end
inductive KdD where
 | non|bl (b:Bool)|int (i:Int)|str (x:Str)|tup (xs:List D)|lst (xs:List D)
noncomputable def d6 (μ:Hm):D->Option KdD
 | .non=>some .non
 | .bl b=>some (.bl b)
 | .int i=>some (.int i)
 | .str x=>some (.str x)
 | .tup xs=>some (.tup xs)
 | .rol xs=>some (.lst xs)
 | .loc a=>match μ[a]? with|some (.lst xs)=>some (.lst xs)|_=>none
 | .ty _=>none
noncomputable def eI (f:D->D->Option Bool):List D->List D->Option Bool
 | x::xs,y::ys=>(f x y).bind fun b=>(eI f xs ys).map fun c=>b&&c
 | [],[]=>some true
 | _,_=>some false
noncomputable def fU (f:D->D->Option Bool):KdD->KdD->Option Bool
 | .non,.non=>some true
 | .bl a,.bl b=>some (a == b)
 | .bl a,.int b=>some ((if a then 1 else 0) == b)
 | .int a,.bl b=>some (a == (if b then 1 else 0))
 | .int a,.int b=>some (a == b)
 | .str a,.str b=>some (a == b)
 | .tup xs,.tup ys=>eI f xs ys
 | .lst xs,.lst ys=>eI f xs ys
 | _,_=>some false
noncomputable def bP:Nat->Hm->D->D->Option Bool
 | 0,_,_,_=>none
 | n+1,μ,x,y=>(d6 μ x).bind fun a=>(d6 μ y).bind fun b=>fU (bP n μ) a b
noncomputable def tQ:KdD->KD
 | .non=>.non|.bl b=>.bl b|.int i=>.int i|.str x=>.str x|.tup xs=>.tup xs.length|.lst xs=>.lst xs.length
noncomputable def lN:KdD->List D
 | .tup xs=>xs|.lst xs=>xs|_=>[]
section
variable {X:Cx}{a2j:List (Addr×Td)}{σ:St}{H:Hp}{s:QM}{π:Nat->Addr}{μ:Hm}
inductive KdAt (X:Cx)(π:Nat->Addr)(n:Nat)(H:Hp)(s:QM)(u:QL):KdD->Prop where
 | non (h:u=.none):KdAt X π n H s u .non
 | bl (b:Bool)(h:u=.bool b):KdAt X π n H s u (.bl b)
 | int (i:Int)(t:a0D)(h:u=.int i t):KdAt X π n H s u (.int i)
 | str (x:Str)(t:a0D)(h:u=.str x t):KdAt X π n H s u (.str x)
 | tup {xs:List D}(p:Addr)(vs:List V)(its:List QL)(h:u=.ref p)(q:SqT X.K H p vs)(i:IsDs X.K π n H vs xs)(r:Vals vs its)(t:s.heap.IsTuple p its.toArray):KdAt X π n H s u (.tup xs)
 | lst {xs:List D}(p:Addr)(vs:List V)(its:List QL)(h:u=.ref p)(q:SqL X.K H p vs)(i:IsDs X.K π n H vs xs)(r:Vals vs its)(t:s.heap.IsList p its.toArray):KdAt X π n H s u (.lst xs)
theorem lO (I:Inv X a2j σ H s)(R:Rp X.K π H μ){v:V}{d:D}{u:QL}(h:IsD X.K π μ.length H v d)(r:RelV v u){k:KdD}(e:d6 μ d=some k):KdAt X π μ.length H s u k:=by
 cases h with
 | non=>cases e;exact .non r
 | bl b=>cases e;exact .bl b r
 | int i=>cases e;obtain ⟨t,q⟩:=r;exact .int i t q
 | str x=>cases e;obtain ⟨t,q⟩:=r;exact .str x t q
 | ty x=>cases e
 | tup q t=>
  cases e
  obtain ⟨its,r',p,_⟩:=I.tuple q
  exact .tup _ _ its r q t r' p
 | rol q t=>
  cases e
  obtain ⟨its,r',p,_⟩:=I.list q.sq
  exact .lst _ _ its r q.sq t r' p.isList
 | @loc a ha=>
  simp only [d6] at e
  split at e
  ·rename_i xs hx
   cases e
   obtain ⟨vs,h1,h2⟩:=R.lst a xs hx
   have q:SqL X.K H (π a) vs:=.of h1
   obtain ⟨its,r',p,_⟩:=I.list q
   exact .lst _ _ its r q h2 r' p.isList
  ·cases e
theorem KdAt.isK {u:QL}{k:KdD}{n:Nat}(h:KdAt X π n H s u k):IsK s u (tQ k):=by
 cases h with
 | non h=>subst h;exact .non
 | bl b h=>subst h;exact .bl b
 | int i t h=>subst h;exact .int i t
 | str x t h=>subst h;exact .str x t
 | tup p vs its h q i r t=>
  subst h
  have:its.length=_:=r.length.symm.trans i.length
  show IsK s (.ref p) (.tup _)
  rw [<- this]
  exact .tup t
 | lst p vs its h q i r t=>
  subst h
  have:its.length=_:=r.length.symm.trans i.length
  show IsK s (.ref p) (.lst _)
  rw [<- this]
  exact .lst t
noncomputable def e6 (f:D->D->Option Bool)(xs ys:List D)(j:Nat):Bool:=match xs[j]?,ys[j]? with
 | some x,some y=>(f x y).getD false
 | _,_=>false
theorem tR {f:D->D->Option Bool}:∀ {xs ys:List D}{b:Bool},eI f xs ys=some b->b=((Se (min xs.length ys.length)).all (e6 f xs ys)&&xs.length == ys.length)/\∀ (j:Nat) x y,xs[j]? = some x->ys[j]? = some y->f x y=some (e6 f xs ys j)
 | [],[],b,h=>by
  cases h
  exact ⟨rfl,fun j x y e=>by simp at e⟩
 | x::xs,[],b,h=>by
  cases h
  exact ⟨by simp,fun j x y _ e=>by simp at e⟩
 | [],y::ys,b,h=>by
  cases h
  exact ⟨by simp,fun j x y e=>by simp at e⟩
 | x::xs,y::ys,b,h=>by
  simp only [eI] at h
  obtain ⟨c,h1,h2⟩:=QF.mp h
  obtain ⟨d,h3,h4⟩:=QR.mp h2
  obtain ⟨i1,i2⟩:=tR h3
  have h0:e6 f (x::xs) (y::ys) 0=c:=by simp [e6,h1]
  have hs:∀ j,e6 f (x::xs) (y::ys) (j+1)=e6 f xs ys j:=fun j=>by simp [e6]
  refine ⟨?_,fun j x' y' e1 e2=>?_⟩
  ·subst h4
   rw [i1]
   simp only [Rq,Nat.add_min_add_right]
   rw [List.range_succ_eq_map,Sa,List.all_map,h0]
   have:(e6 f (x::xs) (y::ys) ∘ Nat.succ)=e6 f xs ys:=funext fun j=>hs j
   rw [this]
   simp [Bool.and_assoc]
  ·cases j with
   | zero=>
    simp at e1 e2
    subst e1;subst e2
    rw [h0,h1]
   | succ j=>
    rw [hs j]
    exact i2 j x' y' (by simpa using e1) (by simpa using e2)
theorem Az {f:D->D->Option Bool}{k k':KdD}{b:Bool}(h:fU f k k'=some b):b=lM (e6 f (lN k) (lN k')) (tQ k) (tQ k'):=by
 cases k<;>cases k'<;>simp only [fU] at h<;>first
  | (have h':=RA h;subst h';rfl)
  | (obtain ⟨h1,_⟩:=tR h;rw [h1];rfl)
theorem IA (I:Inv X a2j σ H s)(R:Rp X.K π H μ):∀ (n:Nat){v:V}{u:QL}{x y:D}{b:Bool},RelV v u->IsD X.K π μ.length H v x->IsD X.K π μ.length H v y->bP n μ x y=some b->b=true:=by
 intro n
 induction n with
 | zero=>intro v u x y b _ _ _ h;cases h
 | succ n ih=>
  intro v u x y b r hx hy h
  obtain ⟨k,h1,h⟩:=QF.mp h
  obtain ⟨k',h2,h⟩:=QF.mp h
  have a1:=lO I R hx r h1
  have a2:=lO I R hy r h2
  have lists:∀ {vs:List V}{xs ys:List D}{c:Bool},(∀ v∈vs,∃ u,RelV v u)->IsDs X.K π μ.length H vs xs->IsDs X.K π μ.length H vs ys->eI (bP n μ) xs ys=some c->c=true:=by
   intro vs
   induction vs with
   | nil=>intro xs ys c _ i1 i2 h;cases i1;cases i2;cases h;rfl
   | cons w vs ihv=>
    intro xs ys c hr i1 i2 h
    cases i1 with
    | cons p1 t1=>
     cases i2 with
     | cons p2 t2=>
      simp only [eI] at h
      obtain ⟨c1,h1,h3⟩:=QF.mp h
      obtain ⟨c2,h4,h5⟩:=QR.mp h3
      obtain ⟨u',ru⟩:=hr w (Ru ..)
      have e1:=ih ru p1 p2 h1
      have e2:=ihv (fun v hv=>hr v (Rm _ hv)) t1 t2 h4
      subst e1;subst e2
      exact h5.symm
  cases a1 with
  | non e1=>
   subst e1
   cases a2 with
   | non _=>simp only [fU] at h;exact (RA h).symm
   | bl _ e=>cases e
   | int _ _ e=>cases e
   | str _ _ e=>cases e
   | tup _ _ _ e=>cases e
   | lst _ _ _ e=>cases e
  | bl c e1=>
   subst e1
   cases a2 with
   | non e=>cases e
   | bl _ e=>cases e;simp only [fU,beq_self_eq_true] at h;exact (RA h).symm
   | int _ _ e=>cases e
   | str _ _ e=>cases e
   | tup _ _ _ e=>cases e
   | lst _ _ _ e=>cases e
  | int c t e1=>
   subst e1
   cases a2 with
   | non e=>cases e
   | bl _ e=>cases e
   | int _ _ e=>cases e;simp only [fU,beq_self_eq_true] at h;exact (RA h).symm
   | str _ _ e=>cases e
   | tup _ _ _ e=>cases e
   | lst _ _ _ e=>cases e
  | str c t e1=>
   subst e1
   cases a2 with
   | non e=>cases e
   | bl _ e=>cases e
   | int _ _ e=>cases e
   | str _ _ e=>cases e;simp only [fU,beq_self_eq_true] at h;exact (RA h).symm
   | tup _ _ _ e=>cases e
   | lst _ _ _ e=>cases e
  | tup p vs its e1 q i rv t=>
   have z:KdAt X π μ.length H s (.ref p) _:=e1 ▸ KdAt.tup p vs its e1 q i rv t
   rw [e1] at a2
   cases a2 with
   | non e=>cases e
   | bl _ e=>cases e
   | int _ _ e=>cases e
   | str _ _ e=>cases e
   | tup p2 vs2 its2 e2 q2 i2 rv2 t2=>
    cases e2
    have:=I.tuple_inj q q2
    subst this
    exact lists (fun v hv=>by
     obtain ⟨j,hj,rfl⟩:=TK hv
     obtain ⟨u',_,ru⟩:=rv.get (QV hj)
     exact ⟨u',ru⟩) i i2 h
   | lst p2 vs2 its2 e2 q2 i2 rv2 t2=>
    cases e2
    exact absurd rfl (Tf t2 t)
  | lst p vs its e1 q i rv t=>
   rw [e1] at a2
   cases a2 with
   | non e=>cases e
   | bl _ e=>cases e
   | int _ _ e=>cases e
   | str _ _ e=>cases e
   | tup p2 vs2 its2 e2 q2 i2 rv2 t2=>
    cases e2
    exact absurd rfl (Tf t t2)
   | lst p2 vs2 its2 e2 q2 i2 rv2 t2=>
    cases e2
    have:=I.list_inj q q2
    subst this
    exact lists (fun v hv=>by
     obtain ⟨j,hj,rfl⟩:=TK hv
     obtain ⟨u',_,ru⟩:=rv.get (QV hj)
     exact ⟨u',ru⟩) i i2 h
theorem kD (A:Rw):A.in1.units=A.units+1:=rfl
theorem AA (I:Inv X a2j σ H s){A:Rw}{n:Nat}(ih:∀ {A:Rw}{v v':V}{u u':QL}{x y:D}{b:Bool},A.units+n<SK->RelV v u->RelV v' u'->IsD X.K π μ.length H v x->IsD X.K π μ.length H v' y->bP n μ x y=some b->EqAt A s u u' b)
  (hu:A.units+(n+1)<SK){u u':QL}{k k':KdD}{b:Bool}(a1:KdAt X π μ.length H s u k)(a2:KdAt X π μ.length H s u' k')(h:fU (bP n μ) k k'=some b):pO A s u u' (e6 (bP n μ) (lN k) (lN k')):=by
 have core:∀ {vs vs':List V}{its its':List QL}{xs ys:List D}{c:Bool},Vals vs its->Vals vs' its'->IsDs X.K π μ.length H vs xs->IsDs X.K π μ.length H vs' ys->eI (bP n μ) xs ys=some c->
   ∀ j (h1:j<its.length)(h2:j<its'.length),EqAt A.in1 s its[j] its'[j] (e6 (bP n μ) xs ys j):=by
  intro vs vs' its its' xs ys c r r' i i' e j h1 h2
  have l1:=r.length
  have l2:=r'.length
  have l3:=i.length
  have l4:=i'.length
  have hx:xs[j]? = some (xs[j]'(by omega)):=QV _
  have hy:ys[j]? = some (ys[j]'(by omega)):=QV _
  obtain ⟨v,v1,v2⟩:=i.get hx
  obtain ⟨v',v1',v2'⟩:=i'.get hy
  obtain ⟨w,w1,w2⟩:=r.get v1
  obtain ⟨w',w1',w2'⟩:=r'.get v1'
  rw [QV h1] at w1
  rw [QV h2] at w1'
  cases w1
  cases w1'
  exact ih (by rw [kD];omega) w2 w2' v2 v2' ((tR e).2 j _ _ hx hy)
 constructor
 ·intro l b' items items2 e1 e2 t1 t2 j h1 h2
  subst e1;subst e2
  cases a1 with
  | tup p vs its e q i r t=>
   cases e
   cases a2 with
   | tup p2 vs2 its2 e' q2 i2 r2 t'=>
    cases e'
    have z1:items=its.toArray:=by
     obtain ⟨o,g1,g2,n1,g3⟩:=t1
     obtain ⟨o',g1',g2',n1',g3'⟩:=t
     rw [g1] at g1';cases g1'
     rw [g3] at g3'
     injection g3'
    have z2:items2=its2.toArray:=by
     obtain ⟨o,g1,g2,n1,g3⟩:=t2
     obtain ⟨o',g1',g2',n1',g3'⟩:=t'
     rw [g1] at g1';cases g1'
     rw [g3] at g3'
     injection g3'
    subst z1;subst z2
    have:=core r r2 i i2 h j (by simpa using h1) (by simpa using h2)
    simpa [lN] using this
   | lst p2 vs2 its2 e' q2 i2 r2 t'=>
    cases e'
    exact absurd rfl (Tf t' t2)
   | non e'=>cases e'
   | bl _ e'=>cases e'
   | int _ _ e'=>cases e'
   | str _ _ e'=>cases e'
  | lst p vs its e q i r t=>
   cases e
   exact absurd rfl (Tf t t1)
  | non e=>cases e
  | bl _ e=>cases e
  | int _ _ e=>cases e
  | str _ _ e=>cases e
 ·intro l b' items items2 e1 e2 t1 t2 j h1 h2
  subst e1;subst e2
  cases a1 with
  | lst p vs its e q i r t=>
   cases e
   cases a2 with
   | lst p2 vs2 its2 e' q2 i2 r2 t'=>
    cases e'
    have z1:items=its.toArray:=by
     obtain ⟨o,g1,g2,n1,g3⟩:=t1
     obtain ⟨o',g1',g2',n1',g3'⟩:=t
     rw [g1] at g1';cases g1'
     rw [g3] at g3'
     injection g3'
    have z2:items2=its2.toArray:=by
     obtain ⟨o,g1,g2,n1,g3⟩:=t2
     obtain ⟨o',g1',g2',n1',g3'⟩:=t'
     rw [g1] at g1';cases g1'
     rw [g3] at g3'
     injection g3'
    subst z1;subst z2
    have:=core r r2 i i2 h j (by simpa using h1) (by simpa using h2)
    simpa [lN] using this
   | tup p2 vs2 its2 e' q2 i2 r2 t'=>
    cases e'
    exact absurd rfl (Tf t2 t')
   | non e'=>cases e'
   | bl _ e'=>cases e'
   | int _ _ e'=>cases e'
   | str _ _ e'=>cases e'
  | tup p vs its e q i r t=>
   cases e
   exact absurd rfl (Tf t1 t)
  | non e=>cases e
  | bl _ e=>cases e
  | int _ _ e=>cases e
  | str _ _ e=>cases e
theorem tS (I:Inv X a2j σ H s)(R:Rp X.K π H μ):∀ (n:Nat){A:Rw}{v v':V}{u u':QL}{x y:D}{b:Bool},A.units+n<SK->RelV v u->RelV v' u'->IsD X.K π μ.length H v x->IsD X.K π μ.length H v' y->bP n μ x y=some b->EqAt A s u u' b:=by
 intro n
 induction n with
 | zero=>intro A v v' u u' x y b _ _ _ _ _ h;cases h
 | succ n ih=>
  intro A v v' u u' x y b hu r r' hx hy h
  have h0:=h
  obtain ⟨k,h1,h⟩:=QF.mp h
  obtain ⟨k',h2,h⟩:=QF.mp h
  have a1:=lO I R hx r h1
  have a2:=lO I R hy r' h2
  by_cases hs:u=u'
  ·subst hs
   have:v=v':=r.inj r'
   subst this
   have:=IA I R (n+1) r hx hy h0
   subst this
   exact EqAt.same _
  ·have he:=AA I ih hu a1 a2 h
   rw [Az h]
   exact Iz a1.isK a2.isK (by omega) he fun l b' e1 e2 z=>hs (by rw [e1,e2,z])
theorem AB (I:Inv X a2j σ H s)(R:Rp X.K π H μ)(n:Nat){A:Rw}{v v':V}{u u':QL}{x y:D}{b:Bool}(hu:A.units+n<SK)(r:RelV v u)(r':RelV v' u')(hx:IsD X.K π μ.length H v x)(hy:IsD X.K π μ.length H v' y)(h:bP n μ x y=some b) :
  RcAt A s u u' b/\RcNeAt A s u u' (!b):=by
 cases n with
 | zero=>cases h
 | succ n=>
  obtain ⟨k,h1,h⟩:=QF.mp h
  obtain ⟨k',h2,h⟩:=QF.mp h
  have a1:=lO I R hx r h1
  have a2:=lO I R hy r' h2
  have he:=AA I (A:=A) (tS I R n) hu a1 a2 h
  rw [Az h]
  exact ⟨tP a1.isK a2.isK (by omega) he,Iy a1.isK a2.isK (by omega) he⟩
end
end L3
namespace L3
open PySem L2
open SeqAt (EqAt RcAt RcNeAt)
section
variable {K:QH}
noncomputable def iA (g:Int->Int->Option Int):D->D->Hm->Option (D×Hm)
 | .int i,.int j,μ=>(g i j).map fun z=>(.int z,μ)
 | _,_,_=>none
theorem AD {g:Int->Int->Option Int}{x y d:D}{μ μ':Hm}(h:iA g x y μ=some (d,μ')):∃ i j z,x=.int i/\y=.int j/\g i j=some z/\d=.int z/\μ'=μ:=by
 unfold iA at h
 split at h
 ·rename_i i j
  obtain ⟨z,h1,h2⟩:=QR.mp h
  cases h2
  exact ⟨i,j,z,rfl,rfl,h1,rfl,rfl⟩
 ·cases h
theorem pP {Cc:Int->Int->Prop}{g:Int->Int->Option Int}{g':Int->Int->Int}(hg:∀ i j z,g i j=some z->Cc i j/\z=g' i j):bV K (iA g) (rI Cc fun i j=>.int (g' i j)):=by
 intro π H μ x y d μ' vx vy Q R ix iy hm k
 obtain ⟨i,j,z,rfl,rfl,h1,rfl,rfl⟩:=AD hm
 cases ix
 cases iy
 obtain ⟨c,rfl⟩:=hg i j z h1
 exact ⟨i,j,rfl,rfl,c,k π _ H .refl R (.int _)⟩
theorem IB {g':Int->Int->Int}:bV K (iA fun i j=>some (g' i j)) (eD fun i j=>.int (g' i j)):=by
 intro π H μ x y d μ' vx vy Q R ix iy hm k
 obtain ⟨i,j,z,rfl,rfl,h1,rfl,rfl⟩:=AD hm
 cases ix
 cases iy
 cases h1
 exact ⟨i,j,rfl,rfl,k π _ H .refl R (.int _)⟩
noncomputable def nN:=iA fun i j=>some (i - j)
noncomputable def AE:=iA fun i j=>if ((-(2 ^ 64)<i/\i<2 ^ 64)\/(-(2 ^ 64)<j/\j<2 ^ 64))\/(i.natAbs<2 ^ 4000/\j.natAbs<2 ^ 4000)\/RI i+RI j<=134217728 then some (i * j) else none
noncomputable def dU:D->D->Hm->Option (D×Hm)
 | x,y,μ=>AE x y μ
noncomputable def dW:=iA fun i j=>if 0<j/\j<2 ^ 4000 then some (i / j) else none
noncomputable def bQ:=iA fun i j=>if 0<j then some (i % j) else none
noncomputable def tT:=iA fun i j=>if (0<=j/\j<=1000000/\i.natAbs<2 ^ 64)\/(0<=j/\j<=100/\i.natAbs<2 ^ 4000) then some (i ^ j.toNat) else none
noncomputable def CMulB (i j:Int):Prop:=CMul i j\/(i.natAbs<2 ^ 4000/\j.natAbs<2 ^ 4000)\/RI i+RI j<=134217728
noncomputable def AF (i j:Int):Prop:=0<j/\j<2 ^ 4000
noncomputable def AG (i j:Int):Prop:=Ga i j\/(0<=j/\j<=100/\i.natAbs<2 ^ 4000)
theorem tU {i:Int}(h:i.natAbs<2 ^ 4000):RI i<=4000:=by
 unfold RI
 split
 ·exact Su _
 ·rename_i hz
  have h0:i.natAbs≠0:=by
   intro z
   exact hz (by simpa using z)
  have:=(a1K h0).mpr h
  omega
theorem CMulB.ok {i j:Int}(h:CMulB i j):a0i i j:=by
 rcases h with h|⟨h1,h2⟩|h
 ·exact h.ok
 rotate_left
 ·have hl:U1 (RI i+RI j)=false:=by
   unfold U1
   rw [decide_eq_false]
   have:bitsLine=134217728:=by decide
   omega
  unfold a0i
  rw [hl]
  simp
 ·have b1:=tU h1
  have b2:=tU h2
  have hl:U1 (RI i+RI j)=false:=by
   unfold U1
   rw [decide_eq_false]
   have:(8000:Int)<=bitsLine:=by decide
   omega
  unfold a0i
  rw [hl]
  simp
section
variable {X:Cx}
theorem IC:OpR X (US .Mult) (rI CMulB fun i j=>.int (i * j)):=o6 fun _ _ _ _ _ _ _ hc q=>a1z q hc.ok
theorem ID:OpR X (US .FloorDiv) (rI AF fun i j=>.int (i / j)):=o6 fun i j _ _ _ _ _ hc q=>by
 have h1:(0:Int)<j:=hc.1
 have h2:j<2 ^ 4000:=hc.2
 have h0:j.natAbs≠0:=by omega
 have h3:j.natAbs<2 ^ 4000:=by
  have:((2 ^ 4000:Nat):Int)=2 ^ 4000:=by decide
  omega
 have h4:=(a1K h0).mpr h3
 exact a1C (by omega) (by rw [Int.fdiv_eq_ediv_of_nonneg i (by omega)];exact q) (.inl (PyProof.noPylong_of_log2 (by omega)))
theorem IE:OpR X (US .Pow) (rI AG fun i j=>.int (i ^ j.toNat)):=o6 fun i j _ _ _ _ _ hc q=>by
 rcases hc with hc|⟨h1,h2,h3⟩
 ·exact a1w hc.1 hc.2.1 hc.2.2 q
 ·have b:=tU h3
  refine a1x h1 ?_ q
  have:(RI i:Int) * j<=4000 * 100:=Int.mul_le_mul (by omega) h2 h1 (by omega)
  omega
end
theorem pQ {c:Prop} [Decidable c] {a z:Int}(h:(if c then some a else none)=some z):c/\z=a:=by
 split at h
 ·cases h;exact ⟨by assumption,rfl⟩
 ·cases h
theorem IF:bV K nN (eD fun i j=>.int (i - j)):=IB
theorem IG:bV K AE (rI CMulB fun i j=>.int (i * j)):=pP fun i j z h=>by
 have:=pQ h
 exact this
theorem IH:bV K dU (rI CMulB fun i j=>.int (i * j)):=IG
theorem II:bV K dW (rI AF fun i j=>.int (i / j)):=pP fun i j z h=>by
 have:=pQ h
 exact this
theorem IJ:bV K bQ (rI (fun _ j=>0<j) fun i j=>.int (i % j)):=pP fun _ _ _ h=>pQ h
theorem IK:bV K tT (rI AG fun i j=>.int (i ^ j.toNat)):=pP fun i j z h=>by
 have:=pQ h
 exact this
noncomputable def tV:D->Option D
 | .int i=>some (.int (-i))
 | _=>none
noncomputable def dH:D->D->Hm->Option (D×Hm)
 | .int i,.int j,μ=>some (.int (i+j),μ)
 | .str x,.str y,μ=>if x.length+y.length<=Q6 then some (.str (x++y),μ) else none
 | .loc a,.loc b,μ=>match μ[a]?,μ[b]? with
  | some (.lst xs),some (.lst ys)=>if xs.length+ys.length<=Q6 then some (.loc μ.length,μ++[.lst (xs++ys)]) else none
  | _,_=>none
 | _,_,_=>none
noncomputable def tW (K:QH):R2:=fun x y H Q=>eD (fun i j=>.int (i+j)) x y H Q\/(∃ i j,x=.str i/\y=.str j/\i.length+j.length<=Q6/\Q (.str (i++j)) H)\/Ae x y H Q
theorem IL {X:Cx}:OpR X (US .Add) (tW X.K):=op_add.or (op_add_str.or Hn)
noncomputable abbrev tX (K:QH):R2:=tW K
theorem IM {X:Cx}:OpR X (US .Add) (tX X.K):=IL
theorem tY {K:QH}{x y:V}{H:Hp}{Q:VK}(h:tW K x y H Q):tX K x y H Q:=h
theorem IP:bV K dH (tX K):=by
 intro π H μ x y d μ' vx vy Q R ix iy hm k
 unfold dH at hm
 split at hm
 ·cases hm
  cases ix
  cases iy
  exact tY (.inl ⟨_,_,rfl,rfl,k π _ H .refl R (.int _)⟩)
 ·split at hm
  ·rename_i hl
   cases hm
   cases ix
   cases iy
   exact tY (.inr (.inl ⟨_,_,rfl,rfl,hl,k π _ H .refl R (.str _)⟩))
  ·cases hm
 ·split at hm
  ·rename_i xs ys ha hb
   split at hm
   ·rename_i hl
    cases hm
    cases ix
    cases iy
    obtain ⟨vs,h1,h2⟩:=R.lst _ xs ha
    obtain ⟨ws,h3,h4⟩:=R.lst _ ys hb
    refine tY (.inr (.inr ⟨_,_,vs,ws,rfl,rfl,by first|exact h1|exact .inl (.inl h1),h3,by rw [h2.length,h4.length];exact hl,fun p hp=>?_⟩))
    obtain ⟨e2,R2,q⟩:=R.alloc (c:=.lst (xs++ys)) (o:=.lst (vs++ws)) hp (h2.append h4)
    exact k _ _ _ e2 R2 eG
   ·cases hm
  ·cases hm
 ·cases hm
noncomputable def d7 (p:Int->Int->Bool):D->D->Hm->Option (D×Hm)
 | .int i,.int j,μ=>some (.bl (p i j),μ)
 | _,_,_=>none
theorem e8 {p:Int->Int->Bool}:bV K (d7 p) (eD fun i j=>.bl (p i j)):=by
 intro π H μ x y d μ' vx vy Q R ix iy hm k
 unfold d7 at hm
 split at hm
 ·cases hm
  cases ix
  cases iy
  exact ⟨_,_,rfl,rfl,k π _ H .refl R (.bl _)⟩
 ·cases hm
noncomputable def fV:=d7 fun i j=>decide (i<j)
noncomputable def lP:=d7 fun i j=>decide (i<=j)
noncomputable def tZ:=d7 fun i j=>decide (j<i)
noncomputable def t4:=d7 fun i j=>decide (j<=i)
noncomputable def t6 (K:QH)(ne:Bool):R2:=fun x y H Q=>∃ π μ dx dy b,Rp K π H μ/\IsD K π μ.length H x dx/\IsD K π μ.length H y dy/\bP 8 μ dx dy=some b/\Q (.bl (if ne then !b else b)) H
theorem AH {X:Cx}(hu:X.A.units+8<SK):OpR X (R6 .Eq) (t6 X.K false):=by
 intro a2j s σ H x y v u Q I rx ry h
 obtain ⟨π,μ,dx,dy,b,R,ix,iy,e,q⟩:=h
 exact (AB I R 8 hu rx ry ix iy e).1 _ _ _ _ ⟨.bl b,H,I,rfl,q⟩
theorem AI {X:Cx}(hu:X.A.units+8<SK):OpR X (R6 .NotEq) (t6 X.K true):=by
 intro a2j s σ H x y v u Q I rx ry h
 obtain ⟨π,μ,dx,dy,b,R,ix,iy,e,q⟩:=h
 exact (AB I R 8 hu rx ry ix iy e).2 _ _ _ _ ⟨.bl (!b),H,I,rfl,q⟩
noncomputable def bL (ne:Bool):D->D->Hm->Option (D×Hm):=fun x y μ=>(bP 8 μ x y).map fun b=>(.bl (if ne then !b else b),μ)
theorem pR {ne:Bool}:bV K (bL ne) (t6 K ne):=by
 intro π H μ x y d μ' vx vy Q R ix iy hm k
 obtain ⟨b,h1,h2⟩:=QR.mp hm
 cases h2
 exact ⟨π,μ,x,y,b,R,ix,iy,h1,k π _ H .refl R (.bl _)⟩
noncomputable def t7:D->D->Hm->Option (D×Hm)
 | .str i,.str j,μ=>some (.bl (!(R0 j i 0 j.length 1).isEmpty),μ)
 | _,_,_=>none
theorem AJ:bV K t7 (fun x y H Q=>∃ i j,x=.str i/\y=.str j/\Q (.bl (!(R0 j i 0 j.length 1).isEmpty)) H):=by
 intro π H μ x y d μ' vx vy Q R ix iy hm k
 unfold t7 at hm
 split at hm
 ·cases hm
  cases ix
  cases iy
  exact ⟨_,_,rfl,rfl,k π _ H .refl R (.bl _)⟩
 ·cases hm
end
section
variable {X:Cx}{a b c:Q1}{ma mb mc:ME}{pos:Ta}
theorem pS {k:Nat}{A:Rw}(r:Room k A):A.units+8<SK:=by have:=r.un;omega
theorem IQ (ha:PE X a (tM X.K ma)):PE X (.UnaryOp .USub a pos) (tM X.K (fun ρ μ=>(ma ρ μ).bind fun p=>(tV p.1).map fun d=>(d,p.2))):=bT (F9 Ge ha) (by
 rintro σ H Q ⟨π,ρ,μ,d,μ',R,E,hm,k⟩
 obtain ⟨⟨x,μ1⟩,h1,hm⟩:=QF.mp hm
 obtain ⟨y,h2,h3⟩:=QR.mp hm
 cases h3
 cases x with
 | int i=>
  cases h2
  refine ⟨π,ρ,μ,_,_,R,E,h1,fun π1 v1 H1 e1 R1 i1=>?_⟩
  cases i1
  exact ⟨_,rfl,k π1 _ H1 e1 R1 (.int _)⟩
 | _=>cases h2)
theorem IS {x:Str}{n:String}(hg:Gl X x)(hm:X.mg x=none)(hv:S2 x=some (.type n))(hn:x ≠ "__name__":=by decide) (hd:(x == ("__debug__":Str))=false:=by decide):PE X (.Name x pos) (tM X.K (mC (.ty n))):=
 lI (Fd (v:=.ty n) hg hm hv rfl hn hd) fun _ _ _=>.ty n
end
noncomputable def pT (μ:Hm):D->Option String
 | .non=>some "NoneType"
 | .bl _=>some "bool"
 | .int _=>some "int"
 | .str _=>some "str"
 | .tup _=>some "tuple"
 | .rol _=>some "list"
 | .loc a=>match μ[a]? with
  | some (.lst _)=>some "list"
  | some (.dK _)=>some "dict"
  | some (.dT _)=>some "dict"
  | _=>none
 | .ty _=>none
noncomputable def pU (t c:String):Option Bool:=match c with
 | "int"=>some (t == "int" || t == "bool")
 | "bool"=>some (t == "bool")
 | "str"=>some (t == "str")
 | "list"=>some (t == "list")
 | "tuple"=>some (t == "tuple")
 | "dict"=>some (t == "dict")
 | _=>none
noncomputable def cD:MF:=fun ds μ=>match ds with
 | [x,.ty c]=>(pT μ x).bind fun t=>(pU t c).map fun b=>(.bl b,μ)
 | _=>none
theorem iB (K:QH){t c:String}{b:Bool}(ht:t = "NoneType"\/t = "bool"\/t = "int"\/t = "str"\/t = "tuple"\/t = "list"\/t = "dict") (h:pU t c=some b):Zz K (.type t) (.type c)=some b:=by
 unfold pU at h
 split at h<;>first
  | cases h;done
  | (have h':=RA h;subst h'
     rcases ht with rfl|rfl|rfl|rfl|rfl|rfl|rfl<;>first|rfl|decide +kernel|(unfold Zz;simp;rfl))
end L3
namespace L3
open PySem L2
noncomputable abbrev MG:=D->aG->Hm->Option aG
noncomputable def eJ (K:QH)(g:MG):TG:=fun v σ H Q=>∃ π ρ μ d ρ',Rp K π H μ/\En K π μ.length H σ ρ/\IsD K π μ.length H v d/\g d ρ μ=some ρ'/\∀ σ',En K π μ.length H σ' ρ'->Q σ' H
noncomputable def c4 (i:Nat):MG:=fun d ρ _=>some (ρ.set i (some d))
section
variable {X:Cx}{pos:Ta}
theorem AK {i:Nat}{x:Str}(hN:X.N.Nodup)(hi:X.N[i]? = some x)(hx:Loc X.env.scope x)(hf:X.fn x=true\/X.env.scope.names.lookup x=some .local:=by first|exact .inl rfl|exact .inr rfl|assumption):PG X (.Name x pos) (eJ X.K (c4 i)):=by
 intro a2j s σ H v u Q I r h
 obtain ⟨π,ρ,μ,d,ρ',R,E,hd,hm,k⟩:=h
 cases hm
 exact yQ hN hi hx hf a2j s σ H v u Q I r (k _ (E.set hd i))
noncomputable def IT (K:QH)(tl:TE):TI:=fun σ H R=>tl σ H fun x H1=>∃ a,x=.ref a/\(((∃ xs,SqL K H1 a xs)/\R (sF K a) H1)\/((∃ xs,SqT K H1 a xs)/\R (sG K a) H1))
theorem IU {l tg:Q1}{tl:TE}(hl:PE X l tl):PI X tg l (IT X.K tl):=by
 intro a2j s σ H R I h
 refine aJ (hl a2j s σ H _ I h) fun v s1 ⟨x,H1,I1,r1,q1⟩=>?_
 obtain ⟨a,e,q⟩:=q1
 subst e
 cases r1
 rcases q with ⟨⟨xs,hq⟩,q⟩|⟨⟨xs,hq⟩,q⟩
 ·obtain ⟨its,rv,p,hz⟩:=I1.list hq
  refine a0L p.isList ?_
  refine ⟨s1.heap.objs.size,[s1.heap.objs.size],_,_,H1,rfl,I1.kept (t':=s1.toks) fun b o e=>QU _ e,FW a _,⟨_,Rj _ rfl,rfl,rfl⟩,fun b hb=>?_,q⟩
  have e:b=s1.heap.objs.size:=by simpa using hb
  subst e
  exact I1.fpOk (Q0 _) (I1.hok.fresh (Q0 _))
 ·obtain ⟨its,rv,p,hz⟩:=I1.tuple hq
  refine a0t (show s1.heap.IsTuple a its.toArray from p) ?_
  refine ⟨s1.heap.objs.size,[s1.heap.objs.size],_,_,H1,rfl,I1.kept (t':=s1.toks) fun b o e=>QU _ e,FX a _,⟨_,Rj _ rfl,rfl,rfl⟩,fun b hb=>?_,q⟩
  have e:b=s1.heap.objs.size:=by simpa using hb
  subst e
  exact I1.fpOk (Q0 _) (I1.hok.fresh (Q0 _))
end
structure Wk (K:QH)(J:It)(src:Hm->Nat->Option (Option D))(π:Nat->Addr)(n:Nat)(H:Hp):Prop where
 stop:∀ π' μ H' i,Ext π n H π' μ.length H'->Rp K π' H' μ->src μ i=some none->J.stop i H'
 go:∀ π' μ H' i d,Ext π n H π' μ.length H'->Rp K π' H' μ->src μ i=some (some d)->J.go i H'/\∀ x H2,J.yld i H' x H2->Ext π' μ.length H' π' μ.length H2/\Rp K π' H2 μ/\IsD K π' μ.length H2 x d
noncomputable def iC (x:D):Hm->Nat->Option (Option D):=fun μ i=>(bH μ x).map fun xs=>xs[i]?
theorem IV {K:QH}{π:Nat->Addr}{μ:Hm}{H:Hp}{v:V}{x:D}{xs:List D}(R:Rp K π H μ)(h:IsD K π μ.length H v x)(hs:bH μ x=some xs) :
  ∃ a,v=.ref a/\(((∃ vs,SqL K H a vs)/\Wk K (sF K a) (iC x) π μ.length H)\/((∃ vs,SqT K H a vs)/\Wk K (sG K a) (iC x) π μ.length H)):=by
 cases h with
 | @tup p vs ds q t=>
  refine ⟨p,rfl,.inr ⟨⟨vs,q⟩,⟨fun π' μ' H' i e R' z=>?_,fun π' μ' H' i d e R' z=>?_⟩⟩⟩
  ·simp only [iC,bH,RL] at z
   have z':ds[i]? = none:=RA z
   exact ⟨vs,e.sqT q,by rw [t.length];exact TZ.mp z'⟩
  ·simp only [iC,bH,RL] at z
   have z':ds[i]? = some d:=RA z
   obtain ⟨w,h1,h2⟩:=t.get z'
   refine ⟨⟨vs,w,e.sqT q,h1⟩,fun y H2 ⟨e1,e2⟩=>?_⟩
   subst e1
   have:=e2 vs (e.sqT q)
   rw [h1] at this
   cases this
   exact ⟨.refl,R',h2.mono e⟩
 | @rol p vs ds q t=>
  refine ⟨p,rfl,.inl ⟨⟨vs,q.sq⟩,⟨fun π' μ' H' i e R' z=>?_,fun π' μ' H' i d e R' z=>?_⟩⟩⟩
  ·simp only [iC,bH,RL] at z
   have z':ds[i]? = none:=RA z
   exact ⟨vs,(e.roL q).sq,by rw [t.length];exact TZ.mp z'⟩
  ·simp only [iC,bH,RL] at z
   have z':ds[i]? = some d:=RA z
   obtain ⟨w,h1,h2⟩:=t.get z'
   refine ⟨⟨vs,w,(e.roL q).sq,h1⟩,fun y H2 ⟨e1,e2⟩=>?_⟩
   subst e1
   have:=e2 vs (e.roL q).sq
   rw [h1] at this
   cases this
   exact ⟨.refl,R',h2.mono e⟩
 | @loc a ha=>
  have hc:∃ vs,H (π a)=some (.lst vs):=by
   simp only [bH] at hs
   split at hs
   ·rename_i ys hy
    obtain ⟨vs,h1,_⟩:=R.lst a ys hy
    exact ⟨vs,h1⟩
   ·cases hs
  obtain ⟨vs0,hv0⟩:=hc
  refine ⟨π a,rfl,.inl ⟨⟨vs0,.of hv0⟩,⟨fun π' μ' H' i e R' z=>?_,fun π' μ' H' i d e R' z=>?_⟩⟩⟩
  ·simp only [iC,bH] at z
   split at z
   ·rename_i ys hy
    obtain ⟨vs,h1,h2⟩:=R'.lst a ys hy
    rw [e.pi a ha] at h1
    have z':ys[i]? = none:=RA z
    exact ⟨vs,.of h1,by rw [h2.length];exact TZ.mp z'⟩
   ·cases z
  ·simp only [iC,bH] at z
   split at z
   ·rename_i ys hy
    obtain ⟨vs,h1,h2⟩:=R'.lst a ys hy
    rw [e.pi a ha] at h1
    have z':ys[i]? = some d:=RA z
    obtain ⟨w,h3,h4⟩:=h2.get z'
    refine ⟨⟨vs,w,.of h1,h3⟩,fun y H2 ⟨e1,e2⟩=>?_⟩
    subst e1
    have:=e2 vs (.of h1)
    rw [h3] at this
    cases this
    exact ⟨.refl,R',h4⟩
   ·cases z
 | _=>cases hs
noncomputable def eK (src:Hm->Nat->Option (Option D))(g:MG)(b:MS):Nat->Nat->MS
 | 0,_,_,_=>none
 | n+1,i,ρ,μ=>(src μ i).bind fun o=>match o with
  | none=>some (.nx,ρ,μ)
  | some d=>(g d ρ μ).bind fun ρ1=>(b ρ1 μ).bind fun p=>match p.1 with
   | .nx=>eK src g b n (i+1) p.2.1 p.2.2
   | .ct=>eK src g b n (i+1) p.2.1 p.2.2
   | .bk=>some (.nx,p.2.1,p.2.2)
   | .rt d=>some (.rt d,p.2.1,p.2.2)
theorem IW {K:QH}{J:It}{src:Hm->Nat->Option (Option D)}{g:MG}{b:MS}{π:Nat->Addr}{n0:Nat}{H0:Hp}(W:Wk K J src π n0 H0){E:Ends}{fl:Fl}{ρ':aG}{μ':Hm}(hE:lH K E π n0 H0 fl ρ' μ')
  {π1:Nat->Addr}{μ1:Hm}{H1:Hp}{ρ1:aG}{σ1:St}{n:Nat}(e1:Ext π n0 H0 π1 μ1.length H1)(R1:Rp K π1 H1 μ1)(E1:En K π1 μ1.length H1 σ1 ρ1)(h:eK src g b n 0 ρ1 μ1=some (fl,ρ',μ')) :
  ∃ Wd:Nat->Nat->St->Hp->Prop,(∃ m,Wd 0 m σ1 H1)/\∀ i m σ H,Wd i m σ H->
   (J.stop i H/\E.nx σ H)\/(J.go i H/\∃ N:St->Hp->Prop,(∀ σ' H',N σ' H'->∃ m',m'<m/\Wd (i+1) m' σ' H')/\∀ x H',J.yld i H x H'->eJ K g x σ H' fun σ2 H2=>cC K b { E with nx:=N,ct:=N,bk:=E.nx } σ2 H2):=by
 have lift:∀ {π2:Nat->Addr}{n2:Nat}{H2:Hp}(e:Ext π n0 H0 π2 n2 H2){fl:Fl}{ρ':aG}{μ':Hm},lH K E π n0 H0 fl ρ' μ'->lH K E π2 n2 H2 fl ρ' μ':=fun {π2 n2 H2} e {fl ρ' μ'} k=>by
  cases fl with
  | nx=>exact fun π3 σ3 H3 e3 R3 E3=>k π3 σ3 H3 (e.trans e3) R3 E3
  | bk=>exact fun π3 σ3 H3 e3 R3 E3=>k π3 σ3 H3 (e.trans e3) R3 E3
  | ct=>exact fun π3 σ3 H3 e3 R3 E3=>k π3 σ3 H3 (e.trans e3) R3 E3
  | rt d=>exact KC.after k e
 refine ⟨fun i m σ H=>∃ π2 μ2 ρ2,Ext π n0 H0 π2 μ2.length H/\Rp K π2 H μ2/\En K π2 μ2.length H σ ρ2/\eK src g b m i ρ2 μ2=some (fl,ρ',μ'),⟨n,π1,μ1,ρ1,e1,R1,E1,h⟩,?_⟩
 rintro i m σ H ⟨π2,μ2,ρ2,e2,R2,E2,h2⟩
 cases m with
 | zero=>cases h2
 | succ m=>
  obtain ⟨o,h3,h4⟩:=QF.mp h2
  cases o with
  | none=>
   cases h4
   exact .inl ⟨W.stop π2 _ H i e2 R2 h3,hE π2 σ H e2 R2 E2⟩
  | some d=>
   obtain ⟨g1,g2⟩:=W.go π2 μ2 H i d e2 R2 h3
   obtain ⟨ρ3,h5,h6⟩:=QF.mp h4
   obtain ⟨⟨f4,ρ4,μ4⟩,h7,h8⟩:=QF.mp h6
   refine .inr ⟨g1,fun σ' H'=>∃ π5 ρ5 μ5,Ext π n0 H0 π5 μ5.length H'/\Rp K π5 H' μ5/\En K π5 μ5.length H' σ' ρ5/\eK src g b m (i+1) ρ5 μ5=some (fl,ρ',μ'),
    fun σ' H' ⟨π5,ρ5,μ5,a1,a2,a3,a4⟩=>⟨m,Xm _,π5,μ5,ρ5,a1,a2,a3,a4⟩,fun x H' y=>?_⟩
   obtain ⟨ex,Rx,hx⟩:=g2 x H' y
   have e2:=e2.trans ex
   refine ⟨π2,ρ2,μ2,d,ρ3,Rx,E2.mono ex,hx,h5,fun σ3 E3=>⟨π2,ρ3,μ2,f4,ρ4,μ4,Rx,E3,h7,?_⟩⟩
   cases f4 with
   | nx=>exact fun π5 σ5 H5 e5 R5 E5=>⟨π5,ρ4,μ4,e2.trans e5,R5,E5,h8⟩
   | ct=>exact fun π5 σ5 H5 e5 R5 E5=>⟨π5,ρ4,μ4,e2.trans e5,R5,E5,h8⟩
   | bk=>
    cases h8
    exact fun π5 σ5 H5 e5 R5 E5=>hE π5 σ5 H5 (e2.trans e5) R5 E5
   | rt d'=>
    cases h8
    exact KC.after hE e2
section
variable {X:Cx}{pos:Ta}{tg iter:Q1}{body:List Stmt}{mi:ME}{g:MG}{mb:MS}
noncomputable def fW (lo:Int)(n:Nat):Hm->Nat->Option (Option D):=fun _ i=>some (if i<n then some (.int (lo+i)) else none)
theorem AL {K:QH}{lo:Int}{k:Nat}{π:Nat->Addr}{n:Nat}{H:Hp}:Wk K (nF lo k) (fW lo k) π n H:=by
 refine ⟨fun π' μ H' i e R z=>?_,fun π' μ H' i d e R z=>?_⟩
 ·have z':=RA z
  split at z'
  ·cases z'
  ·exact Up.mp (by assumption)
 ·have z':=RA z
  split at z'
  ·cases z'
   rename_i h
   exact ⟨h,fun x H2 ⟨e1,e2⟩=>by subst e1;rw [e2];exact ⟨.refl,R,.int _⟩⟩
  ·cases z'
end
end L3
namespace L3
open PySem L2
noncomputable def lQ (y:Str):Str:="#"++y
noncomputable def aW (xs N:List Str):List Str:=N.map fun y=>if xs.contains y then lQ y else y
theorem kH (xs N:List Str):(aW xs N).length=N.length:=by unfold aW;simp
theorem IX {xs N:List Str}{i:Nat}{y:Str}(h:(aW xs N)[i]? = some y):∃ y0,N[i]? = some y0/\((xs.contains y0=true/\y=lQ y0)\/(xs.contains y0=false/\y=y0)):=by
 unfold aW at h
 rw [RH] at h
 obtain ⟨y0,h1,h2⟩:=QR.mp h
 refine ⟨y0,h1,?_⟩
 cases hc:xs.contains y0 with
 | true=>rw [hc] at h2;exact .inl ⟨rfl,by simpa using h2.symm⟩
 | false=>rw [hc] at h2;exact .inr ⟨rfl,by simpa using h2.symm⟩
noncomputable def bY (X:Cx)(scope:Uo)(cl:List (Str×Addr))(C:Addr)(N:List Str)(s₀:QM)(H₀:Hp)(fp:List Addr):Cx:=
 { X with N:=N,s₀:=s₀,H₀:=H₀,env:=Vy scope cl C X.env,outer:=X.stack,stack:=X.stack,ex:=fp,fn:=fun _=>false,pn:=[],xe:=fun _ _=>False }
theorem AM {env:W3}:∀ (names:List (Str×Ud))(x:Str),(names.map fun (n,k)=>if (k == TC&&env.scope.kind == .function&&env.kindOf n == some .cell) then (n,TY) else (n,k)).lookup x
  = (names.lookup x).map fun k=>if (k == TC&&env.scope.kind == .function&&env.kindOf x == some .cell) then TY else k
 | [],_=>rfl
 | (n,k)::r,x=>by
  have ih:=AM (env:=env) r x
  rw [Ra]
  by_cases hx:x=n
  ·subst hx
   have key:∀ (k':Ud)(l:List (Str×Ud)),Ww x ((x,k')::l)=some k':=fun k' l=>by simp [Vs]
   rw [key]
   show Ww x ((if (k == TC&&env.scope.kind == .function&&env.kindOf x == some .cell)=true then (x,TY) else (x,k))::_)=some (if (k == TC&&env.scope.kind == .function&&env.kindOf x == some .cell)=true then TY else k)
   split
   ·rw [key]
   ·rw [key]
  ·have hx':(x == n)=false:=by simpa using hx
   have key:∀ (k':Ud)(l:List (Str×Ud)),Ww x ((n,k')::l)=Ww x l:=fun k' l=>by simp only [Vs,hx']
   rw [key]
   show Ww x ((if (k == TC&&env.scope.kind == .function&&env.kindOf n == some .cell)=true then (n,TY) else (n,k))::_)=_
   split
   ·rw [key]
    exact ih
   ·rw [key]
    exact ih
structure CompOk (X:Cx)(scope:Uo)(cl:List (Str×Addr))(xs:List Str):Prop where
 clos:a0B scope X.env=pure cl
 nocell:∀ y∈scope.names,y.2≠.cell
 kind:scope.kind=.function
 names:∀ y∈scope.names,y.2=.local->scope.names.lookup y.1=some .local
 here:∀ x∈xs,scope.names.lookup x=some .local
 sub:∀ y c,cl.lookup y=some c->X.env.cells.lookup y=some c
 free:∀ y,scope.names.lookup y=some .free->(X.env.kindOf y=some .cell\/X.env.kindOf y=some .free)/\∃ c,cl.lookup y=some c
 own:∀ y,scope.names.lookup y=some .local->y∉aW xs X.N
 hidn:∀ y∈X.N,xs.contains y=true->scope.names.lookup (lQ y)=none
section
variable {X:Cx}{scope:Uo}{cl:List (Str×Addr)}{xs:List Str}
theorem CompOk.kindOf (O:CompOk X scope cl xs)(C:Addr)(y:Str):(Vy scope cl C X.env).kindOf y=(scope.names.lookup y).map fun k=>if (k == TC&&X.env.scope.kind == .function&&X.env.kindOf y == some .cell) then TY else k:=
 AM scope.names y
theorem CompOk.outer (O:CompOk X scope cl xs){C:Addr}{y:Str}(h:(Vy scope cl C X.env).kindOf y=some .cell\/(Vy scope cl C X.env).kindOf y=some .free):scope.names.lookup y=some .free:=by
 rw [O.kindOf] at h
 cases q:scope.names.lookup y with
 | none=>rw [q] at h;rcases h with h|h<;>cases h
 | some k=>
  rw [q] at h
  cases k with
  | free=>rfl
  | cell=>exact absurd rfl (O.nocell _ (Sy q))
  | «local»=>rcases h with h|h<;>simp at h
  | globalExplicit=>rcases h with h|h<;>simp at h
  | globalImplicit=>rcases h with h|h<;>simp at h
theorem CompOk.inv {a2j:List (Addr×Td)}{σ:St}{H:Hp}{s:QM}{fp:List Addr}{h₁:Si}{tk:Nat}(O:CompOk X scope cl xs)(I:Inv X a2j σ H s)(hfp:∀ b∈fp,fD X a2j H b)(hob:∀ b∈fp,∃ o,s.heap.get? b=some o){m:Str->Option QL}
  (hns:h₁.Ns s.heap.objs.size m)(hk:∀ b o,s.heap.get? b=some o->h₁.get? b=some o) :
  Inv (bY X scope cl s.heap.objs.size (aW xs X.N++xs) s H fp) [] (σ++Tq xs.length none) H { s with heap:=h₁,toks:=tk }:=by
 refine ⟨⟨I.ok.mod,O.kind,I.ok.glob,I.ok.blt,Q0 _,fun y z c h1 h2=>?_,fun y hy=>?_,(fun y c h=>by cases h),I.ok.hd,I.ok.frames,.inl rfl,fun b hb=>?_,fun b o e=>I.bs b o e,SR I.ok.bsz I.sz,fun b o e hb=>?_,fun b hb hb2=>?_,I.stack,I.stkFree⟩,
  rfl,I.bare,Un.kept hk,⟨m,hns,fun i y v h1 h2 h3=>?_⟩,fun y c h=>?_,I.hok.fresh (Q0 _),fun y c h=>I.freeC y c (O.sub y c h),fun p hp=>absurd (show p∈([]:List (Addr×Td)) from hp) (by simp),I.hok.kept hk,?_⟩
 ·exact I.ok.inj y z c (O.sub y c h1) (O.sub z c h2)
 ·exact (O.free y (O.outer hy)).2
 ·obtain ⟨f0,f1,f2,f3,f4,f5⟩:=hfp b hb
  obtain ⟨o,ho⟩:=hob b hb
  exact ⟨Ro (Q4 ho),fun y c h=>f4 y c (O.sub y c h)⟩
 ·obtain ⟨f0,f1,f2,f3,f4,f5⟩:=hfp b hb
  rcases f3 with f3|f3
  ·exact I.ok.noex b o e f3
  ·exact absurd (RF (Q4 (I.ok.bs b o e).1) f3) (Us _)
 ·obtain ⟨f0,f1,f2,f3,f4,f5⟩:=hfp b hb
  rcases RD.mp (I.stkSub b hb2) with z|z
  ·exact f1 z
  ·exact f2 z
 ·have hi:i<σ.length:=by
   by_cases hi:i<σ.length
   ·exact hi
   ·rw [Rg (Up.mp hi),Ug] at h2
    split at h2<;>cases h2
  rw [Q9 hi] at h2
  have h0':(aW xs X.N)[i]? = some y:=by
   have h1'':(aW xs X.N++xs)[i]? = some y:=h1
   rw [Q9 (by rw [kH,<- I.len];exact hi)] at h1''
   exact h1''
  have notown:scope.names.lookup y≠some .local:=fun z=>O.own y z (Rz h0')
  have hk':=O.kindOf s.heap.objs.size y
  have h1':X.N[i]? = some y:=by
   obtain ⟨y0,q1,q2⟩:=IX h0'
   rcases q2 with ⟨q2,q3⟩|⟨q2,q3⟩
   ·exfalso
    have hz:=O.hidn y0 (Rz q1) q2
    rw [<- q3] at hz
    rw [hz] at hk'
    have h3':(Vy scope cl s.heap.objs.size X.env).kindOf y=some .local\/(Vy scope cl s.heap.objs.size X.env).kindOf y=some .cell\/(Vy scope cl s.heap.objs.size X.env).kindOf y=some .free:=h3
    rw [hk'] at h3'
    rcases h3' with h3'|h3'|h3'<;>cases h3'
   ·rw [q3];exact q1
  have h3':(Vy scope cl s.heap.objs.size X.env).kindOf y=some .cell\/(Vy scope cl s.heap.objs.size X.env).kindOf y=some .free:=by
   rcases h3 with h3|h3|h3
   ·exfalso
    have h3':(Vy scope cl s.heap.objs.size X.env).kindOf y=some .local:=h3
    rw [hk'] at h3'
    cases q:scope.names.lookup y with
    | none=>rw [q] at h3';cases h3'
    | some k=>
     rw [q] at h3'
     cases k with
     | «local»=>exact notown q
     | cell=>simp at h3'
     | free=>
      simp only [RL] at h3'
      split at h3'<;>cases h3'
     | globalExplicit=>simp at h3'
     | globalImplicit=>simp at h3'
   ·exact .inl h3
   ·exact .inr h3
  obtain ⟨hf,c,hc⟩:=O.free y (O.outer h3')
  obtain ⟨m0,hn0,hl0⟩:=I.loc
  obtain ⟨u,r,l⟩:=hl0 i y v h1' h2 (by rcases hf with hf|hf;exact .inr (.inl hf);exact .inr (.inr hf))
  refine ⟨u,r,.inr ⟨h3',c,hc,?_⟩⟩
  rcases l with ⟨lk,_⟩|⟨_,c',e',z⟩
  ·exfalso
   rcases hf with hf|hf
   ·rw [hf] at lk;cases lk
   ·rw [hf] at lk;cases lk
  ·rw [O.sub y c hc] at e'
   cases e'
   obtain ⟨o,ho,hd⟩:=z
   exact ⟨o,hk c o ho,hd⟩
 ·obtain ⟨v,q⟩:=I.cell y c (O.sub y c h)
  exact ⟨v,by obtain ⟨o,ho,hd⟩:=q;exact ⟨o,hk c o ho,hd⟩⟩
 ·show (σ++Tq xs.length none).length=(aW xs X.N++xs).length
  rw [Q8,Q8,I.len,TU,kH]
theorem CompOk.back {a2j pl:List (Addr×Td)}{σ σ':St}{H H':Hp}{s s1:QM}{fp:List Addr}{h':Si}{N:List Str}(I:Inv X a2j σ H s)(hfp:∀ b∈fp,fD X a2j H b)
  (J:Inv (bY X scope cl s.heap.objs.size N s H fp) pl σ' H' s1)(hs:∀ b o,b≠s.heap.objs.size->s1.heap.get? b=some o->h'.get? b=some o):Inv X a2j σ H' { s1 with heap:=h' }:=by
 have u:Un (eX X.stack) fp H H' s.heap h':=by
  have u0:Un (eX X.stack) fp H H' s.heap s1.heap:=J.base
  have ne:∀ b o,s.heap.get? b=some o->b≠s.heap.objs.size:=fun b o e=>Ro (Q4 e)
  refine ⟨fun b o e n hb hx=>hs b o (ne b o e) (u0.keep b o e n hb hx),fun b o e n hb hx=>?_,u0.free,fun b o e hx=>?_,u0.tups,u0.frzs,u0.tbls⟩
  ·obtain ⟨sl,q⟩:=u0.slot b o e n hb hx
   exact ⟨sl,hs b _ (ne b o e) q⟩
  ·obtain ⟨o',q⟩:=u0.there b o e hx
   exact ⟨o',hs b _ (ne b o e) q⟩
 have hfree:H' s.heap.objs.size=none:=J.free
 have hok:HOk X.prog X.w H' h':=fun b v e=>by
  refine (J.hok b v e).stay (fun c w hc q=>hs c w ?_ q) (fun _ q=>q) fun _ _ q=>q
  rcases hc with z|z
  ·rw [z]
   intro z2
   rw [z2,hfree] at e
   cases e
  ·intro z2
   rw [z2,hfree] at z
   cases z
 have hos:s1.os=s.os:=J.os
 obtain ⟨hh,g,d,t,os'⟩:=s1
 obtain rfl:os'=s.os:=hos
 have r:=Inv.call (X:=X) (a2j:=a2j) (σ:=σ) (H:=H) (s:=s) (h':=h') (g':=g) (d':=d) (t':=t) (ch:=fp) I u hok J.bare fun b hb=>let ⟨f0,f1,f2,f3,f4,f5⟩:=hfp b hb;⟨f3,f1,f4,f5⟩
 exact r
end
theorem IY {prog:Rk}{w:RG}{A:Rw}{R:X7->QM->Prop}{s:QM}{elt target iter:Q1}{ifs:List Q1}{scope:Uo}{pos:Ta}{it acc:QL}{env:W3}(I:Nat->QM->Prop)
  (turn:∀ n s,I n s->Ri (Rl prog w) A (Wf it) (fun r s₁=>match r with
   | none=>R (.ok .next) s₁
   | some v=>Ri (Rl prog w) A (WG target it v) (fun _ s₁'=>Ri (Rl prog w) A (Xk target env v) (fun _ s₂=>
     Ri (Rl prog w) A (forIn ifs true fun c r=>if r=true then do let ok <- Zw c env (eval c env);pure (UO ok) else pure (UO r)) (fun ok s₃=>
      if ok=true then Ri (Rl prog w) A (eval elt env) (fun x s₄=>
       Ri (Rl prog w) A (call (.builtin "list.append") [acc,x]) (fun _ s₅=>∃ m,m<n/\I m s₅) (fun _ _=>False) s₄) (fun _ _=>False) s₃
      else ∃ m,m<n/\I m s₃) (fun _ _=>False) s₂) (fun _ _=>False) s₁') (fun _ _=>False) s₁) (fun _ _=>False) s)
  (n:Nat)(h:I n s) :
  Vz (Rl prog w) A (.compLoop (.ListComp elt [⟨target,iter,ifs,0⟩] scope pos) 0 it acc env) R s:=by
 refine codeAny_loop rfl I (fun n s hI=>?_) n h
 show Ri _ A ((compTurn (.ListComp elt [⟨target,iter,ifs,0⟩] scope pos) 0 it acc env).onRaise (fun x=>do noteFrame x env;theTreesLotGoes x)) _ _ s
 refine wpAny_noted ?_
 rw [compTurn_list]
 refine QK (Y0 (QK (RV (turn n s hI) (fun r s₁ h₁=>?_) fun _ _ h'=>h'.elim)))
 cases r with
 | none=>exact QX h₁
 | some v=>
  refine QK (RV h₁ (fun _ s₁' h₁'=>?_) fun _ _ h'=>h'.elim)
  refine QK (RV h₁' (fun _ s₂ h₂=>QK (RV h₂ (fun ok s₃ h₃=>?_) fun _ _ h'=>h'.elim)) fun _ _ h'=>h'.elim)
  cases ok with
  | false=>exact QX ⟨rfl,h₃⟩
  | true=>
   exact QK (QK (RV h₃ (fun x s₄ h₄=>QK (RV h₄ (fun _ s₅ h₅=>QX (QX ⟨rfl,h₅⟩)) fun _ _ h'=>h'.elim)) fun _ _ h'=>h'.elim))
noncomputable def lR (μ:Hm)(a:Nat)(y:D):Option Hm:=match μ[a]? with
 | some (.lst xs)=>if xs.length<Q6 then some (μ.set a (.lst (xs++[y]))) else none
 | _=>none
noncomputable abbrev BD:=D->Hm->Option aG
noncomputable def nO:BD:=fun d _=>some [some d]
noncomputable def AN (k:Nat):BD:=fun d μ=>(bH μ d).bind fun xs=>if xs.length=k then some (xs.map some) else none
noncomputable def iD (src:Hm->Nat->Option (Option D))(bd:BD)(c:MT)(e:ME)(ρ:aG)(a0:Nat):Nat->Nat->Hm->Option Hm
 | 0,_,_=>none
 | n+1,i,μ=>(src μ i).bind fun o=>match o with
  | none=>some μ
  | some d=>(bd d μ).bind fun x=>(c (ρ++x) μ).bind fun p=>match p.1 with
   | true=>(e (ρ++x) p.2).bind fun q=>(lR q.2 a0 q.1).bind fun μ3=>iD src bd c e ρ a0 n (i+1) μ3
   | false=>iD src bd c e ρ a0 n (i+1) p.2
noncomputable def iE:MT:=fun _ μ=>some (true,μ)
noncomputable def lS (X:Cx)(ifs:List Q1)(m:MT):Prop:=
 ∀ (a2j:List (Addr×Td))(s:QM)(σ:St)(H:Hp)(Q:Bool->Hp->Prop),Inv X a2j σ H s->b8 X.K m σ H Q->
  Ri (Rl X.prog X.w) X.A (forIn ifs true fun c r=>if r=true then do let ok <- Zw c X.env (eval c X.env);pure (UO ok) else pure (UO r)) (TP X a2j σ Q) X.xe s
theorem IZ {X:Cx}:lS X [] iE:=by
 intro a2j s σ H Q I h
 obtain ⟨π,ρ,μ,b,μ',R,E,hm,k⟩:=h
 cases hm
 exact wpAny_tests_nil ⟨H,I,k π H .refl R⟩
theorem Ja {X:Cx}{c:Q1}{m:MT}(h:PT X c (b8 X.K m)):lS X [c] m:=fun a2j s σ H Q I q=>wpAny_tests_one (h a2j s σ H Q I q)
end L3
namespace L3
open PySem L2
section
variable {prog:Rk}{w:RG}{A:Rw}{E:QL->QM->Prop}{s:QM}
theorem AO {it t:Addr}{items:Array QL}(hne:t≠it):∀ (n i:Nat)(s:QM)(Q:List QL->QM->Prop),s.heap.IsListIter it t i->s.heap.IsList t items->i+n<=items.size->
  (∀ h',h'.IsListIter it t (i+n)->T8 it s.heap h'->Q ((items.toList.drop i).take n) { s with heap:=h' })->Ri (Rl prog w) A (draw (.ref it) n) Q E s
 | 0,i,s,Q,hit,_,_,hQ=>by
  show Ri _ _ (pure []) Q E s
  exact QX (by simpa using hQ s.heap hit (Yc ..))
 | n+1,i,s,Q,hit,ht,hle,hQ=>by
  have hlt:i<items.size:=by omega
  show Ri _ _ (Wf (.ref it) >>= _) Q E s
  refine QK (Zq hit ht (x:=items[i]) (by simp [hlt]) fun h₁ hit₁ hs₁=>?_)
  refine QK (RP (AO hne n (i+1) _ _ hit₁ (ht.extBut hs₁.extBut hne) (by omega) fun h₂ hit₂ hs₂=>QX ?_))
  have hd:items.toList.drop i=items[i]::items.toList.drop (i+1):=by simp [Tj,hlt]
  have:=hQ h₂ (by rw [show i+(n+1)=i+1+n by omega];exact hit₂) (hs₁.trans hs₂)
  rw [hd,WI] at this
  exact this
theorem Jb {t:Addr}{items:Array QL}{Q:List QL->QM->Prop}(hh:A.handled=none)(ht:s.heap.IsList t items)
  (hQ:∀ h',Xp s.heap.objs.size s.heap h'->Q items.toList { s with heap:=h' }):Ri (Rl prog w) A (unpackItems (.ref t) items.size none) Q E s:=by
 have hlt:t≠s.heap.objs.size:=by obtain ⟨o,ho,_⟩:=ht;exact Ro (Q4 ho)
 unfold unpackItems
 refine QK ?_
 ·unfold notIterableAtAll
  refine QK (Va ht.typeIs slot_list_iter.lookup ?_)
  refine QX ?_
  simp only [Q3,if_false]
  refine QK (RP (a0L ht ?_))
  refine QK (RP (AO hlt items.size 0 _ _ ⟨_,Rj _ rfl,rfl,rfl⟩ (ht.push _) (by omega) fun h₁ hit₁ hs₁=>?_))
  have hall:List.take items.size (List.drop 0 items.toList)=items.toList:=by
   rw [Uh];exact TM (by simp)
  rw [hall]
  rw [if_neg (by simp)]
  have ht₁:h₁.IsList t items:=(ht.push _).extBut hs₁.extBut hlt
  refine QK (RP (ZN hh hit₁ ht₁ (by simp) fun h₂ he₂=>?_))
  simp only [VP,Q3,if_false]
  refine QX (hQ h₂ fun b o hb e=>he₂ b o hb (hs₁.extBut b o hb (QU _ e)))
theorem Jc {env:W3}{elts:List Q1} {x1} {pos:Ta}{t:Addr}{items:Array QL}{Q:Unit->QM->Prop}(hh:A.handled=none)(ht:s.heap.IsList t items)
  (hn:(TN elts env).length=items.size)(hstar:(TN elts env).findIdx? (·.1)=none)
  (h:∀ h',Xp s.heap.objs.size s.heap h'->Ri (Rl prog w) A (assignInOrder ((TN elts env).map (·.2)) items.toList) Q E { s with heap:=h' }) :
  Ri (Rl prog w) A (Xk (.Tuple elts x1 pos) env (.ref t)) Q E s:=by
 rw [a1J]
 refine QK (Y0 ?_)
 unfold unpack
 rw [hn,hstar]
 exact QK (RP (Jb hh ht h))
end
noncomputable def kI:aG->List Nat->List D->aG
 | ρ,i::is,x::xs=>kI (ρ.set i (some x)) is xs
 | ρ,_,_=>ρ
noncomputable def lU (is:List Nat):MG:=fun d ρ μ=>(bH μ d).bind fun xs=>if xs.length=is.length then some (kI ρ is xs) else none
noncomputable def pV:List Nat->lD
 | []=>yR
 | i::r=>yS (sE i) (pV r)
theorem t8 {K:QH}{π:Nat->Addr}{n:Nat}{H:Hp}:∀ (is:List Nat){vs:List V}{xs:List D}{σ:St}{ρ:aG}{Q:St->Hp->Prop},IsDs K π n H vs xs->En K π n H σ ρ->xs.length=is.length->(∀ σ',En K π n H σ' (kI ρ is xs)->Q σ' H)->pV is vs σ H Q
 | [],vs,xs,σ,ρ,Q,h,E,hl,k=>by
  cases h with
  | nil=>exact ⟨rfl,k σ E⟩
  | cons h t=>cases hl
 | i::is,vs,xs,σ,ρ,Q,h,E,hl,k=>by
  cases h with
  | nil=>cases hl
  | cons h t=>exact ⟨_,_,rfl,t8 is t (E.set h i) (by simpa using hl) k⟩
section
variable {X:Cx}{pos:Ta}
theorem Jd {es:List Q1}{k:Nat}{is:List Nat}(hc:X.calm=true)(h:nE X es (pV is))(hn:(TN es X.env).length=is.length:=by rfl)(hst:(TN es X.env).findIdx? (·.1)=none:=by rfl) :
  PG X (.Tuple es k pos) (eJ X.K (lU is)):=by
 intro a2j s σ H v u Q I r hw
 obtain ⟨π,ρ,μ,d,ρ',R,E,hd,hm,kk⟩:=hw
 obtain ⟨xs,h1,h2⟩:=QF.mp hm
 split at h2
 ·rename_i hl
  cases h2
  have both:(∃ a vs,v=.ref a/\SqT X.K H a vs/\IsDs X.K π μ.length H vs xs)\/(∃ a vs,v=.ref a/\SqL X.K H a vs/\IsDs X.K π μ.length H vs xs):=by
   cases hd with
   | tup q t=>cases h1;exact .inl ⟨_,_,rfl,q,t⟩
   | rol q t=>cases h1;exact .inr ⟨_,_,rfl,q.sq,t⟩
   | @loc a ha=>
    simp only [bH] at h1
    split at h1
    ·rename_i ys hy
     cases h1
     obtain ⟨vs,h3,h4⟩:=R.lst a xs hy
     exact .inr ⟨_,vs,rfl,.of h3,h4⟩
    ·cases h1
   | _=>cases h1
  rcases both with ⟨a,vs,rfl,q,t⟩|⟨a,vs,rfl,q,t⟩
  ·cases r
   obtain ⟨its,rv,ht,hz⟩:=I.tuple q
   have hlen:its.length=is.length:=by rw [<- rv.length,t.length];exact hl
   refine a1I (I.ok.hd hc) ht (by simp [hn,hlen]) hst fun h' hx=>?_
   have I1:Inv X a2j σ H { s with heap:=h' }:=I.kept (t':=s.toks) fun b o e=>hx b o (Ro (Q4 e)) e
   exact h a2j _ σ H vs _ Q I1 (by simpa using rv) (t8 is t E hl kk)
  ·cases r
   obtain ⟨its,rv,ht,hz⟩:=I.list q
   have hlen:its.length=is.length:=by rw [<- rv.length,t.length];exact hl
   refine Jc (I.ok.hd hc) ht.isList (by simp [hn,hlen]) hst fun h' hx=>?_
   have I1:Inv X a2j σ H { s with heap:=h' }:=I.kept (t':=s.toks) fun b o e=>hx b o (Ro (Q4 e)) e
   exact h a2j _ σ H vs _ Q I1 (by simpa using rv) (t8 is t E hl kk)
 ·cases h2
noncomputable def t9 (m:ME)(g:MG):MS:=fun ρ μ=>(m ρ μ).bind fun p=>(g p.1 ρ p.2).map fun ρ'=>(.nx,ρ',p.2)
theorem Je {tg e:Q1}{m:ME}{g:MG}(he:PE X e (tM X.K m))(hg:PG X tg (eJ X.K g))(hs:swapsWithSole [tg] e pos.line X.env=pure false:=by rfl)(hw:Y2 [tg] e X.env=pure none:=by rfl)
  (h1:(TN [tg] X.env).map (·.2)=[Xk tg X.env]:=by rfl):PS X (.Assign [tg] e pos) (cC X.K (t9 m g)):=fE (FU he hg hs hw h1) (by
 rintro E σ H ⟨π,ρ,μ,fl,ρ',μ',R,EN,hm,k⟩
 obtain ⟨⟨x,μ1⟩,h1,hm⟩:=QF.mp hm
 obtain ⟨ρ1,h2,hm⟩:=QR.mp hm
 cases hm
 exact ⟨π,ρ,μ,x,μ1,R,EN,h1,fun π1 v1 H1 e1 R1 i1=>⟨π1,ρ,_,x,_,R1,EN.mono e1,i1,h2,fun σ' E'=>k π1 σ' H1 e1 R1 E'⟩⟩)
end
section
variable {X:Cx}{K:QH}
noncomputable def nP:MF:=fun ds μ=>match ds with
 | [.str z]=>if z.length<=Q6 then some (.int z.length,μ) else none
 | [x]=>(bH μ x).map fun xs=>(.int xs.length,μ)
 | _=>none
noncomputable def uA (K:QH):List V->Hp->VK->Prop:=fun xs H Q=>(∃ p ys,xs=[.ref p]/\(SqL K H p ys\/SqT K H p ys)/\Q (.int ys.length) H)\/(∃ z,xs=[.str z]/\z.length<=Q6/\Q (.int z.length) H)
theorem call_lenM:CallR X (.builtin "len") (uA X.K):=call_len_seq.or Hg
theorem nQ {π:Nat->Addr}{μ:Hm}{H:Hp}{v:V}{x:D}{xs:List D}(R:Rp K π H μ)(h:IsD K π μ.length H v x)(e:bH μ x=some xs):∃ p vs,v=.ref p/\(SqL K H p vs\/SqT K H p vs)/\IsDs K π μ.length H vs xs:=by
 cases h with
 | tup q t=>cases e;exact ⟨_,_,rfl,.inr q,t⟩
 | rol q t=>cases e;exact ⟨_,_,rfl,.inl q.sq,t⟩
 | @loc a ha=>
  simp only [bH] at e
  split at e
  ·rename_i ys hy
   cases e
   obtain ⟨vs,h3,h4⟩:=R.lst a xs hy
   exact ⟨_,vs,rfl,.inl (.of h3),h4⟩
  ·cases e
 | _=>cases e
theorem AQ:cH K nP (uA K):=by
 intro π H μ xs d μ' vs Q R i hm k
 unfold nP at hm
 split at hm
 ·split at hm
  ·rename_i hl
   cases hm
   cases i with
   | cons i t=>cases i;cases t;exact .inr ⟨_,rfl,hl,k π _ H .refl R (.int _)⟩
  ·cases hm
 ·obtain ⟨ys,h1,h2⟩:=QR.mp hm
  cases h2
  cases i with
  | cons i t=>
   cases t
   obtain ⟨p,ws,rfl,q,hd⟩:=nQ R i h1
   refine .inl ⟨p,ws,rfl,q,?_⟩
   rw [hd.length]
   exact k π _ H .refl R (.int _)
 ·cases hm
noncomputable def nR:MF:=fun ds μ=>match ds with
 | [x]=>(bH μ x).map fun xs=>(.loc μ.length,μ++[.lst xs])
 | _=>none
theorem AR:cH K nR (fun xs H Q=>∃ p ys,xs=[.ref p]/\(SqL K H p ys\/SqT K H p ys)/\∀ l,H l=none->Q (.ref l) (aE H l (.lst ys))):=by
 intro π H μ xs d μ' vs Q R i hm k
 unfold nR at hm
 split at hm
 ·obtain ⟨ys,h1,h2⟩:=QR.mp hm
  cases h2
  cases i with
  | cons i t=>
   cases t
   obtain ⟨p,ws,rfl,q,hd⟩:=nQ R i h1
   refine ⟨p,ws,rfl,q,fun l hl=>?_⟩
   obtain ⟨e2,R2,_⟩:=R.alloc (c:=.lst ys) (o:=.lst ws) hl hd
   exact k _ _ _ e2 R2 eG
 ·cases hm
noncomputable def AS (K:QH):List V->Hp->VK->Prop:=fun vs H Q=>∃ π μ x v t c b,vs=[v,.ty c]/\Rp K π H μ/\IsD K π μ.length H v x/\pT μ x=some t/\pU t c=some b/\Q (.bl b) H
theorem Jf:cH K cD (AS K):=by
 intro π H μ xs d μ' vs Q R i hm k
 unfold cD at hm
 split at hm
 ·obtain ⟨t,h1,hm⟩:=QF.mp hm
  obtain ⟨b,h2,hm⟩:=QR.mp hm
  cases hm
  cases i with
  | cons i t1=>
   cases t1 with
   | cons i2 t2=>
    cases t2
    cases i2
    exact ⟨π,_,_,_,t,_,b,rfl,R,i,h1,h2,k π _ H .refl R (.bl _)⟩
 ·cases hm
theorem Jg:CallR X (.builtin "isinstance") (AS X.K):=by
 intro a2j s σ H xs us Q I r h
 obtain ⟨π,μ,x,v,t,c,b,rfl,R,i,h1,h2,q⟩:=h
 obtain ⟨u,u2,rfl,r1,r2⟩:=Gn r
 cases r2
 have fin:∀ tk,EP X a2j σ Q (.bool b) { s with toks:=tk }:=fun tk=>⟨.bl b,H,I.tok tk,rfl,q⟩
 cases i with
 | non=>cases h1;cases r1;exact Ts PySem.W.kitx_none I.kIn Tg (iB X.K (by simp) h2) (fun z=>nomatch z) fin
 | bl y=>cases h1;cases r1;exact Ts PySem.W.kitx_bool I.kIn Tg (iB X.K (by simp) h2) (fun z=>nomatch z) fin
 | int y=>cases h1;obtain ⟨t,rfl⟩:=r1;exact Ts PySem.W.kitx_int I.kIn Tg (iB X.K (by simp) h2) (fun z=>nomatch z) fin
 | str y=>cases h1;obtain ⟨t,rfl⟩:=r1;exact Ts PySem.W.kitx_str I.kIn Tg (iB X.K (by simp) h2) (fun z=>nomatch z) fin
 | tup g t=>
  cases h1
  cases r1
  obtain ⟨its,r',p,_⟩:=I.tuple g
  obtain ⟨o,e1,e2,_⟩:=p
  exact Ts PySem.W.kitx_tuple I.kIn ⟨o,e1,e2⟩ (iB X.K (by simp) h2) (fun z=>nomatch z) fin
 | rol g t=>
  cases h1
  cases r1
  obtain ⟨its,r',p,_⟩:=I.list g.sq
  obtain ⟨o,e1,e2,_⟩:=p.isList
  exact Ts YR I.kIn ⟨o,e1,e2⟩ (iB X.K (by simp) h2) (fun z=>nomatch z) fin
 | @loc a ha=>
  cases r1
  simp only [pT] at h1
  split at h1
  ·rename_i xs hx
   cases h1
   obtain ⟨vs,h3,h4⟩:=R.lst a xs hx
   obtain ⟨its,r',p,_⟩:=I.list (SqL.of (K:=X.K) h3)
   obtain ⟨o,e1,e2,_⟩:=p.isList
   exact Ts YR I.kIn ⟨o,e1,e2⟩ (iB X.K (by simp) h2) (fun z=>nomatch z) fin
  ·rename_i kvs hx
   cases h1
   obtain ⟨vs,h3,_⟩:=R.dK a kvs hx
   obtain ⟨_,_,ws,_,p⟩:=(show ObjOk X.prog X.w H s.heap (π a) (.dK vs) from I.hok _ _ h3)
   obtain ⟨o,es,ep,e1,e2,_⟩:=p
   exact Ts YS I.kIn ⟨o,e1,e2.1⟩ (iB X.K (by simp) h2) (fun z=>nomatch z) fin
  ·rename_i kvs hx
   cases h1
   obtain ⟨vs,h3,_⟩:=R.dT a kvs hx
   obtain ⟨⟨ws,_,_,_,o,es,ep,e1,e2,_⟩,_⟩:=(show ObjOk X.prog X.w H s.heap (π a) (aH (π a) vs) from I.hok _ _ h3)
   exact Ts YS I.kIn ⟨o,e1,e2.1⟩ (iB X.K (by simp) h2) (fun z=>nomatch z) fin
  ·cases h1
 | ty n=>cases h1
end
noncomputable def iF:D->Option aD
 | .int i=>some (.inl i)
 | .str x=>some (.inr x)
 | _=>none
noncomputable def nS (kvs:List (aD×D))(k:aD)(d:D):List (aD×D):=
 if (kvs.any fun kv=>decide (kv.1=k))=true then kvs.map (fun kv=>if kv.1=k then (kv.1,d) else kv) else kvs++[(k,d)]
noncomputable def nT (kvs more:List (aD×D)):List (aD×D):=more.foldl (fun acc kv=>nS acc kv.1 kv.2) kvs
noncomputable def eM (kvs:List (aD×D))(k:aD):Option D:=(kvs.find? fun kv=>decide (kv.1=k)).map (·.2)
inductive IsKs (K:QH)(π:Nat->Addr)(n:Nat)(H:Hp):List (aD×V)->List (aD×D)->Prop where
 | nil:IsKs K π n H [] []
 | cons {k:aD}{v:V}{d:D}{vs:List (aD×V)}{ds:List (aD×D)}(h:IsD K π n H v d)(t:IsKs K π n H vs ds):IsKs K π n H ((k,v)::vs) ((k,d)::ds)
section
variable {K:QH}{π π':Nat->Addr}{n n':Nat}{H H':Hp}
theorem IsKs.maps {vs:List (aD×V)}{ds:List (aD×D)}(h:IsKs K π n H vs ds):vs.map (·.1)=ds.map (·.1)/\IsDs K π n H (vs.map (·.2)) (ds.map (·.2)):=by
 induction h with
 | nil=>exact ⟨rfl,.nil⟩
 | cons h t ih=>exact ⟨by rw [Ra,Ra,ih.1],.cons h ih.2⟩
theorem IsKs.of:∀ {vs:List (aD×V)}{ds:List (aD×D)},vs.map (·.1)=ds.map (·.1)->IsDs K π n H (vs.map (·.2)) (ds.map (·.2))->IsKs K π n H vs ds
 | [],[],_,_=>.nil
 | [],_::_,h,_=>by cases h
 | _::_,[],h,_=>by cases h
 | (k,v)::vs,(k',d)::ds,h,t=>by
  rw [Ra,Ra] at h t
  injection h with h1 h2
  dsimp only at h1
  subst h1
  cases t with
  | cons t1 t2=>exact .cons t1 (IsKs.of h2 t2)
theorem IsKs.append {vs ws:List (aD×V)}{ds es:List (aD×D)}(h:IsKs K π n H vs ds)(h2:IsKs K π n H ws es):IsKs K π n H (vs++ws) (ds++es):=by
 induction h with
 | nil=>exact h2
 | cons h t ih=>exact .cons h ih
theorem IsKs.any {vs:List (aD×V)}{ds:List (aD×D)}(h:IsKs K π n H vs ds)(k:aD):(vs.any fun kv=>decide (kv.1=k))=ds.any fun kv=>decide (kv.1=k):=by
 induction h with
 | nil=>rfl
 | cons h t ih=>rw [VC,VC,ih]
theorem IsKs.repl {vs:List (aD×V)}{ds:List (aD×D)}(h:IsKs K π n H vs ds){v:V}{d:D}(hv:IsD K π n H v d)(k:aD):IsKs K π n H (vs.map fun kv=>if kv.1=k then (kv.1,v) else kv) (ds.map fun kv=>if kv.1=k then (kv.1,d) else kv):=by
 induction h with
 | nil=>exact .nil
 | @cons k' v' d' vs ds h t ih=>
  rw [Ra,Ra]
  by_cases e:k'=k
  ·simp only [e,if_true]
   exact .cons hv ih
  ·simp only [e,if_false]
   exact .cons h ih
theorem IsKs.put {vs:List (aD×V)}{ds:List (aD×D)}(h:IsKs K π n H vs ds){v:V}{d:D}(hv:IsD K π n H v d)(k:aD):IsKs K π n H (cR vs k v) (nS ds k d):=by
 unfold cR nS
 rw [h.any k]
 split
 ·exact h.repl hv k
 ·exact h.append (.cons hv .nil)
theorem IsKs.merge {ws:List (aD×V)}{es:List (aD×D)}(h2:IsKs K π n H ws es):∀ {vs:List (aD×V)}{ds:List (aD×D)},IsKs K π n H vs ds->IsKs K π n H (j6 vs ws) (nT ds es):=by
 induction h2 with
 | nil=>exact fun h=>h
 | cons h t ih=>exact fun h3=>ih (h3.put h _)
theorem IsKs.val {vs:List (aD×V)}{ds:List (aD×D)}(h:IsKs K π n H vs ds)(k:aD):(eM ds k=none/\cY vs k=none)\/∃ v d,eM ds k=some d/\cY vs k=some v/\IsD K π n H v d:=by
 induction h with
 | nil=>exact .inl ⟨rfl,rfl⟩
 | @cons k' v' d' vs ds h t ih=>
  by_cases e:k'=k
  ·exact .inr ⟨v',d',by simp [eM,Sq,e],by simp [cY,Sq,e],h⟩
  ·have e1:eM ((k',d')::ds) k=eM ds k:=by simp [eM,Sq,e]
   have e2:cY ((k',v')::vs) k=cY vs k:=by simp [cY,Sq,e]
   rw [e1,e2]
   exact ih
theorem IsKs.length {vs:List (aD×V)}{ds:List (aD×D)}(h:IsKs K π n H vs ds):vs.length=ds.length:=by
 induction h with
 | nil=>rfl
 | cons h t ih=>rw [Rq,Rq,ih]
theorem uB {y:V}{d:D}{k:aD}(h:IsD K π n H y d)(e:iF d=some k):y=kV k:=by
 cases h<;>first|cases e;done|(cases e;rfl)
end
noncomputable def kJ:List (ME×ME)->aG->Hm->Option (List (aD×D)×Hm)
 | [],_,μ=>some ([],μ)
 | (k,v)::r,ρ,μ=>(k ρ μ).bind fun p=>(v ρ p.2).bind fun q=>(iF p.1).bind fun kk=>(kJ r ρ q.2).map fun t=>((kk,q.1)::t.1,t.2)
noncomputable def kK (prs:List (ME×ME)):ME:=fun ρ μ=>(kJ prs ρ (μ++[.dK []])).bind fun p=>match p.2[μ.length]? with
 | some (.dK [])=>if p.1.length<=15 then some (.loc μ.length,p.2.set μ.length (.dK (nT [] p.1))) else none
 | _=>none
noncomputable def lV (K:QH)(prs:List (ME×ME)):List (TE×TE):=prs.map fun p=>(tM K p.1,tM K p.2)
theorem AU {K:QH}:∀ (prs:List (ME×ME)){π:Nat->Addr}{ρ:aG}{μ μ':Hm}{H:Hp}{σ:St}{kvs:List (aD×D)}{Q:List (V×V)->Hp->Prop},Rp K π H μ->En K π μ.length H σ ρ->kJ prs ρ μ=some (kvs,μ')->
  (∀ π' H' vs,Ext π μ.length H π' μ'.length H'->Rp K π' H' μ'->IsKs K π' μ'.length H' vs kvs->Q (vs.map fun kv=>(kV kv.1,kv.2)) H')->pJ (lV K prs) σ H Q
 | [],π,ρ,μ,μ',H,σ,kvs,Q,R,E,hm,k=>by
  cases hm
  exact k π H [] .refl R .nil
 | (mk,mv)::r,π,ρ,μ,μ',H,σ,kvs,Q,R,E,hm,k=>by
  obtain ⟨⟨x,μ1⟩,h1,hm⟩:=QF.mp hm
  obtain ⟨⟨y,μ2⟩,h2,hm⟩:=QF.mp hm
  obtain ⟨kk,h3,hm⟩:=QF.mp hm
  obtain ⟨⟨ts,μ3⟩,h4,hm⟩:=QR.mp hm
  cases hm
  refine ⟨π,ρ,μ,x,μ1,R,E,h1,fun π1 v1 H1 e1 R1 i1=>⟨π1,ρ,μ1,y,μ2,R1,E.mono e1,h2,fun π2 v2 H2 e2 R2 i2=>?_⟩⟩
  refine AU r R2 ((E.mono e1).mono e2) h4 fun π3 H3 vs e3 R3 i3=>?_
  have:=uB i1 h3
  subst this
  exact k π3 H3 ((kk,v2)::vs) ((e1.trans e2).trans e3) R3 (.cons (i2.mono e3) i3)
section
variable {X:Cx}{a b c:Q1}{ma mb mc:ME}{pos:Ta}
theorem Jh:gZ X pos [] [] (lV X.K []):=GQ
theorem Ji {k v:Q1}{mk mv:ME}{ks:List (Option Q1)}{vs:List Q1}{prs:List (ME×ME)}(hk:PE X k (tM X.K mk))(hv:PE X v (tM X.K mv))(hr:gZ X pos ks vs (lV X.K prs)):gZ X pos (some k::ks) (v::vs) (lV X.K ((mk,mv)::prs)):=GR hk hv hr
theorem Jj {keys:List (Option Q1)}{values:List Q1}{prs:List (ME×ME)}(h:gZ X pos keys values (lV X.K prs))(hall:keys.all (·.isSome)=true)(hl:keys.length=values.length)(h0:keys≠[])
  (h15:keys.length<=15):PE X (.Dict keys values pos) (tM X.K (kK prs)):=bT (GU h hall hl h0 h15) (by
 rintro σ H Q ⟨π,ρ,μ,d,μ',R,E,hm,k⟩ p hp
 obtain ⟨⟨kvs,μ1⟩,h1,hm⟩:=QF.mp hm
 split at hm
 ·rename_i hc
  split at hm
  ·rename_i hlen
   cases hm
   obtain ⟨e1,R1,q1⟩:=R.alloc (c:=.dK []) (o:=.dK []) hp ⟨rfl,.nil⟩
   refine AU prs R1 (E.mono e1) h1 fun π2 H2 vs e2 R2 i2=>?_
   have hlt:μ.length<μ1.length:=(QN.mp hc).1
   have hpi:π2 μ.length=p:=by rw [e2.pi μ.length (by simp),q1]
   obtain ⟨ws,h3,h4,h5⟩:=R2.dK μ.length [] hc
   have hw:ws=[]:=by
    cases ws with
    | nil=>rfl
    | cons z zs=>cases h4
   subst hw
   obtain ⟨e3,R3⟩:=R2.put (a:=μ.length) (c:=.dK (nT [] kvs)) (o:=.dK (j6 [] vs)) hlt h3 (.inr (.inl ⟨_,rfl⟩)) (IsKs.maps (i2.merge .nil))
   rw [hpi] at h3 e3 R3
   refine ⟨h3,vs,rfl,by rw [i2.length];exact hlen,k π2 _ _ ((e1.trans e2).trans e3) R3 ?_⟩
   rw [<- hpi]
   exact .loc (by rw [SG];exact hlt)
  ·cases hm
 ·cases hm)
noncomputable def nU:D->D->Hm->Option (D×Hm)
 | .loc a,y,μ=>match μ[a]? with
  | some (.dK kvs)=>(iF y).bind fun k=>(eM kvs k).map fun d=>(d,μ)
  | _=>none
 | _,_,_=>none
theorem Jk {K:QH}{π:Nat->Addr}{μ:Hm}{H:Hp}{a:Nat}{kvs:List (aD×D)}(R:Rp K π H μ)(h:μ[a]? = some (.dK kvs)){y:V}{dy:D}{k:aD}(hy:IsD K π μ.length H y dy)(hk:iF dy=some k) :
  (eM kvs k=none/\DGet H (π a) y none)\/∃ v d,eM kvs k=some d/\DGet H (π a) y (some v)/\IsD K π μ.length H v d:=by
 obtain ⟨vs,h1,h2,h3⟩:=R.dK a kvs h
 have e:=uB hy hk
 subst e
 have g:=DGet.k (k:=k) h1
 rcases (IsKs.of h2 h3).val k with ⟨z1,z2⟩|⟨v,d,z1,z2,z3⟩
 ·exact .inl ⟨z1,by rw [<- z2];exact g⟩
 ·exact .inr ⟨v,d,z1,by rw [<- z2];exact g,z3⟩
theorem Jl (hu:X.A.units+1<SK)(ha:PE X a (tM X.K ma))(hb:PE X b (tM X.K mb))(hs:pI b):PE X (.Subscript a b pos) (tM X.K (aB nU ma mb)):=bT (GN hu ha hb hs) (by
 intro σ H Q h
 refine lJ (r:=fun x y H Q=>∃ a v,x=.ref a/\DGet H a y (some v)/\Q v H) ?_ σ H Q h
 intro π H μ x y d μ' vx vy Q R ix iy hm k
 unfold nU at hm
 split at hm
 ·split at hm
  ·rename_i kvs hc
   obtain ⟨kk,h1,hm⟩:=QF.mp hm
   obtain ⟨d',h2,hm⟩:=QR.mp hm
   cases hm
   cases ix
   rcases Jk R hc iy h1 with ⟨z1,_⟩|⟨v,d2,z1,z2,z3⟩
   ·rw [z1] at h2;cases h2
   ·rw [z1] at h2
    cases h2
    exact ⟨_,v,rfl,z2,k π _ H .refl R z3⟩
  ·cases hm
 ·cases hm)
end
theorem eN {k:Nat}{A:Rw}(r:Room k A):A.units+1<SK:=by have:=r.un;omega
noncomputable def nV (ma:ME):ME:=fun ρ μ=>(ma ρ μ).bind fun p=>(tV p.1).map fun d=>(d,p.2)
end L3
namespace L3
open PySem L2
noncomputable def d8 (cells:List (Str×Addr)):List (Str×Ud)->List (Str×Addr)->List (Str×Addr)
 | [],acc=>acc
 | (n,k)::r,acc=>if k=.free then (match cells.lookup n with|some c=>d8 cells r ((n,c)::acc)|none=>d8 cells r acc) else d8 cells r acc
theorem AV {env:W3}:∀ (names:List (Str×Ud))(acc:List (Str×Addr)),(∀ y∈names,y.2=.free->∃ c,env.cells.lookup y.1=some c)->
  (forIn names acc fun (x:Str×Ud)(cs:List (Str×Addr))=>(do
   if x.2 == .free then (do let c <- cellOf env x.1;pure (UO ((x.1,c)::cs))) else pure (UO cs):Zy (ForInStep (List (Str×Addr)))))=pure (d8 env.cells names acc)
 | [],acc,_=>rfl
 | (n,k)::r,acc,h=>by
  have ih:=fun acc=>AV r acc fun y hy=>h y (Rm _ hy)
  rw [List.forIn_cons]
  by_cases hk:k=.free
  ·subst hk
   obtain ⟨c,hc⟩:=h (n,.free) (Ru ..) rfl
   dsimp only at hc
   have e:cellOf env n=pure c:=by unfold cellOf;rw [hc]
   simp only [d8,hc,e,beq_self_eq_true,if_true,pure_bind]
   exact ih _
  ·have e:(k == TC)=false:=by simpa using hk
   simp only [d8,e,hk,if_false,Q3,pure_bind]
   exact ih _
theorem Jm {scope:Uo}{env:W3}(h:∀ y∈scope.names,y.2=.free->∃ c,env.cells.lookup y.1=some c):a0B scope env=pure (d8 env.cells scope.names []):=by
 have:=AV (env:=env) scope.names [] h
 unfold a0B
 simp only [bind_pure] at *
 exact this
theorem pW {cells:List (Str×Addr)}:∀ (names:List (Str×Ud))(acc:List (Str×Addr)),(∀ y c,acc.lookup y=some c->cells.lookup y=some c)->∀ y c,(d8 cells names acc).lookup y=some c->cells.lookup y=some c
 | [],acc,h=>h
 | (n,k)::r,acc,h=>by
  unfold d8
  split
  ·split
   ·rename_i c0 hc
    refine pW r _ fun y c e=>?_
    rw [Vs] at e
    by_cases hy:y=n
    ·subst hy
     simp only [beq_self_eq_true] at e
     cases e
     exact hc
    ·have:(y == n)=false:=by simpa using hy
     rw [this] at e
     exact h y c e
   ·exact pW r acc h
  ·exact pW r acc h
theorem pX {cells:List (Str×Addr)}:∀ (names:List (Str×Ud))(acc:List (Str×Addr))(y:Str),(∃ c,acc.lookup y=some c)->∃ c,(d8 cells names acc).lookup y=some c
 | [],acc,y,h=>h
 | (n,k)::r,acc,y,h=>by
  unfold d8
  split
  ·split
   ·refine pX r _ y ?_
    rw [Vs]
    by_cases hy:(y == n)=true
    ·rw [hy];exact ⟨_,rfl⟩
    ·have:(y == n)=false:=by simpa using hy
     rw [this]
     exact h
   ·exact pX r acc y h
  ·exact pX r acc y h
theorem pY {cells:List (Str×Addr)}:∀ (names:List (Str×Ud))(acc:List (Str×Addr))(y:Str),(y,TC)∈names->(∃ c,cells.lookup y=some c)->∃ c,(d8 cells names acc).lookup y=some c
 | [],acc,y,h,_=>by cases h
 | (n,k)::r,acc,y,h,hc=>by
  unfold d8
  rcases RD.mp h with h|h
  ·cases h
   obtain ⟨c,hc⟩:=hc
   rw [if_pos rfl,hc]
   exact pX r _ _ ⟨c,by simp [Vs]⟩
  ·split
   ·split
    ·exact pY r _ y h hc
    ·exact pY r _ y h hc
   ·exact pY r _ y h hc
structure CompSt (osc:Uo)(N:List Str)(scope:Uo)(xs:List Str):Prop where
 nocell:∀ y∈scope.names,y.2≠.cell
 kind:scope.kind=.function
 names:∀ y∈scope.names,y.2=.local->scope.names.lookup y.1=some .local
 here:∀ x∈xs,scope.names.lookup x=some .local
 free:∀ y∈scope.names,y.2=.free->osc.names.lookup y.1=some .cell\/osc.names.lookup y.1=some .free
 own:∀ y∈scope.names,y.2=.local->y.1∉aW xs N
 nd:N.Nodup
 hnd:(aW xs N).Nodup
 hidn:∀ y∈N,xs.contains y=true->scope.names.lookup (lQ y)=none
theorem CompSt.ok {X:Cx}{scope:Uo}{xs:List Str}(S:CompSt X.env.scope X.N scope xs)(ok:X.Ok):CompOk X scope (d8 X.env.cells scope.names []) xs:=by
 have has:∀ y∈scope.names,y.2=.free->∃ c,X.env.cells.lookup y.1=some c:=fun y hy hf=>ok.has y.1 (S.free y hy hf)
 refine ⟨Jm has,S.nocell,S.kind,S.names,S.here,pW scope.names [] (fun y c e=>by cases e),fun y e=>?_,fun y e=>?_,S.hidn⟩
 ·have hm:=Sy e
  exact ⟨S.free _ hm rfl,pY scope.names [] y hm (has _ hm rfl)⟩
 ·exact S.own _ (Sy e) rfl
end L3
namespace L3
open PySem L2
section
variable {X:Cx}{pos:Ta}
end
end L3
namespace L3
open PySem L2
noncomputable def cS:Q1->Bool
 | .Starred ..=>false
 | _=>true
theorem eQ {e:Q1}{es:List Q1}{env:W3}(h:cS e=true):RK (e::es) env=(false,eval e env)::RK es env:=by
 cases e<;>first|rfl|cases h
theorem i8 {pos:Ta}{env:W3}:∀ {es:List Q1},es.all cS=true->(Uk pos (RK es env)).any (·.1)=false
 | [],_=>rfl
 | e::es,h=>by
  rw [Sa,Q7] at h
  rw [eQ h.1]
  have:=i8 (pos:=pos) (env:=env) h.2
  simpa [Uk] using this
theorem pZ {e:Q1}{es:List Q1}{env:W3}(h:cS e=true):TN (e::es) env=(false,Xk e env)::TN es env:=by
 cases e<;>first|rfl|cases h
theorem AW {env:W3}:∀ {es:List Q1},es.all cS=true->(TN es env).length=es.length
 | [],_=>rfl
 | e::es,h=>by
  rw [Sa,Q7] at h
  rw [pZ h.1,Rq,Rq,AW h.2]
theorem AX {env:W3}:∀ {es:List Q1},es.all cS=true->(TN es env).findIdx? (·.1)=none
 | [],_=>rfl
 | e::es,h=>by
  rw [Sa,Q7] at h
  rw [pZ h.1,List.findIdx?_cons,AX h.2]
  rfl
section
variable {X:Cx}{e a b c:Q1}{es:List Q1}{m:ME}{ms:MA}{pos:Ta}
end
end L3
namespace L3
open PySem L2
structure QE (X:Cx)(e:Q1)(m:ME):Prop where
 h:PE X e (tM X.K m)
structure QT (X:Cx)(e:Q1)(m:MT):Prop where
 h:PT X e (b8 X.K m)
structure QW (X:Cx)(e:Q1)(m:MT):Prop where
 h:PW X e (b8 X.K m)
structure QA (X:Cx)(es:List Q1)(m:MA)(n:Nat):Prop where
 h:PA X es (dE X.K m)
 l:∀ ρ μ ds μ',m ρ μ=some (ds,μ')->ds.length=n
 s:es.all cS=true
structure QO (X:Cx)(e:Option Q1)(m:MO):Prop where
 h:PO X e (nM X.K m)
structure QS (X:Cx)(st:Stmt)(m:MS):Prop where
 h:PS X st (cC X.K m)
structure QB (X:Cx)(st:List Stmt)(m:MS):Prop where
 h:PSs X st (cC X.K m)
structure QG (X:Cx)(e:Q1)(g:MG):Prop where
 h:PG X e (eJ X.K g)
structure QGs (X:Cx)(es:List Q1)(is:List Nat):Prop where
 h:nE X es (pV is)
 n:es.length=is.length
 s:es.all cS=true
structure QI (X:Cx)(ifs:List Q1)(m:MT):Prop where
 h:lS X ifs m
structure QP (X:Cx)(pos:Ta)(keys:List (Option Q1))(values:List Q1)(prs:List (ME×ME)):Prop where
 h:gZ X pos keys values (lV X.K prs)
 a:keys.all (·.isSome)=true
 l:keys.length=values.length
section
variable {X:Cx}{e a b c:Q1}{m ma mb mc:ME}{pos:Ta}{mt mu:MT}{rest es:List Q1}{ms:MA}{n:Nat}
theorem Jn {x:Str}(i:Nat)(hN:X.N[i]? = some x:=by rfl)(hv:nD X.env.scope x:=by first|exact ZR rfl|exact YU (ZR rfl)|exact YU (YU rfl))(hd:(x == ("__debug__":Str))=false:=by decide)
  (hcd:(x == ("__classdict__":Str))=false:=by decide):QE X (.Name x pos) (aA i):=⟨Hz i (EZ hN hv hd hcd)⟩
theorem Jo {i:Int}{j:Nat}:QE X (.Constant (.int i) j pos) (mC (.int i)):=⟨HA⟩
theorem Jp {i:Bool}{j:Nat}:QE X (.Constant (.bool i) j pos) (mC (.bl i)):=⟨HB⟩
theorem Jq {i:Str}{j:Nat}:QE X (.Constant (.str i) j pos) (mC (.str i)):=⟨HC⟩
theorem Jr {j:Nat}:QE X (.Constant .none j pos) (mC .non):=⟨HD⟩
theorem lW {op:YE}{r:R2}{f:D->D->Hm->Option (D×Hm)}(ho:OpR X (US op) r)(hf:bV X.K f r)(ha:QE X a ma)(hb:QE X b mb):QE X (.BinOp a op b pos) (aB f ma mb):=⟨HE ho hf ha.h hb.h⟩
theorem Js (ha:QE X a ma)(hb:QE X b mb):QE X (.BinOp a .Add b pos) (aB dH ma mb):=lW IM IP ha hb
theorem Jt (ha:QE X a ma)(hb:QE X b mb):QE X (.BinOp a .Sub b pos) (aB nN ma mb):=lW Gb IF ha hb
theorem Ju (ha:QE X a ma)(hb:QE X b mb):QE X (.BinOp a .Mult b pos) (aB dU ma mb):=lW IC IH ha hb
theorem Jv (ha:QE X a ma)(hb:QE X b mb):QE X (.BinOp a .FloorDiv b pos) (aB dW ma mb):=lW ID II ha hb
theorem Jw (ha:QE X a ma)(hb:QE X b mb):QE X (.BinOp a .Mod b pos) (aB bQ ma mb):=lW Gd IJ ha hb
theorem Jx (ha:QE X a ma)(hb:QE X b mb):QE X (.BinOp a .Pow b pos) (aB tT ma mb):=lW IE IK ha hb
theorem Jy (ha:QE X a ma):QE X (.UnaryOp .USub a pos) (nV ma):=⟨IQ ha.h⟩
theorem Jz (ha:QE X a ma):QE X (.UnaryOp .Not a pos) (kB ma):=⟨HP ha.h⟩
theorem JA {k:Nat}(hr:Room k X.A)(ha:QE X a ma)(hb:QE X b mb):QE X (.Compare a [.Eq] [b] pos) (aB (bL false) ma mb):=⟨cZ (AH (pS hr)) pR ha.h hb.h (bX _)⟩
theorem JB {k:Nat}(hr:Room k X.A)(ha:QE X a ma)(hb:QE X b mb):QE X (.Compare a [.NotEq] [b] pos) (aB (bL true) ma mb):=⟨cZ (AI (pS hr)) pR ha.h hb.h (bX _)⟩
theorem JC (ha:QE X a ma)(hb:QE X b mb):QE X (.Compare a [.Lt] [b] pos) (aB fV ma mb):=⟨cZ sJ e8 ha.h hb.h (bX _)⟩
theorem JD (ha:QE X a ma)(hb:QE X b mb):QE X (.Compare a [.LtE] [b] pos) (aB lP ma mb):=⟨cZ sL e8 ha.h hb.h (bX _)⟩
theorem JE (ha:QE X a ma)(hb:QE X b mb):QE X (.Compare a [.Gt] [b] pos) (aB tZ ma mb):=⟨cZ sM e8 ha.h hb.h (bX _)⟩
theorem JF (ha:QE X a ma)(hb:QE X b mb):QE X (.Compare a [.GtE] [b] pos) (aB t4 ma mb):=⟨cZ sN e8 ha.h hb.h (bX _)⟩
noncomputable def d9:Q1->Bool
 | .Set ..=>false
 | _=>true
theorem fA {op:U9}{b:Q1}(h:d9 b=true):UG op b=false:=by
 cases b<;>first|rfl|cases h
theorem JG {op:BoolOp}(h:QE X a m):QE X (.BoolOp op [a] pos) m:=⟨HL h.h⟩
theorem JI (ha:QE X a ma)(hb:QE X (.BoolOp .And (b::rest) pos) mb):QE X (.BoolOp .And (a::b::rest) pos) (c8 ma mb):=⟨HM ha.h hb.h⟩
theorem JJ (ha:QE X a ma)(hb:QE X (.BoolOp .Or (b::rest) pos) mb):QE X (.BoolOp .Or (a::b::rest) pos) (tJ ma mb):=⟨HN ha.h hb.h⟩
theorem JK (hc:QT X c mt)(ha:QE X a ma)(hb:QE X b mb):QE X (.IfExp c a b pos) (tK mt ma mb):=⟨HQ hc.h ha.h hb.h⟩
theorem JL:QA X [] aF 0:=⟨HR,HX,rfl⟩
theorem JM (ha:QE X e m)(hr:QA X es ms n)(h:cS e=true:=by rfl):QA X (e::es) (aC m ms) (n+1):=⟨HS ha.h hr.h (eQ h),HY hr.l,by rw [Sa,h,hr.s];rfl⟩
theorem JN {x1:Nat}(h:QA X es ms n):QE X (.Tuple es x1 pos) (eF ms):=⟨HU h.h⟩
theorem JO (h:QA X es ms n):QE X (.List es pos) (hZ ms):=⟨HV h.h⟩
noncomputable def kL:Q1->Bool
 | .Slice ..=>false
 | _=>true
theorem uC {b:Q1}(h:kL b=true):sY b:=by
 intro o i
 cases b<;>first|rfl|cases h
theorem JP (ha:QE X a ma)(hb:QE X b mb)(h:kL b=true:=by rfl):QE X (.Subscript a b pos) (aB eZ ma mb):=⟨Ie ha.h hb.h (uC h)⟩
theorem JQ {k:Nat}(hr:Room k X.A)(ha:QE X a ma)(hb:QE X b mb)(h:kL b=true:=by rfl):QE X (.Subscript a b pos) (aB nU ma mb):=⟨Jl (eN hr) ha.h hb.h (uC h)⟩
theorem JR:QO X none nK:=⟨Ig⟩
theorem JS (h:QE X e m):QO X (some e) (i7 m):=⟨Ih h.h⟩
theorem JT {lo hi:Option Q1}{ml mh:MO}{p2:Ta}(ha:QE X a ma)(hl:QO X lo ml)(hu:QO X hi mh):QE X (.Subscript a (.Slice lo hi none p2) pos) (kC ma ml mh):=⟨Ij ha.h hl.h hu.h⟩
theorem JU {k:Nat}{f:Addr}{fd:T3}{ps:List Str}{fm:MF}{x:Str}{p:Ta}(F:FnOk X.prog X.w X.K X.mg X.base d5 k f fd ps (fS X.K n fm))(hr:Room k X.A)(hm:X.mg x=some (.ref f))
  (hk:Te X.K (.ref f)=true)(hb:Binds X.K fd ps [])(ha:QA X (e::es) ms n)(hg:Gl X x:=by rfl)(hdb:(x == ("__debug__":Str))=false:=by decide):QE X (.Call (.Name x p) (e::es) [] pos) (aK fm ms):=by
 have hs:=ha.s
 rw [Sa,Q7] at hs
 exact ⟨HZ F hr hg hm hk hb ha.h ha.l hdb (eQ hs.1) (i8 hs.2)⟩
theorem uD {f:MF}{r:List V->Hp->VK->Prop}{id:String}{x:Str}{p:Ta}(hc:CallR X (.builtin id) r)(hf:cH X.K f r)(hm:X.mg x=none)(hv:S2 x=some (.builtin id))(ha:QA X (e::es) ms n)
  (hg:Gl X x:=by rfl)(hn:x ≠ "__name__":=by decide) (hdb:(x == ("__debug__":Str))=false:=by decide):QE X (.Call (.Name x p) (e::es) [] pos) (aK f ms):=by
 have hs:=ha.s
 rw [Sa,Q7] at hs
 exact ⟨Ia hc hf hg hm hv ha.h hn hdb (eQ hs.1) (i8 hs.2)⟩
theorem AY {f:MF}{r:List V->Hp->VK->Prop}{T:String}{x:Str}{p:Ta}(hc:CallR X (.type T) r)(hf:cH X.K f r)(hm:X.mg x=none)(hv:S2 x=some (.type T))(ha:QA X (e::es) ms n)
  (hg:Gl X x:=by rfl)(hn:x ≠ "__name__":=by decide) (hdb:(x == ("__debug__":Str))=false:=by decide):QE X (.Call (.Name x p) (e::es) [] pos) (aK f ms):=by
 have hs:=ha.s
 rw [Sa,Q7] at hs
 exact ⟨Ib hc hf hg hm hv ha.h hn hdb (eQ hs.1) (i8 hs.2)⟩
theorem JV {x:Str}{n:String}(hm:X.mg x=none)(hv:S2 x=some (.type n))(hg:Gl X x:=by rfl)(hn:x ≠ "__name__":=by decide) (hd:(x == ("__debug__":Str))=false:=by decide):QE X (.Name x pos) (mC (.ty n)):=⟨IS hg hm hv hn hd⟩
theorem JW:QP X pos [] [] []:=⟨Jh,rfl,rfl⟩
theorem JX {k v:Q1}{mk mv:ME}{ks:List (Option Q1)}{vs:List Q1}{prs:List (ME×ME)}(hk:QE X k mk)(hv:QE X v mv)(hr:QP X pos ks vs prs):QP X pos (some k::ks) (v::vs) ((mk,mv)::prs):=
 ⟨Ji hk.h hv.h hr.h,by rw [Sa,hr.a];rfl,by rw [Rq,Rq,hr.l]⟩
theorem JY {k:Option Q1}{keys:List (Option Q1)}{values:List Q1}{prs:List (ME×ME)}(h:QP X pos (k::keys) values prs)(h15:(k::keys).length<=15:=by decide):QE X (.Dict (k::keys) values pos) (kK prs):=⟨Jj h.h h.a h.l (by simp) h15⟩
theorem JZ {k:Nat}(hr:Room k X.A)(ha:QE X a ma)(hb:QE X b mb):QT X (.Compare a [.Eq] [b] pos) (a8 (aB (bL false) ma mb)):=⟨c3 (AH (pS hr)) pR ha.h hb.h (bX _)⟩
theorem J0 {k:Nat}(hr:Room k X.A)(ha:QE X a ma)(hb:QE X b mb):QT X (.Compare a [.NotEq] [b] pos) (a8 (aB (bL true) ma mb)):=⟨c3 (AI (pS hr)) pR ha.h hb.h (bX _)⟩
theorem J1 (ha:QE X a ma)(hb:QE X b mb):QT X (.Compare a [.Lt] [b] pos) (a8 (aB fV ma mb)):=⟨c3 sJ e8 ha.h hb.h (bX _)⟩
theorem J2 (ha:QE X a ma)(hb:QE X b mb):QT X (.Compare a [.LtE] [b] pos) (a8 (aB lP ma mb)):=⟨c3 sL e8 ha.h hb.h (bX _)⟩
theorem J3 (ha:QE X a ma)(hb:QE X b mb):QT X (.Compare a [.Gt] [b] pos) (a8 (aB tZ ma mb)):=⟨c3 sM e8 ha.h hb.h (bX _)⟩
theorem J4 (ha:QE X a ma)(hb:QE X b mb):QT X (.Compare a [.GtE] [b] pos) (a8 (aB t4 ma mb)):=⟨c3 sN e8 ha.h hb.h (bX _)⟩
noncomputable def uE:Q1->Bool
 | .UnaryOp .Not ..=>false
 | .BoolOp ..=>false
 | .IfExp ..=>false
 | .Compare ..=>false
 | _=>true
theorem J5 {e:Q1}{env:W3}(h:uE e=true):∀ whole,Zw e env whole=(do let v <- whole;standAt e.pos;holding [v] (truthy v)):=by
 intro whole
 cases e<;>first|rfl|cases h|skip
 rename_i op x p
 cases op<;>first|rfl|cases h
theorem J6 (ha:QT X a mt):QT X (.UnaryOp .Not a pos) (cL mt):=⟨HK ha.h⟩
theorem J7 (ha:QT X a mt):QW X (.BoolOp .And [a] pos) mt:=⟨HF ha.h⟩
theorem J8 (ha:QT X a mt):QW X (.BoolOp .Or [a] pos) mt:=⟨HG ha.h⟩
theorem J9 (ha:QT X a mt)(hb:QW X (.BoolOp .And (b::rest) pos) mu):QW X (.BoolOp .And (a::b::rest) pos) (i6 mt mu):=⟨HH ha.h hb.h⟩
theorem Ka (ha:QT X a mt)(hb:QW X (.BoolOp .Or (b::rest) pos) mu):QW X (.BoolOp .Or (a::b::rest) pos) (dG mt mu):=⟨HJ ha.h hb.h⟩
theorem Kb (h:QW X e mt):QT X e mt:=⟨h.h.pt⟩
theorem Kc:QI X [] iE:=⟨IZ⟩
theorem Kd (h:QT X c mt):QI X [c] mt:=⟨Ja h.h⟩
end
section
variable {X:Cx}{e a b c:Q1}{m:ME}{pos:Ta}{mt:MT}{st:Stmt}{rest body orelse:List Stmt}{ms mr mu:MS}{n:Nat}{is:List Nat}{es:List Q1}{g:MG}
theorem Ke:QB X [] b9:=⟨Ik⟩
theorem Kf (h1:QS X st ms)(h2:QB X rest mr):QB X (st::rest) (aV ms mr):=⟨Il h1.h h2.h⟩
theorem Kg (h1:QS X st ms):QB X [st] ms:=⟨Im h1.h⟩
theorem Kh:QS X (.Pass pos) b9:=⟨Io⟩
theorem Ki (he:QE X e m):QS X (.Return (some e) pos) (bF m):=⟨Ip he.h⟩
noncomputable def fX:Q1->Bool
 | .ListComp ..=>false
 | .SetComp ..=>false
 | .DictComp ..=>false
 | _=>true
theorem nW {e:Q1}{t:Option Q1}{n:Nat}{env:W3}(h:fX e=true):Vo e t n env=pure false:=by
 cases e<;>first|rfl|cases h
theorem Kj (he:QE X e m)(h:fX e=true:=by rfl):QS X (.Expr e pos) (lK m):=⟨Iq he.h (nW h)⟩
theorem Kk (hc:QT X c mt)(ha:QB X body ms)(hb:QB X orelse mu):QS X (.If c body orelse pos) (cA mt ms mu):=⟨Ir hc.h ha.h hb.h⟩
theorem Kl (i:Nat){x:Str}{pos':Ta}(hN:X.N.Nodup)(he:QE X e m)(h:fX e=true:=by rfl)(hi:X.N[i]? = some x:=by rfl)(hx:Loc X.env.scope x:=by first|exact ZR rfl|exact YU rfl)
  (hf:X.fn x=true\/X.env.scope.names.lookup x=some .local:=by first|exact .inl rfl|exact .inr rfl):QS X (.Assign [.Name x pos'] e pos) (bK i m):=⟨Aw hN hi hx he.h (nW h) hf⟩
theorem Km (i:Nat){x:Str}(hN:X.N.Nodup)(hi:X.N[i]? = some x:=by rfl)(hx:Loc X.env.scope x:=by first|exact ZR rfl|exact YU rfl)
  (hf:X.fn x=true\/X.env.scope.names.lookup x=some .local:=by first|exact .inl rfl|exact .inr rfl):QG X (.Name x pos) (c4 i):=⟨AK hN hi hx hf⟩
theorem AZ:QGs X [] []:=⟨FR,rfl,rfl⟩
theorem A0 (i:Nat){x:Str}(hN:X.N.Nodup)(hr:QGs X es is)(hi:X.N[i]? = some x:=by rfl)(hx:Loc X.env.scope x:=by first|exact ZR rfl|exact YU rfl)
  (hf:X.fn x=true\/X.env.scope.names.lookup x=some .local:=by first|exact .inl rfl|exact .inr rfl):QGs X (.Name x pos::es) (i::is):=
 ⟨FT (yQ hN hi hx hf) hr.h (by rw [pZ (e:=.Name x pos) rfl];rfl),by rw [Rq,Rq,hr.n],by rw [Sa,hr.s];rfl⟩
theorem uF {k:Nat}(h:QGs X es is)(hc:X.calm=true:=by rfl):QG X (.Tuple es k pos) (lU is):=⟨Jd hc h.h ((AW h.s).trans h.n) (AX h.s)⟩
noncomputable def uG:Q1->Bool
 | .Tuple ..=>false
 | _=>true
theorem Kn {tg e:Q1}{env:W3}(h:uG e=true):Y2 [tg] e env=pure none:=by
 cases e<;>first|(cases tg<;>rfl)|cases h
theorem Ko {k:Nat}{pt:Ta}(he:QE X e m)(hg:QG X (.Tuple es k pt) g)(h:uG e=true:=by rfl):QS X (.Assign [.Tuple es k pt] e pos) (t9 m g):=
 ⟨Je he.h hg.h (by cases e<;>rfl) (Kn h) (by rw [pZ (e:=.Tuple es k pt) rfl];rfl)⟩
end
section
variable {P:Rk}{w:RG}{K:QH}{mg:Str->Option QL}{base:Si}
theorem Kp {x qual:Str}{st:Stmt}{f:Addr}{fd:T3}{N ps:List Str}{k:Nat}{body:List Stmt}{m:MS}(F:Fun K x qual st f fd)(S:FnScope N ps (bU st))(hps:ps.length<=N.length)(hbd:eE st=body)
  (hbody:∀ (cdv:QL)(A:Rw)(outer:List W3)(s:QM)(H:Hp)(E:XK),Room k (A.deeper (XO qual (bU st) s.heap.objs.size f cdv))->
   QB (gY d5 P w K mg base N qual (bU st) f cdv A outer s H E).nox body m):FnOk P w K mg base d5 (k+1) f fd ps (fS K ps.length (tN N.length m)):=
 Iw F S hps fun cdv A outer s H E hr=>by
  rw [hbd]
  exact (hbody cdv A outer s H E hr).h
end
end L3
namespace L3
open PySem L2
noncomputable abbrev kM:=Hm->Nat->Option (Option D)
noncomputable abbrev MI:=aG->Hm->Option (kM×Nat×Hm)
noncomputable def iG (K:QH)(m:MI):TI:=fun σ H R=>∃ π ρ μ src n μ',Rp K π H μ/\En K π μ.length H σ ρ/\m ρ μ=some (src,n,μ') /\
 ∀ π' H' J,Ext π μ.length H π' μ'.length H'->Rp K π' H' μ'->Wk K J src π' μ'.length H'->R J H'
structure QJ (X:Cx)(e:Q1)(m:MI):Prop where
 h:∀ tg,PI X tg e (iG X.K m)
section
variable {X:Cx}{pos:Ta}{e:Q1}{m:ME}
noncomputable def uH:MI:=fun _ _=>none
theorem j_bad:QJ X e uH:=⟨fun tg a2j s σ H R I hw=>by
 obtain ⟨π,ρ,μ,src,n,μ',Rr,E,hm,k⟩:=hw
 cases hm⟩
noncomputable def fY (μ:Hm):D->Option (List D)
 | d=>bH μ d
noncomputable def dJ (x:D):kM:=fun μ i=>(fY μ x).map fun xs=>xs[i]?
noncomputable def dM (m:ME):MI:=fun ρ μ=>(m ρ μ).bind fun p=>(fY p.2 p.1).map fun xs=>(dJ p.1,xs.length+1,p.2)
theorem Kq (h:QE X e m):QJ X e (dM m):=⟨fun tg a2j s σ H R I hw=>by
 obtain ⟨π,ρ,μ,src,n,μ',Rr,E,hm,k⟩:=hw
 obtain ⟨⟨x,μ1⟩,h1,hm⟩:=QF.mp hm
 obtain ⟨xs,h2,hm⟩:=QR.mp hm
 cases hm
 have key:∀ (hs:bH μ1 x=some xs)(hx:dJ x=iC x),Ri (Rl X.prog X.w) X.A (eval e X.env) (fun v s1=>Ri (Rl X.prog X.w) X.A (Yy v) (oY X a2j σ tg R) X.xe s1) X.xe s:=fun hs hx=>by
  refine IU h.h a2j s σ H R I ⟨π,ρ,μ,x,_,Rr,E,h1,fun π1 v1 H1 e1 R1 i1=>?_⟩
  obtain ⟨a,e,q⟩:=IV R1 i1 hs
  subst e
  refine ⟨a,rfl,?_⟩
  dsimp only at k
  rw [hx] at k
  rcases q with ⟨q1,W⟩|⟨q1,W⟩
  ·exact .inl ⟨q1,k π1 H1 _ e1 R1 W⟩
  ·exact .inr ⟨q1,k π1 H1 _ e1 R1 W⟩
 cases x with
 | _=>exact key h2 rfl⟩
noncomputable def kN (ms:MA):MI:=fun ρ μ=>(ms ρ μ).bind fun p=>match p.1 with
 | [.int j]=>if -(2 ^ 62)<=j/\j<2 ^ 62 then some (fW 0 j.toNat,j.toNat+1,p.2) else none
 | _=>none
theorem Kr {a:Q1}{ms:MA}{n:Nat}{p:Ta}(hgl:Gl X "range") (hmg:X.mg "range" = none) (ha:QA X [a] ms n):QJ X (.Call (.Name "range" p) [a] [] pos) (kN ms):=⟨fun tg a2j s σ H R I hw=>by
 have hs:=ha.s
 rw [Sa,Q7] at hs
 obtain ⟨π,ρ,μ,src,n',μ',Rr,E,hm,k⟩:=hw
 obtain ⟨⟨x,μ1⟩,h1,hm⟩:=QF.mp hm
 refine F1 hgl hmg ha.h (eQ hs.1) a2j s σ H R I ⟨π,ρ,μ,x,μ1,Rr,E,h1,fun π1 vs H1 e1 R1 i1=>?_⟩
 dsimp only at hm
 split at hm
 ·rename_i j
  split at hm
  ·rename_i hb
   cases hm
   cases i1 with
   | cons i1 t1=>
    cases i1
    cases t1
    exact ⟨j,rfl,hb.1,hb.2,k π1 H1 _ e1 R1 AL⟩
  ·cases hm
 ·cases hm⟩
noncomputable def lX (ms:MA):MI:=fun ρ μ=>(ms ρ μ).bind fun p=>match p.1 with
 | [.int i,.int j]=>if -(2 ^ 62)<=i/\i<2 ^ 62/\-(2 ^ 62)<=j/\j<2 ^ 62 then some (fW i (j - i).toNat,(j - i).toNat+1,p.2) else none
 | _=>none
theorem Ks {a b:Q1}{ms:MA}{n:Nat}{p:Ta}(hgl:Gl X "range") (hmg:X.mg "range" = none) (ha:QA X [a,b] ms n):QJ X (.Call (.Name "range" p) [a,b] [] pos) (lX ms):=⟨fun tg a2j s σ H R I hw=>by
 have hs:=ha.s
 rw [Sa,Q7,Sa,Q7] at hs
 obtain ⟨π,ρ,μ,src,n',μ',Rr,E,hm,k⟩:=hw
 obtain ⟨⟨x,μ1⟩,h1,hm⟩:=QF.mp hm
 refine F2 hgl hmg ha.h (by rw [eQ hs.1,eQ hs.2.1];rfl) (by rw [eQ hs.2.1];rfl) a2j s σ H R I ⟨π,ρ,μ,x,μ1,Rr,E,h1,fun π1 vs H1 e1 R1 i1=>?_⟩
 dsimp only at hm
 split at hm
 ·rename_i i j
  split at hm
  ·rename_i hb
   cases hm
   cases i1 with
   | cons i1 t1=>
    cases i1
    cases t1 with
    | cons i2 t2=>
     cases i2
     cases t2
     exact ⟨i,j,rfl,hb,k π1 H1 _ e1 R1 AL⟩
  ·cases hm
 ·cases hm⟩
noncomputable def cT (it:MI)(g:MG)(b:MS):MS:=fun ρ μ=>(it ρ μ).bind fun p=>eK p.1 g b p.2.1 0 ρ p.2.2
end
noncomputable def lY (bd:BD)(it:MI)(c:MT)(e:ME):ME:=fun ρ μ=>(it ρ μ).bind fun p=>
 (iD p.1 bd c e ρ p.2.2.length p.2.1 0 (p.2.2++[.lst []])).map fun μ'=>(.loc p.2.2.length,μ')
noncomputable abbrev fZ (it:MI)(c:MT)(e:ME):ME:=lY nO it c e
noncomputable def gB (n:Nat)(bd:BD):MG:=fun d ρ μ=>(bd d μ).map fun x=>ρ.take n++x
theorem Kt {X:Cx}{n:Nat}{x:Str}{px:Ta}(hl:X.N.length=n+1)(h:PG X (.Name x px) (eJ X.K (c4 n))):PG X (.Name x px) (eJ X.K (gB n nO)):=by
 intro a2j s σ H v u Q I r hw
 obtain ⟨π,ρ,μ,d,ρ',R,E,hd,hm,k⟩:=hw
 cases hm
 refine h a2j s σ H v u Q I r ⟨π,ρ,μ,d,_,R,E,hd,rfl,fun σ' E'=>k σ' ?_⟩
 have hρ:ρ.length=n+1:=by rw [<- E.len,I.len,hl]
 have e:ρ.set n (some d)=ρ.take n++[some d]:=by
  rw [List.set_eq_take_append_cons_drop,if_pos (by omega),SM (by omega)]
 rw [e] at E'
 exact E'
theorem A1:∀ (xs:List D)(a b:aG),b.length=xs.length->kI (a++b) (VF a.length xs.length) xs=a++xs.map some
 | [],a,[],_=>by simp [kI]
 | x::xs,a,y::b,h=>by
  have ih:=A1 xs (a++[some x]) b (by simpa using h)
  rw [Rq,Vr]
  show kI ((a++y::b).set a.length (some x)) (VF (a.length+1) xs.length) xs=_
  rw [Wn _ _ (Q0 _),Vl,Rf]
  rw [Q8,YI] at ih
  rw [Rc,List.singleton_append] at ih
  rw [ih]
  simp
theorem Ku {X:Cx}{n k:Nat}{tg:Q1}(hl:X.N.length=n+k)(h:PG X tg (eJ X.K (lU (VF n k)))):PG X tg (eJ X.K (gB n (AN k))):=by
 intro a2j s σ H v u Q I r hw
 obtain ⟨π,ρ,μ,d,ρ',R,E,hd,hm,kk⟩:=hw
 obtain ⟨y,h1,h2⟩:=QR.mp hm
 obtain ⟨xs,h3,h4⟩:=QF.mp h1
 split at h4
 ·rename_i hx
  cases h4
  subst h2
  have hρ:ρ.length=n+k:=by rw [<- E.len,I.len,hl]
  refine h a2j s σ H v u Q I r ⟨π,ρ,μ,d,kI ρ (VF n k) xs,R,E,hd,(by simp only [lU,h3,RM,List.length_range',if_pos hx]),fun σ' E'=>kk σ' ?_⟩
  have e:=A1 xs (ρ.take n) (ρ.drop n) (by rw [RZ];omega)
  rw [RT,RC,Wm (by omega),hx] at e
  rw [e] at E'
  exact E'
 ·cases h4
section
variable {X:Cx}{scope:Uo}{cl:List (Str×Addr)}{xs:List Str}{tg elt iter:Q1}{ifs:List Q1}{pos ppos:Ta}{mi:MI}{me:ME}{mc:MT}{bd:BD}
theorem Kv {K:QH}{π:Nat->Addr}{n:Nat}{H:Hp}{σ:St}{ρ o:aG}{k:Nat}(E:En K π n H σ (ρ++o))(ho:o.length=k):En K π n H σ (ρ++Tq k none):=by
 refine ⟨by rw [E.len,Q8,Q8,TU,ho],fun i d q=>?_⟩
 by_cases hi:i<ρ.length
 ·rw [Q9 hi] at q
  exact E.get i d (by rw [Q9 hi];exact q)
 ·rw [Rg (Up.mp hi),Ug] at q
  split at q<;>cases q
theorem A2 (O:CompOk X scope cl xs)(hcalm:X.calm=true)(hi:PI X tg iter (iG X.K mi))(hb':∀ d μ z,bd d μ=some z->z.length=xs.length)(hg:∀ C s₀ H₀ fp,PG (bY X scope cl C (aW xs X.N++xs) s₀ H₀ fp) tg (eJ X.K (gB X.N.length bd)))
  (hc:∀ C s₀ H₀ fp,lS (bY X scope cl C (aW xs X.N++xs) s₀ H₀ fp) ifs mc)(he:∀ C s₀ H₀ fp,PE (bY X scope cl C (aW xs X.N++xs) s₀ H₀ fp) elt (tM X.K me))
  (hs:∀ x,Vx iter X.env x=pure x){use:Option (QL->Zy Unit)}{QQ:QL->QM->Prop}{a2j:List (Addr×Td)}{s:QM}{σ:St}{H:Hp}{π:Nat->Addr}{ρ:aG}{μ μ':Hm}{d:D}
  (I:Inv X a2j σ H s)(R:Rp X.K π H μ)(E:En X.K π μ.length H σ ρ)(hm:lY bd mi mc me ρ μ=some (d,μ'))
  (fin:∀ (p C:Addr)(π':Nat->Addr)(H':Hp)(s':QM),Ext π μ.length H π' μ'.length H'->Rp X.K π' H' μ'->IsD X.K π' μ'.length H' (.ref p) d->(∃ m,s'.heap.Ns C m)->X.s₀.heap.objs.size<=C->C≠X.env.locals->H' C=none->
   (∀ y c,X.env.cells.lookup y=some c->c≠C)->(∀ q∈X.pn++a2j,q.1≠C)->(∀ h',(∀ b o,b≠C->s'.heap.get? b=some o->h'.get? b=some o)->Inv X a2j σ H' { s' with heap:=h' })->
   compPost (Rl X.prog X.w) X.A X.xe use QQ (.ref p) C (.ok .next) s') :
  Ri (Rl X.prog X.w) X.A (comprehension (.ListComp elt [⟨tg,iter,ifs,0⟩] scope pos) scope X.env ppos (newList []) false (eval iter X.env) use) QQ X.xe s:=by
 obtain ⟨⟨src,nt,μ1⟩,h1,hm⟩:=QF.mp hm
 obtain ⟨μ2,h3,hm⟩:=QR.mp hm
 cases hm
 have hit:Ri (Rl X.prog X.w) X.A (eval iter X.env) (fun v s1=>Ri (Rl X.prog X.w) X.A (Yy v) (oY X a2j σ tg fun J H1=>∃ π1,Ext π μ.length H π1 μ1.length H1/\Rp X.K π1 H1 μ1/\Wk X.K J src π1 μ1.length H1) X.xe s1) X.xe s:=
  hi a2j s σ H _ I ⟨π,ρ,μ,src,nt,μ1,R,E,h1,fun π1 H1 J e1 R1 W=>⟨π1,e1,R1,W⟩⟩
 refine wpAny_comprehension_free rfl hs O.clos O.kind O.names (RV hit (fun v s1 hv=>RV hv (fun itv s2 h4=>?_) fun _ _ z=>z) fun _ _ z=>z)
 obtain ⟨it,fp,tn,J,H2,rfl,I2,T,st2,f2,π1,e1,R1,W⟩:=h4
 refine Ti (wpAny_newFunctionEnv O.nocell (by intro y hy;simp at hy) (fun h₁ hns₁ hsb₁=>?_) O.kind)
 dsimp only at hns₁ hsb₁ ⊢
 have hfr:H2 s2.heap.objs.size=none:=I2.hok.fresh (Q0 _)
 have I3:Inv X a2j σ (aE H2 s2.heap.objs.size (.lst [])) { s2 with heap:=s2.heap.push { cls:=.type "list",dict:=none,data:=.seq ([]:List QL).toArray } }:=
  I2.laid (t':=s2.toks) (fun b u e=>QU _ e) (Q0 _) ⟨Su _,[],0,.nil,Rj _ rfl⟩
 obtain ⟨e2,R2,q2⟩:=R1.alloc (c:=.lst []) (o:=.lst []) hfr .nil
 generalize hs3:({ s2 with heap:=s2.heap.push { cls:=.type "list",dict:=none,data:=.seq ([]:List QL).toArray } }:QM)=s3 at I3
 have hheap:s2.heap.push { cls:=.type "list",dict:=none,data:=.seq ([]:List QL).toArray } = s3.heap:=by rw [<- hs3]
 have e12:=e1.trans e2
 generalize hH3:aE H2 s2.heap.objs.size (.lst [])=H3 at I3 e2 R2 e12
 generalize hπ3:eY π1 μ1.length s2.heap.objs.size=π3 at e2 R2 q2 e12
 have hob:∀ b∈fp,∃ o,s3.heap.get? b=some o:=fun b hb=>by
  obtain ⟨o,ho,_⟩:=T.obj 0 _ st2 b hb
  exact ⟨o,by rw [<- hheap];exact QU _ ho⟩
 have f3:∀ b∈fp,fD X a2j H3 b:=fun b hb=>by
  obtain ⟨o,ho,_⟩:=T.obj 0 _ st2 b hb
  refine ⟨?_,(f2 b hb).2⟩
  rw [<- hH3,aS (Ro (Q4 ho))]
  exact (f2 b hb).1
 have st3:tn 0 s3.heap:=T.keep 0 _ _ st2 fun b hb o e=>by rw [<- hheap];exact QU _ e
 have hC:(s2.heap.push { cls:=.type "list",dict:=none,data:=.seq ([]:List QL).toArray }).objs.size=s3.heap.objs.size:=by rw [hheap]
 rw [hheap] at hns₁ hsb₁
 have hk1:∀ b o,s3.heap.get? b=some o->h₁.get? b=some o:=fun b o e=>hsb₁.extBut b o (Ro (Q4 e)) (QU _ e)
 have E3:En X.K π3 (μ1++[C.lst []]).length H3 (σ++Tq xs.length none) (ρ++Tq xs.length none):=by
  have E':=E.mono e12
  refine ⟨by rw [Q8,Q8,E'.len,TU,TU],fun i d' q=>?_⟩
  by_cases hi:i<ρ.length
  ·rw [Q9 hi] at q
   obtain ⟨v,h5,h6⟩:=E'.get i d' q
   exact ⟨v,by rw [Q9 (by rw [E'.len];exact hi)];exact h5,h6⟩
  ·rw [Rg (Up.mp hi),Ug] at q
   split at q<;>cases q
 have hlen:ρ.length=X.N.length:=by rw [<- E.len];exact I.len
 have stat:∀ {H':Hp}{pl:List (Addr×Td)},(∀ b∈fp,H' b=none)->pl=[]->∀ b∈fp,fD (bY X scope cl s3.heap.objs.size (aW xs X.N++xs) s3 H3 fp) pl H' b:=fun {H' pl} hn hpl b hb=>by
  obtain ⟨f0,f1,f2',f3',f4,f5⟩:=f3 b hb
  obtain ⟨o,ho⟩:=hob b hb
  refine ⟨hn b hb,Ro (Q4 ho),fun z=>?_,.inl hb,fun y c h=>f4 y c (O.sub y c h),fun p hp=>?_⟩
  ·rcases RD.mp (I3.stkSub b z) with z|z
   ·exact f1 z
   ·exact f2' z
  ·subst hpl
   exact absurd (show p∈([]:List (Addr×Td)) from hp) (by simp)
 have loop:∀ s4:QM,(∃ tk,s4 = { s3 with heap:=h₁,toks:=tk })->
   Vz (Rl X.prog X.w) X.A (.compLoop (.ListComp elt [⟨tg,iter,ifs,0⟩] scope pos) 0 (.ref it) (.ref s2.heap.objs.size) (Vy scope cl s3.heap.objs.size X.env))
    (compPost (Rl X.prog X.w) X.A X.xe use QQ (.ref s2.heap.objs.size) s3.heap.objs.size) s4:=by
  rintro s4 ⟨tk,rfl⟩
  have I4:=O.inv (tk:=tk) I3 f3 hob hns₁ hk1
  refine IY (fun n s'=>∃ i σ' H' π' μi o,Inv (bY X scope cl s3.heap.objs.size (aW xs X.N++xs) s3 H3 fp) [] σ' H' s'/\tn i s'.heap/\(∀ b∈fp,H' b=none)/\Ext π3 (μ1++[C.lst []]).length H3 π' μi.length H'/\Rp X.K π' H' μi /\
   En X.K π' μi.length H' σ' (ρ++o)/\o.length=xs.length/\iD src bd mc me ρ μ1.length n i μi=some μ') ?_ nt
   ⟨0,_,H3,π3,μ1++[C.lst []],Tq xs.length none,I4,T.keep 0 _ _ st3 fun b hb o e=>hk1 b o e,fun b hb=>(f3 b hb).1,.refl,R2,E3,TU,h3⟩
  rintro n s5 ⟨i,σ5,H5,π5,μ5,o5,I5,st5,fr5,e5,R5,E5,l5,g5⟩
  cases n with
  | zero=>cases g5
  | succ n=>
   obtain ⟨o,h6,h7⟩:=QF.mp g5
   cases o with
   | none=>
    cases h7
    have stop:=W.stop π5 _ H5 i (e2.trans e5) R5 h6
    refine RV (T.done (bY X scope cl s3.heap.objs.size (aW xs X.N++xs) s3 H3 fp) rfl rfl rfl hcalm i [] s5 σ5 H5 (fun _ _=>False) I5 (stat fr5 rfl) st5 stop) (fun r s6 ⟨hr,I6⟩=>?_) fun _ _ z=>z
    subst hr
    obtain ⟨m6,hn6,_⟩:=id I6.loc
    have hp:π5 μ1.length=s2.heap.objs.size:=by rw [e5.pi μ1.length (by simp),q2]
    refine fin s2.heap.objs.size s3.heap.objs.size π5 H5 s6 (e12.trans e5) R5 ?_ ⟨m6,hn6⟩ I3.sz (Sw (Ro I3.lt)) I6.free (fun y c hc z=>?_) (fun q hq z=>?_) fun h' hh=>CompOk.back I3 f3 I6 hh
    ·rw [<- hp]
     exact .loc (RF (by simp) e5.le)
    ·obtain ⟨v,o,ho,_⟩:=I3.cell y c hc
     exact Ro (Q4 ho) z
    ·exact Ro (Q4 (I3.pin q hq).1) z
   | some d=>
    obtain ⟨z,hz,h7⟩:=QF.mp h7
    obtain ⟨⟨b,μ6⟩,h8,h9⟩:=QF.mp h7
    obtain ⟨g1,g2⟩:=W.go π5 μ5 H5 i d (e2.trans e5) R5 h6
    refine RV (T.item (bY X scope cl s3.heap.objs.size (aW xs X.N++xs) s3 H3 fp) rfl rfl rfl hcalm i [] s5 σ5 H5 (fun _ _=>False) I5 (stat fr5 rfl) st5 g1) (fun r s6 ⟨u,hr,h10⟩=>?_) fun _ _ z=>z
    subst hr
    refine RV h10 (fun _ s7 ⟨v,H7,I7,r7,y7,st7,fr7⟩=>?_) fun _ _ z=>z
    obtain ⟨e7,R7,hd⟩:=g2 v H7 y7
    have I7':=I7.pinned (stat fr7 rfl) (T.obj _ _ st7)
    have e5:=e5.trans e7
    refine RV (hg _ _ _ _ _ s7 σ5 H7 v u (fun σ' H'=>En X.K π5 μ5.length H7 σ' (ρ++z)/\H'=H7) I7' r7
     ⟨π5,ρ++Tq xs.length none,μ5,d,ρ++z,R7,Kv (E5.mono e7) l5,hd,(by
      show (bd d μ5).map (fun x=>(ρ++Tq xs.length none).take X.N.length++x)=_
      rw [hz,<- hlen,XY]
      rfl),fun σ' E'=>⟨E',rfl⟩⟩) (fun _ s8 ⟨σ8,H8,I8,E8,z2⟩=>?_) fun _ _ z=>z
    subst z2
    have again:∀ {s9:QM}{H9:Hp}{π9:Nat->Addr}{μ9:Hm},Inv (bY X scope cl s3.heap.objs.size (aW xs X.N++xs) s3 H3 fp) ([]++nG fp s7.heap) σ8 H9 s9->Ext π3 (μ1++[C.lst []]).length H3 π9 μ9.length H9->Rp X.K π9 H9 μ9->
      En X.K π9 μ9.length H9 σ8 (ρ++z)->iD src bd mc me ρ μ1.length n (i+1) μ9=some μ'->
      ∃ m,m<n+1/\∃ i σ' H' π' μi o,Inv (bY X scope cl s3.heap.objs.size (aW xs X.N++xs) s3 H3 fp) [] σ' H' s9/\tn i s9.heap/\(∀ b∈fp,H' b=none)/\Ext π3 (μ1++[C.lst []]).length H3 π' μi.length H'/\Rp X.K π' H' μi /\
       En X.K π' μi.length H' σ' (ρ++o)/\o.length=xs.length/\iD src bd mc me ρ μ1.length m i μi=some μ':=fun {s9 H9 π9 μ9} I9 e9 R9 E9 g9=>by
     refine ⟨n,Xm _,i+1,_,H9,π9,μ9,z,I9.unpinned,T.keep _ _ _ st7 fun b hb o e=>(I9.pin (b,o) (Sz _ (Sz _ (o4 hb e)))).1,fun b hb=>?_,e9,R9,E9,hb' _ _ _ hz,g9⟩
     obtain ⟨o,e,_⟩:=T.obj _ _ st7 b hb
     exact (I9.pin (b,o) (Sz _ (Sz _ (o4 hb e)))).2.1
    refine RV (hc _ _ _ _ _ s8 _ H8 (fun b' H'=>∃ π9,b'=b/\Ext π5 μ5.length H8 π9 μ6.length H'/\Rp X.K π9 H' μ6) I8 ⟨π5,_,μ5,b,μ6,R7,E8,h8,fun π9 H9 e9 R9=>⟨π9,rfl,e9,R9⟩⟩) (fun ok s9 ⟨H9,I9,π9,hb,e9,R9⟩=>?_) fun _ _ z=>z
    subst hb
    cases ok with
    | false=>
     rw [if_neg RR]
     exact again I9 (e5.trans e9) R9 (E8.mono e9) h9
    | true=>
     rw [if_pos rfl]
     obtain ⟨⟨dy,μ7⟩,h11,h12⟩:=QF.mp h9
     obtain ⟨μ8,h13,h14⟩:=QF.mp h12
     refine RV (he _ _ _ _ _ s9 _ H9 (fun y H'=>∃ π10,Ext π9 μ6.length H9 π10 μ7.length H'/\Rp X.K π10 H' μ7/\IsD X.K π10 μ7.length H' y dy) I9 ⟨π9,_,μ6,dy,μ7,R9,E8.mono e9,h11,fun π10 y H10 e10 R10 i10=>⟨π10,e10,R10,i10⟩⟩)
      (fun u' s10 ⟨y,H10,I10,ry,π10,e10,R10,i10⟩=>?_) fun _ _ z=>z
     unfold lR at h13
     split at h13
     ·rename_i zs hz
      split at h13
      ·rename_i hl
       cases h13
       obtain ⟨vs,h15,h16⟩:=R10.lst _ zs hz
       have eall:=(e5.trans e9).trans e10
       have hp:π10 μ1.length=s2.heap.objs.size:=by rw [eall.pi μ1.length (by simp),q2]
       obtain ⟨e11,R11⟩:=R10.put (a:=μ1.length) (c:=.lst (zs++[dy])) (o:=.lst (vs++[y])) (QN.mp hz).1 h15 (.inl ⟨vs,rfl⟩) (h16.append (.cons i10 .nil))
       rw [hp] at h15 e11 R11
       refine RV (Aa (X:=bY X scope cl s3.heap.objs.size (aW xs X.N++xs) s3 H3 fp) _ s10 _ H10 (.ref s2.heap.objs.size) [y] (.ref s2.heap.objs.size) [u'] (fun _ H'=>H'=aE H10 s2.heap.objs.size (.lst (vs++[y]))) I10 rfl (.cons ry .nil)
        ⟨s2.heap.objs.size,vs,y,rfl,rfl,h15,by rw [h16.length];exact hl,rfl⟩) (fun _ s11 ⟨_,H11,I11,_,z⟩=>?_) fun _ _ z=>z
       subst z
       exact again I11 (eall.trans e11) R11 ((E8.mono (e9.trans e10)).mono e11) h14
      ·cases h13
     ·cases h13
 have l4:=loop { s3 with heap:=h₁,toks:=s2.toks+([]:List (Str×QL)).length } ⟨_,rfl⟩
 have hst4:tn 0 h₁:=T.keep 0 _ _ st3 fun b hb o e=>hk1 b o e
 subst hs3
 exact codeAny_compStart_list l4 (T.self _ 0 _ _ _ hst4 l4)
theorem Kw (O:CompOk X scope cl xs)(hcalm:X.calm=true)(hi:PI X tg iter (iG X.K mi))(hb':∀ d μ z,bd d μ=some z->z.length=xs.length)(hg:∀ C s₀ H₀ fp,PG (bY X scope cl C (aW xs X.N++xs) s₀ H₀ fp) tg (eJ X.K (gB X.N.length bd)))
  (hc:∀ C s₀ H₀ fp,lS (bY X scope cl C (aW xs X.N++xs) s₀ H₀ fp) ifs mc)(he:∀ C s₀ H₀ fp,PE (bY X scope cl C (aW xs X.N++xs) s₀ H₀ fp) elt (tM X.K me))
  (hs:∀ x,Vx iter X.env x=pure x):PE X (.ListComp elt [⟨tg,iter,ifs,0⟩] scope pos) (tM X.K (lY bd mi mc me)):=by
 intro a2j s σ H Q I hw
 obtain ⟨π,ρ,μ,d,μ',R,E,hm,k⟩:=hw
 rw [eval_ListComp]
 refine A2 (use:=none) O hcalm hi hb' hg hc he hs I R E hm fun p C π' H' s' e1 R1 i1 hns hsz hne hfree hcel hpin back=>?_
 obtain ⟨m,hn⟩:=hns
 exact ⟨m,hn,fun h' sb=>⟨.ref p,H',back h' (fun b o hb e=>(sb.2 b hb).trans e),rfl,k π' _ H' e1 R1 i1⟩⟩
theorem Ky {i:Nat}{y:Str}{py spos:Ta}(O:CompOk X scope cl xs)(hN:X.N.Nodup)(hcalm:X.calm=true)(hi:PI X tg iter (iG X.K mi))(hb':∀ d μ z,bd d μ=some z->z.length=xs.length)(hg:∀ C s₀ H₀ fp,PG (bY X scope cl C (aW xs X.N++xs) s₀ H₀ fp) tg (eJ X.K (gB X.N.length bd)))
  (hc:∀ C s₀ H₀ fp,lS (bY X scope cl C (aW xs X.N++xs) s₀ H₀ fp) ifs mc)(he:∀ C s₀ H₀ fp,PE (bY X scope cl C (aW xs X.N++xs) s₀ H₀ fp) elt (tM X.K me))
  (hs:∀ x,Vx iter X.env x=pure x)(hy:X.N[i]? = some y)(hl:X.env.scope.names.lookup y=some .local)
  (hsw:Vo (.ListComp elt [⟨tg,iter,ifs,0⟩] scope pos) (some (.Name y py)) spos.line X.env=pure true) :
  PS X (.Assign [.Name y py] (.ListComp elt [⟨tg,iter,ifs,0⟩] scope pos) spos) (cC X.K (bK i (lY bd mi mc me))):=by
 intro a2j s σ H EN I hw
 obtain ⟨π,ρ,μ,fl,ρ',μ',R,E,hm,k⟩:=hw
 obtain ⟨⟨d,μ1⟩,h1,hm⟩:=QR.mp hm
 cases hm
 rw [exec_Assign_Name_used _ _ _ _ hsw]
 refine QK (Y0 ?_)
 refine QK (QK ?_)
 refine A2 (use:=some (Xk (.Name y py) X.env)) (QQ:=fun _ s'=>Ri (Rl X.prog X.w) X.A (pure ()) (fun _ s''=>Ri (Rl X.prog X.w) X.A (pure Flow.next) (SP X a2j EN) X.xe s'') X.xe s') O hcalm hi hb' hg hc he hs I R E h1 fun p C π' H' s' e1 R1 i1 hns hsz hne hfree hcel hpin back=>?_
 obtain ⟨m,hn⟩:=hns
 have I1:Inv X a2j σ H' s':=back s'.heap fun b o _ e=>e
 show Ri (Rl X.prog X.w) X.A (Xk (.Name y py) X.env (.ref p)) _ X.xe s'
 refine a0M ?_
 refine yL I1 hN hy (.inl hl) (show RelV (.ref p) (.ref p) from rfl) (fun s2 I2 ⟨a,sb,ha⟩=>?_) (.inr hl)
 have hCa:C≠a:=by
  rcases ha with rfl|ha
  ·exact hne
  ·exact Sw (hcel _ _ ha)
 refine ⟨m,hn.sameBut sb hCa,fun h' sb'=>QX (QX ?_)⟩
 refine ⟨σ.set i (some (.ref p)),H',I2.turned (t':=s2.toks) (fun b o hb e=>(sb'.2 b hb).trans e) hfree hne (.inr hsz) hcel hpin,?_⟩
 exact k π' _ H' e1 R1 ((E.mono e1).set i1 i)
end
end L3
namespace L3
open PySem L2
noncomputable def bG:ME:=fun _ _=>none
noncomputable def kP:MT:=fun _ _=>none
noncomputable def dN:MS:=fun _ _=>none
section
variable {X:Cx}{e a b c o:Q1}{m m1 m2 ma mb mc:ME}{pos:Ta}{mt mu:MT}{rest es:List Q1}{ms:MA}{n:Nat}
theorem bJ:QE X e bG:=⟨fun a2j s σ H Q I h=>by
 obtain ⟨π,ρ,μ,d,μ',R,E,hm,k⟩:=h
 cases hm⟩
theorem uI:QT X e kP:=⟨fun a2j s σ H Q I h=>by
 obtain ⟨π,ρ,μ,d,μ',R,E,hm,k⟩:=h
 cases hm⟩
theorem Kz:QW X e kP:=⟨fun wh a2j s σ H Q I h=>by
 obtain ⟨π,ρ,μ,d,μ',R,E,hm,k⟩:=h
 cases hm⟩
theorem fF {st:Stmt}:QS X st dN:=⟨fun a2j s σ H D I h=>by
 obtain ⟨π,ρ,μ,fl,ρ',μ',R,E,hm,k⟩:=h
 cases hm⟩
theorem p8 {g:MG}(hg:∀ d ρ μ,g d ρ μ=none):QG X e g:=⟨fun a2j s σ H v u Q I r h=>by
 obtain ⟨π,ρ,μ,d,ρ',R,E,hd,hm,k⟩:=h
 rw [hg] at hm
 cases hm⟩
theorem i9 (h1:QE X e m1)(h2:QE X e m2)(h:∀ ρ μ r,m ρ μ=some r->m1 ρ μ=some r\/m2 ρ μ=some r):QE X e m:=⟨fun a2j s σ H Q I q=>by
 obtain ⟨π,ρ,μ,d,μ',R,E,hm,k⟩:=q
 rcases h ρ μ _ hm with z|z
 ·exact h1.h a2j s σ H Q I ⟨π,ρ,μ,d,μ',R,E,z,k⟩
 ·exact h2.h a2j s σ H Q I ⟨π,ρ,μ,d,μ',R,E,z,k⟩⟩
theorem lZ {m m1 m2:MT}(h1:QT X e m1)(h2:QT X e m2)(h:∀ ρ μ r,m ρ μ=some r->m1 ρ μ=some r\/m2 ρ μ=some r):QT X e m:=⟨fun a2j s σ H Q I q=>by
 obtain ⟨π,ρ,μ,d,μ',R,E,hm,k⟩:=q
 rcases h ρ μ _ hm with z|z
 ·exact h1.h a2j s σ H Q I ⟨π,ρ,μ,d,μ',R,E,z,k⟩
 ·exact h2.h a2j s σ H Q I ⟨π,ρ,μ,d,μ',R,E,z,k⟩⟩
theorem eA {f f1 f2:D->D->Hm->Option (D×Hm)}(h:∀ x y μ r,f x y μ=some r->f1 x y μ=some r\/f2 x y μ=some r) :
  ∀ ρ μ r,aB f ma mb ρ μ=some r->aB f1 ma mb ρ μ=some r\/aB f2 ma mb ρ μ=some r:=by
 intro ρ μ r hm
 obtain ⟨p,h1,hm⟩:=QF.mp hm
 obtain ⟨q,h2,hm⟩:=QF.mp hm
 rcases h _ _ _ _ hm with z|z
 ·exact .inl (QF.mpr ⟨p,h1,QF.mpr ⟨q,h2,z⟩⟩)
 ·exact .inr (QF.mpr ⟨p,h1,QF.mpr ⟨q,h2,z⟩⟩)
theorem l8 (h:∀ ρ μ r,m ρ μ=some r->m1 ρ μ=some r\/m2 ρ μ=some r):∀ ρ μ r,a8 m ρ μ=some r->a8 m1 ρ μ=some r\/a8 m2 ρ μ=some r:=by
 intro ρ μ r hm
 obtain ⟨p,h1,hm⟩:=QF.mp hm
 rcases h _ _ _ h1 with z|z
 ·exact .inl (QF.mpr ⟨p,z,hm⟩)
 ·exact .inr (QF.mpr ⟨p,z,hm⟩)
noncomputable def qA:List D->Option (List Int)
 | []=>some []
 | .int i::r=>(qA r).map (i::·)
 | _=>none
noncomputable def bZ:D->Option (List Int)
 | .tup ds=>qA ds
 | _=>none
noncomputable def bD (kvs:List (List Int×D))(k:List Int):Option D:=(kvs.find? fun p=>decide (p.1=k)).map (·.2)
noncomputable def cU (kvs:List (List Int×D))(k:List Int)(d:D):List (List Int×D):=if (bD kvs k).isSome then kvs.map (fun p=>if p.1=k then (p.1,d) else p) else kvs++[(k,d)]
noncomputable def aL:D->D->Hm->Option (D×Hm):=fun x y μ=>match x with
 | .loc a=>match μ[a]? with
  | some (.dK kvs)=>(iF y).bind fun k=>(eM kvs k).map fun d=>(d,μ)
  | some (.dT kvs)=>(bZ y).bind fun k=>(bD kvs k).map fun d=>(d,μ)
  | some (.dF kvs)=>(bZ y).bind fun k=>(bD kvs k).map fun d=>(d,μ)
  | _=>eZ x y μ
 | _=>eZ x y μ
structure TabOk (X:Cx)(x:Str)(kvs:List (aD×D)):Prop where
 ex:∃ (p:Addr)(vs:List (aD×V))(ws:List (aD×QL)),X.mg x=some (.ref p)/\(∀ h:Si,X.K.In h->h.DictOf (cK X.prog X.w) p ws)/\KV vs ws/\∀ π n H,IsKs X.K π n H vs kvs
theorem A3 {a2j:List (Addr×Td)}{σ:St}{H:Hp}{s:QM}(I:Inv X a2j σ H s){p:Addr}{ob:Td}(h:X.K.lookup p=some ob):H p=none:=(I.bs p ob (I.mod.kin p ob h)).2
theorem A4 {K:QH}{π:Nat->Addr}{H:Hp}{μ:Hm}(R:Rp K π H μ){a':Nat}(ha:a'<μ.length):(∃ vs,H (π a')=some (.lst vs))\/(∃ vs,H (π a')=some (.dK vs))\/(∃ φ,H (π a')=some (.ext φ))\/∃ ob φ,H (π a')=some (.frz ob (.ext φ)):=by
 cases q:μ[a']? with
 | none=>exact absurd (TZ.mp q) (by omega)
 | some cl=>
  cases cl with
  | lst xs=>obtain ⟨vs,h,_⟩:=R.lst a' xs q;exact .inl ⟨vs,h⟩
  | dK xs=>obtain ⟨vs,h,_⟩:=R.dK a' xs q;exact .inr (.inl ⟨vs,h⟩)
  | st xs=>obtain ⟨vs,h,_⟩:=R.st a' xs q;exact .inr (.inr (.inl ⟨_,h⟩))
  | dT xs=>obtain ⟨vs,h,_⟩:=R.dT a' xs q;exact .inr (.inr (.inl ⟨_,h⟩))
  | dF xs=>obtain ⟨ob,vs,h,_⟩:=R.dF a' xs q;exact .inr (.inr (.inr ⟨ob,_,h⟩))
section
variable {a2j:List (Addr×Td)}{σ:St}{H:Hp}{s:QM}{π:Nat->Addr}{μ:Hm}
theorem A5 (I:Inv X a2j σ H s)(R:Rp X.K π H μ){a':Nat}(ha:a'<μ.length){vs:List V}(h:SqT X.K H (π a') vs):False:=by
 have hc:=A4 R ha
 rcases h with h|h
 ·rcases h with h|⟨ob,h⟩<;>rcases hc with ⟨ws,z⟩|⟨ws,z⟩|⟨ws,z⟩|⟨_,ws,z⟩<;>(rw [h] at z;cases z)
 ·obtain ⟨ob,its,n,hk,_⟩:=h
  have:=A3 I hk
  rcases hc with ⟨ws,z⟩|⟨ws,z⟩|⟨ws,z⟩|⟨_,ws,z⟩<;>(rw [this] at z;cases z)
theorem A6 (I:Inv X a2j σ H s)(R:Rp X.K π H μ){a':Nat}(ha:a'<μ.length){vs:List V}(h:RoL X.K H (π a') vs):False:=by
 have hc:=A4 R ha
 rcases h with ⟨ob,h⟩|h
 ·rcases hc with ⟨ws,z⟩|⟨ws,z⟩|⟨ws,z⟩|⟨_,ws,z⟩<;>(rw [h] at z;cases z)
 ·obtain ⟨ob,its,n,hk,_⟩:=h
  have:=A3 I hk
  rcases hc with ⟨ws,z⟩|⟨ws,z⟩|⟨ws,z⟩|⟨_,ws,z⟩<;>(rw [this] at z;cases z)
theorem A7 (I:Inv X a2j σ H s){p:Addr}{vs ws:List V}(h:SqT X.K H p vs)(h':RoL X.K H p ws):False:=by
 obtain ⟨its,_,t,_⟩:=I.tuple h
 obtain ⟨its',_,l,_⟩:=I.list h'.sq
 exact absurd rfl (Tf l.isList t)
mutual
theorem A8 (I:Inv X a2j σ H s)(R:Rp X.K π H μ){v:V}{d d':D}:IsD X.K π μ.length H v d->IsD X.K π μ.length H v d'->d=d'
 | .non,h'=>by cases h';rfl
 | .bl _,h'=>by cases h';rfl
 | .int _,h'=>by cases h';rfl
 | .str _,h'=>by cases h';rfl
 | .ty _,h'=>by cases h';rfl
 | .tup h t,h'=>by
  cases h' with
  | tup h2 t2=>
   have:=I.tuple_inj h h2
   subst this
   rw [uJ I R t t2]
  | rol h2 t2=>exact (A7 I h h2).elim
  | loc h2=>exact (A5 I R h2 h).elim
 | .rol h t,h'=>by
  cases h' with
  | tup h2 t2=>exact (A7 I h2 h).elim
  | rol h2 t2=>
   have:=I.list_inj h.sq h2.sq
   subst this
   rw [uJ I R t t2]
  | loc h2=>exact (A6 I R h2 h).elim
 | .loc (a:=a1) ha,h'=>by
  generalize hz:V.ref (π a1)=z at h'
  cases h' with
  | tup h2 t2=>cases hz;exact (A5 I R ha h2).elim
  | rol h2 t2=>cases hz;exact (A6 I R ha h2).elim
  | loc h2=>
   have:=R.inj _ _ ha h2 (V.ref.inj hz)
   rw [this]
  | _=>cases hz
theorem uJ (I:Inv X a2j σ H s)(R:Rp X.K π H μ){vs:List V}{ds ds':List D}:IsDs X.K π μ.length H vs ds->IsDs X.K π μ.length H vs ds'->ds=ds'
 | .nil,h'=>by cases h';rfl
 | .cons h t,h'=>by
  cases h' with
  | cons h2 t2=>rw [A8 I R h h2,uJ I R t t2]
end
end
noncomputable def l9 (μ:Hm)(x:D):List D->Option Bool
 | []=>some false
 | y::r=>(bP 8 μ y x).bind fun b=>(l9 μ x r).map fun c=>b||c
noncomputable def mB (neg:Bool):D->D->Hm->Option (D×Hm):=fun x y μ=>(bH μ y).bind fun ys=>(l9 μ x ys).map fun b=>(.bl (if neg then !b else b),μ)
noncomputable def uK (K:QH)(neg:Bool):R2:=fun x y H Q=>∃ π μ dx dy ys b,Rp K π H μ/\IsD K π μ.length H x dx/\IsD K π μ.length H y dy/\bH μ dy=some ys/\l9 μ dx ys=some b/\Q (.bl (if neg then !b else b)) H
theorem qB {K:QH}{neg:Bool}:bV K (mB neg) (uK K neg):=by
 intro π H μ x y d μ' vx vy Q R ix iy hm k
 obtain ⟨ys,h1,hm⟩:=QF.mp hm
 obtain ⟨b,h2,hm⟩:=QR.mp hm
 cases hm
 exact ⟨π,_,x,y,ys,b,R,ix,iy,h1,h2,k π _ H .refl R (.bl _)⟩
theorem qC {a2j:List (Addr×Td)}{σ:St}{H:Hp}{s:QM}{π:Nat->Addr}{μ:Hm}(I:Inv X a2j σ H s)(R:Rp X.K π H μ){A:Rw}(hu:A.units+8<SK){x:V}{v:QL}{dx:D}(rx:RelV x v)(ix:IsD X.K π μ.length H x dx) :
  ∀ {ys:List D}{vs:List V}{us:List QL}{b:Bool},IsDs X.K π μ.length H vs ys->Vals vs us->l9 μ dx ys=some b->
   ∃ g:QL->Bool,(∀ u∈us,XJ A s u v (g u))/\us.any g=b:=by
 classical
 intro ys vs us b hi hv hm
 have each:∀ {ys:List D}{vs:List V}{us:List QL}{b:Bool},IsDs X.K π μ.length H vs ys->Vals vs us->l9 μ dx ys=some b->(∀ u∈us,∃ c,XJ A s u v c/\∃ w dy,RelV w u/\IsD X.K π μ.length H w dy/\bP 8 μ dy dx=some c):=by
  intro ys
  induction ys with
  | nil=>
   intro vs us b hi hv hm u hu'
   cases hi
   cases hv
   cases hu'
  | cons y ys ih=>
   intro vs us b hi hv hm u hu'
   cases hi with
   | cons h t=>
    cases hv with
    | cons r rt=>
     obtain ⟨c,h1,hm⟩:=QF.mp hm
     obtain ⟨c2,h2,hm⟩:=QR.mp hm
     rcases RD.mp hu' with rfl|hu'
     ·exact ⟨c,tS I R 8 hu r rx h ix h1,_,_,r,h,h1⟩
     ·exact ih t rt h2 u hu'
 have ec:=each hi hv hm
 refine ⟨fun u=>if h:u∈us then WR (ec u h) else false,fun u hu'=>?_,?_⟩
 ·simp only [dif_pos hu']
  exact (X2 (ec u hu')).1
 ·have key:∀ u (h:u∈us) w dy c,RelV w u->IsD X.K π μ.length H w dy->bP 8 μ dy dx=some c->WR (ec u h)=c:=by
   intro u h w dy c rw' iw ew
   obtain ⟨_,w2,dy2,r2,i2,e2⟩:=X2 (ec u h)
   have:w2=w:=r2.inj rw'
   subst this
   have:=A8 I R i2 iw
   subst this
   rw [e2] at ew
   exact RA ew
  have main:∀ {ys:List D}{vs:List V}{us':List QL}{b:Bool},(∀ u∈us',u∈us)->IsDs X.K π μ.length H vs ys->Vals vs us'->l9 μ dx ys=some b->us'.any (fun u=>if h:u∈us then WR (ec u h) else false)=b:=by
   intro ys
   induction ys with
   | nil=>
    intro vs us' b hs hi hv hm
    cases hi
    cases hv
    cases hm
    rfl
   | cons y ys ih=>
    intro vs us' b hs hi hv hm
    cases hi with
    | cons h t=>
     cases hv with
     | @cons _ u _ us2 r rt=>
      obtain ⟨c,h1,hm⟩:=QF.mp hm
      obtain ⟨c2,h2,hm⟩:=QR.mp hm
      have eN:u∈us:=hs u (Ru ..)
      rw [VC,ih (fun z hz=>hs z (Rm _ hz)) t rt h2,dif_pos eN,key u eN _ _ c r h h1]
      exact hm
  exact main (fun _ h=>h) hi hv hm
theorem qD {k:Nat}{A:Rw}(r:Room k A):A.units+9<SK:=by have:=r.un;omega
theorem A9 (hu:X.A.units+9<SK):OpR X (R6 .In) (uK X.K false):=by
 intro a2j s σ H x y v u Q I rx ry h
 obtain ⟨π,μ,dx,dy,ys,b,R,ix,iy,e1,e2,q⟩:=h
 obtain ⟨p,vs,rfl,hq,hd⟩:=nQ R iy e1
 cases ry
 rcases hq with hq|hq
 ·obtain ⟨its,r,pl,hz⟩:=I.list hq
  obtain ⟨g,g1,g2⟩:=qC I R (A:=X.A.in1) (by rw [kD];omega) rx ix hd r e2
  refine SeqAt.in_listAt g pl.isList (fun w hw=>g1 w (by simpa using hw)) ⟨.bl _,H,I,rfl,?_⟩
  rw [show its.toArray.any g=its.any g by simp,g2]
  exact q
 ·obtain ⟨its,r,pl,hz⟩:=I.tuple hq
  obtain ⟨g,g1,g2⟩:=qC I R (A:=X.A.in1) (by rw [kD];omega) rx ix hd r e2
  refine SeqAt.in_tupleAt g pl (fun w hw=>g1 w (by simpa using hw)) ⟨.bl _,H,I,rfl,?_⟩
  rw [show its.toArray.any g=its.any g by simp,g2]
  exact q
theorem Ba (hu:X.A.units+9<SK):OpR X (R6 .NotIn) (uK X.K true):=by
 intro a2j s σ H x y v u Q I rx ry h
 obtain ⟨π,μ,dx,dy,ys,b,R,ix,iy,e1,e2,q⟩:=h
 obtain ⟨p,vs,rfl,hq,hd⟩:=nQ R iy e1
 cases ry
 rcases hq with hq|hq
 ·obtain ⟨its,r,pl,hz⟩:=I.list hq
  obtain ⟨g,g1,g2⟩:=qC I R (A:=X.A.in1) (by rw [kD];omega) rx ix hd r e2
  refine SeqAt.notIn_listAt g pl.isList (fun w hw=>g1 w (by simpa using hw)) ⟨.bl _,H,I,rfl,?_⟩
  rw [show its.toArray.any g=its.any g by simp,g2]
  exact q
 ·obtain ⟨its,r,pl,hz⟩:=I.tuple hq
  obtain ⟨g,g1,g2⟩:=qC I R (A:=X.A.in1) (by rw [kD];omega) rx ix hd r e2
  refine SeqAt.notIn_tupleAt g pl (fun w hw=>g1 w (by simpa using hw)) ⟨.bl _,H,I,rfl,?_⟩
  rw [show its.toArray.any g=its.any g by simp,g2]
  exact q
noncomputable def cM (neg:Bool):D->D->Hm->Option (D×Hm)
 | .str i,.str j,μ=>some (.bl (if neg then !(!(R0 j i 0 j.length 1).isEmpty) else !(R0 j i 0 j.length 1).isEmpty),μ)
 | x,.loc a,μ=>match μ[a]? with
  | some (.dT kvs)=>(bZ x).map fun k=>(.bl (if neg then !(bD kvs k).isSome else (bD kvs k).isSome),μ)
  | some (.dF kvs)=>(bZ x).map fun k=>(.bl (if neg then !(bD kvs k).isSome else (bD kvs k).isSome),μ)
  | _=>mB neg x (.loc a) μ
 | x,y,μ=>mB neg x y μ
noncomputable def uL:D->D->Hm->Option (D×Hm)
 | .str i,.str j,μ=>some (.bl (!(!(R0 j i 0 j.length 1).isEmpty)),μ)
 | _,_,_=>none
theorem Bb {K:QH}:bV K uL (fun x y H Q=>∃ i j,x=.str i/\y=.str j/\Q (.bl (!(!(R0 j i 0 j.length 1).isEmpty))) H):=by
 intro π H μ x y d μ' vx vy Q R ix iy hm k
 unfold uL at hm
 split at hm
 ·cases hm
  cases ix
  cases iy
  exact ⟨_,_,rfl,rfl,k π _ H .refl R (.bl _)⟩
 ·cases hm
noncomputable def f6 (neg:Bool):D->D->Hm->Option (D×Hm)
 | x,.non,μ=>some (.bl (match x with|.non=>!neg|_=>neg),μ)
 | _,_,_=>none
theorem Bc {K:QH}:bV K (f6 false) (fun x y H Q=>y=.non/\Q (.bl (decide (x=.non))) H):=by
 intro π H μ x y d μ' vx vy Q R ix iy hm k
 unfold f6 at hm
 split at hm
 ·cases hm
  cases iy
  refine ⟨rfl,?_⟩
  cases ix<;>exact k π _ H .refl R (.bl _)
 ·cases hm
theorem Bd {K:QH}:bV K (f6 true) (fun x y H Q=>y=.non/\Q (.bl (!decide (x=.non))) H):=by
 intro π H μ x y d μ' vx vy Q R ix iy hm k
 unfold f6 at hm
 split at hm
 ·cases hm
  cases iy
  refine ⟨rfl,?_⟩
  cases ix<;>exact k π _ H .refl R (.bl _)
 ·cases hm
theorem KA (ha:QE X a ma)(hb:QE X b mb):QE X (.Compare a [.Is] [b] pos) (aB (f6 false) ma mb):=⟨cZ yX Bc ha.h hb.h (bX _)⟩
theorem KG (ha:QE X a ma)(hb:QE X b mb):QE X (.Compare a [.IsNot] [b] pos) (aB (f6 true) ma mb):=⟨cZ yY Bd ha.h hb.h (bX _)⟩
theorem KH (ha:QE X a ma)(hb:QE X b mb):QT X (.Compare a [.Is] [b] pos) (a8 (aB (f6 false) ma mb)):=⟨c3 yX Bc ha.h hb.h (bX _)⟩
theorem KI (ha:QE X a ma)(hb:QE X b mb):QT X (.Compare a [.IsNot] [b] pos) (a8 (aB (f6 true) ma mb)):=⟨c3 yY Bd ha.h hb.h (bX _)⟩
end
end L3
namespace L3
open PySem L2
section
variable {X:Cx}{e a b c o:Q1}{m m1 m2 ma mb mc mo:ME}{pos apos cpos:Ta}{mt mu:MT}{rest es:List Q1}{ms:MA}{n:Nat}
noncomputable def mD (μ:Hm):D->Bool
 | .rol _=>true
 | .loc a=>match μ[a]? with|some (.lst _)=>true|_=>false
 | _=>false
noncomputable def jA (f:D->List D->Hm->Option (D×Hm))(mo:ME)(ms:MA):ME:=fun ρ μ=>(mo ρ μ).bind fun p=>match mD p.2 p.1 with
 | true=>(ms ρ p.2).bind fun q=>f p.1 q.1 q.2
 | false=>none
noncomputable def cV (K:QH)(f:D->List D->Hm->Option (D×Hm))(r:V->List V->Hp->VK->Prop):Prop:=
 ∀ π H μ x xs d μ' v vs Q,Rp K π H μ->IsD K π μ.length H v x->IsDs K π μ.length H vs xs->f x xs μ=some (d,μ')->KC K Q π μ.length H d μ'->r v vs H Q
theorem Be {K:QH}{π:Nat->Addr}{H:Hp}{μ:Hm}{v:V}{x:D}(R:Rp K π H μ)(h:IsD K π μ.length H v x)(e:mD μ x=true):pK K "list" v H:=by
 cases h with
 | rol h t=>exact .inl ⟨rfl,_,h.sq⟩
 | @loc a ha=>
  simp only [mD] at e
  split at e
  ·rename_i xs hx
   obtain ⟨vs,h1,_⟩:=R.lst a xs hx
   exact .inl ⟨rfl,vs,.of h1⟩
  ·cases e
 | _=>cases e
theorem KJ {K:QH}{f:D->List D->Hm->Option (D×Hm)}{r:V->List V->Hp->VK->Prop}(hf:cV K f r):∀ σ H Q,tM K (jA f mo ms) σ H Q->tB K "list" r (tM K mo) (dE K ms) σ H Q:=by
 rintro σ H Q ⟨π,ρ,μ,d,μ',R,E,hm,k⟩
 obtain ⟨⟨x,μ1⟩,h1,hm⟩:=QF.mp hm
 dsimp only at hm
 split at hm
 ·rename_i hl
  obtain ⟨⟨xs,μ2⟩,h2,hm⟩:=QF.mp hm
  refine ⟨π,ρ,μ,x,μ1,R,E,h1,fun π1 v1 H1 e1 R1 i1=>⟨Be R1 i1 hl,π1,ρ,μ1,xs,μ2,R1,E.mono e1,h2,fun π2 vs H2 e2 R2 i2=>?_⟩⟩
  exact hf π2 H2 μ2 x xs d μ' v1 vs Q R2 (i1.mono e2) i2 hm (k.after (e1.trans e2))
 ·cases hm
theorem KL {K:QH}{f:D->List D->Hm->Option (D×Hm)}{r:V->List V->Hp->VK->Prop}(hf:cV K f r):∀ σ H Q,tM K (jA f mo aF) σ H Q->z7 K "list" r (tM K mo) σ H Q:=by
 rintro σ H Q ⟨π,ρ,μ,d,μ',R,E,hm,k⟩
 obtain ⟨⟨x,μ1⟩,h1,hm⟩:=QF.mp hm
 dsimp only at hm
 split at hm
 ·rename_i hl
  obtain ⟨⟨xs,μ2⟩,h2,hm⟩:=QF.mp hm
  cases h2
  refine ⟨π,ρ,μ,x,μ1,R,E,h1,fun π1 v1 H1 e1 R1 i1=>⟨Be R1 i1 hl,?_⟩⟩
  exact hf π1 H1 μ1 x [] d μ' v1 [] Q R1 i1 .nil hm (k.after e1)
 ·cases hm
noncomputable def iH:Q1->Bool
 | .Call (.Name _ _) [] [] _=>false
 | _=>true
theorem iI {o:Q1}{attr:Str}{env:W3}{whole:Zy QL}(h:iH o=true):UH o attr env whole=whole:=by
 cases o with
 | Call f args kws p=>
  cases f with
  | Name id q=>
   cases args with
   | nil=>
    cases kws with
    | nil=>cases h
    | cons _ _=>rfl
   | cons _ _=>rfl
  | _=>rfl
 | _=>rfl
theorem uM {e:Q1}{es:List Q1}{env:W3}{cpos:Ta}(h:(e::es).all cS=true)(hn:(e::es).length<30) :
  ((Uk cpos (RK (e::es) env)).all (fun x=>!x.1)&&(YD cpos (WX [] env)).all (fun x=>x.1.isSome)
   && decide ((e::es).length+([]:List UY).length+(if ([]:List UY).isEmpty then 0 else 1)<30))=true:=by
 have h1:(Uk cpos (RK (e::es) env)).all (fun x=>!x.1)=true:=by
  have:=i8 (pos:=cpos) (env:=env) h
  rw [List.all_eq_not_any_not]
  simpa using this
 rw [h1]
 have h2:(e::es).length+([]:List UY).length+(if ([]:List UY).isEmpty then 0 else 1)<30:=by
  show (e::es).length+0+0<30
  omega
 rw [decide_eq_true h2]
 rfl
theorem KN {f:D->List D->Hm->Option (D×Hm)}{r:V->List V->Hp->VK->Prop}{name:Str}{id:String}(slot:a0F "list" name id) (hty:Xh (.builtin id)=pure (.type "method_descriptor")) (hm:dD X id r)(hf:cV X.K f r)
  (ho:QE X o mo)(ha:QA X (e::es) ms n)(hs:iH o=true)(hl:(apos.endLine == cpos.line)=true)(hn:(e::es).length<30):QE X (.Call (.Attribute o name apos) (e::es) [] cpos) (jA f mo ms):=by
 have hst:=ha.s
 have hst':=hst
 rw [Sa,Q7] at hst'
 exact ⟨bT (z8 XX slot hty hm ho.h ha.h (iI hs) (uM hst hn) hl (eQ hst'.1) (i8 hst'.2)) (KJ hf)⟩
theorem uN {f:D->List D->Hm->Option (D×Hm)}{r:V->List V->Hp->VK->Prop}{name:Str}{id:String}(slot:a0F "list" name id) (hty:Xh (.builtin id)=pure (.type "method_descriptor")) (hm:dD X id r)(hf:cV X.K f r)
  (ho:QE X o mo)(hs:iH o=true)(hl:(apos.endLine == cpos.line)=true):QE X (.Call (.Attribute o name apos) [] [] cpos) (jA f mo aF):=
 ⟨bT (Hh XX slot hty hm ho.h (iI hs) hl) (KL hf)⟩
noncomputable def uO:D->List D->Hm->Option (D×Hm)
 | .loc a,[y],μ=>(lR μ a y).map fun μ'=>(.non,μ')
 | _,_,_=>none
noncomputable def mE:D->List D->Hm->Option (D×Hm)
 | .loc a,[],μ=>match μ[a]? with
  | some (.lst _)=>some (.non,μ.set a (.lst []))
  | _=>none
 | _,_,_=>none
noncomputable def uP:D->List D->Hm->Option (D×Hm)
 | .loc a,[],μ=>match μ[a]? with
  | some (.lst xs)=>(xs[xs.length - 1]?).map fun y=>(y,μ.set a (.lst xs.dropLast))
  | _=>none
 | _,_,_=>none
noncomputable def uQ:D->List D->Hm->Option (D×Hm)
 | .loc a,[],μ=>match μ[a]? with
  | some (.lst xs)=>some (.non,μ.set a (.lst xs.reverse))
  | _=>none
 | _,_,_=>none
theorem Bf {K:QH}{π:Nat->Addr}{n:Nat}{H:Hp}{vs:List V}{ds:List D}(h:IsDs K π n H vs ds):IsDs K π n H vs.reverse ds.reverse:=by
 induction ds generalizing vs with
 | nil=>cases h;exact .nil
 | cons d ds ih=>
  cases h with
  | cons h t=>
   rw [Ux,Ux]
   exact (ih t).append (.cons h .nil)
theorem KO {K:QH}{π:Nat->Addr}{n:Nat}{H:Hp}{vs:List V}{ds:List D}(h:IsDs K π n H vs ds):IsDs K π n H vs.dropLast ds.dropLast:=by
 rw [YK,YK,h.length]
 exact h.take _
theorem KP {K:QH}:cV K uO z9:=by
 intro π H μ x xs d μ' v vs Q R ix ixs hm k
 unfold uO at hm
 split at hm
 ·rename_i a y
  obtain ⟨μ1,h1,hm⟩:=QR.mp hm
  cases hm
  unfold lR at h1
  split at h1
  ·rename_i zs hz
   split at h1
   ·rename_i hl
    cases h1
    obtain ⟨ws,h2,h3⟩:=R.lst a zs hz
    cases ix
    cases ixs with
    | cons iy it=>
     cases it
     obtain ⟨e1,R1⟩:=R.put (a:=a) (c:=.lst (zs++[y])) (o:=.lst (ws++[_])) (QN.mp hz).1 h2 (.inl ⟨ws,rfl⟩) (h3.append (.cons iy .nil))
     exact ⟨_,ws,_,rfl,rfl,h2,by rw [h3.length];exact hl,k π _ _ e1 R1 .non⟩
   ·cases h1
  ·cases h1
 ·cases hm
theorem KQ {K:QH}:cV K mE Ad:=by
 intro π H μ x xs d μ' v vs Q R ix ixs hm k
 unfold mE at hm
 split at hm
 ·rename_i a
  split at hm
  ·rename_i zs hz
   cases hm
   obtain ⟨ws,h2,h3⟩:=R.lst a zs hz
   cases ix
   cases ixs
   obtain ⟨e1,R1⟩:=R.put (a:=a) (c:=.lst []) (o:=.lst []) (QN.mp hz).1 h2 (.inl ⟨ws,rfl⟩) .nil
   exact ⟨_,ws,rfl,rfl,h2,k π _ _ e1 R1 .non⟩
  ·cases hm
 ·cases hm
theorem KR {K:QH}:cV K uQ Ac:=by
 intro π H μ x xs d μ' v vs Q R ix ixs hm k
 unfold uQ at hm
 split at hm
 ·rename_i a
  split at hm
  ·rename_i zs hz
   cases hm
   obtain ⟨ws,h2,h3⟩:=R.lst a zs hz
   cases ix
   cases ixs
   obtain ⟨e1,R1⟩:=R.put (a:=a) (c:=.lst zs.reverse) (o:=.lst ws.reverse) (QN.mp hz).1 h2 (.inl ⟨ws,rfl⟩) (Bf h3)
   exact ⟨_,ws,rfl,rfl,h2,k π _ _ e1 R1 .non⟩
  ·cases hm
 ·cases hm
theorem KS {K:QH}:cV K uP Ab:=by
 intro π H μ x xs d μ' v vs Q R ix ixs hm k
 unfold uP at hm
 split at hm
 ·rename_i a
  split at hm
  ·rename_i zs hz
   obtain ⟨y,h1,hm⟩:=QR.mp hm
   cases hm
   obtain ⟨ws,h2,h3⟩:=R.lst a zs hz
   cases ix
   cases ixs
   obtain ⟨w,h4,h5⟩:=h3.get h1
   obtain ⟨e1,R1⟩:=R.put (a:=a) (c:=.lst zs.dropLast) (o:=.lst ws.dropLast) (QN.mp hz).1 h2 (.inl ⟨ws,rfl⟩) (KO h3)
   refine ⟨_,ws,w,rfl,rfl,h2,by rw [h3.length];exact h4,k π w _ e1 R1 (h5.mono e1)⟩
  ·cases hm
 ·cases hm
noncomputable def mF (μ:Hm):D->Option Bool
 | .non=>some false
 | .bl b=>some b
 | .int i=>some (i != 0)
 | .str z=>if z.length<=Q6 then some ((z.length:Int) != 0) else none
 | .tup xs=>some (!xs.isEmpty)
 | .rol xs=>some (!xs.isEmpty)
 | .loc a=>match μ[a]? with|some (.lst xs)=>some (!xs.isEmpty)|some (.dK kvs)=>some (!kvs.isEmpty)|_=>none
 | .ty _=>none
theorem qE {α β:Type}{xs:List α}{ys:List β}(h:xs.length=ys.length):xs.isEmpty=ys.isEmpty:=by
 cases xs<;>cases ys<;>first|rfl|cases h
theorem KU {K:QH}{π:Nat->Addr}{H:Hp}{μ:Hm}{v:V}{x:D}{b:Bool}(R:Rp K π H μ)(h:IsD K π μ.length H v x)(e:mF μ x=some b):sP K v H b:=by
 cases h with
 | non=>cases e;rfl
 | bl c=>cases e;rfl
 | int i=>cases e;rfl
 | str z=>
  simp only [mF] at e
  split at e
  ·rename_i hl;cases e;exact ⟨hl,rfl⟩
  ·cases e
 | tup h t=>cases e;exact .inr (.inl ⟨_,h,by rw [qE t.length]⟩)
 | rol h t=>cases e;exact .inl ⟨_,h.sq,by rw [qE t.length]⟩
 | @loc a ha=>
  simp only [mF] at e
  split at e
  ·rename_i xs hx
   cases e
   obtain ⟨vs,h1,h2⟩:=R.lst a xs hx
   exact .inl ⟨vs,.of h1,by rw [qE h2.length]⟩
  ·rename_i kvs hx
   cases e
   obtain ⟨vs,h1,h2,_⟩:=R.dK a kvs hx
   refine .inr (.inr ⟨vs,h1,?_⟩)
   have:=congrArg RN h2
   rw [QY,QY] at this
   rw [qE this]
  ·cases e
 | ty n=>cases e
noncomputable def cI (m:ME):MT:=fun ρ μ=>(m ρ μ).bind fun p=>(mF p.2 p.1).map fun b=>(b,p.2)
theorem KW (h:QE X e m)(he:uE e=true):QT X e (cI m):=⟨pM (Gm h.h (J5 he)) (by
 rintro σ H Q ⟨π,ρ,μ,b,μ',R,E,hm,k⟩
 obtain ⟨⟨x,μ1⟩,h1,hm⟩:=QF.mp hm
 obtain ⟨b',h2,hm⟩:=QR.mp hm
 cases hm
 exact ⟨π,ρ,μ,x,_,R,E,h1,fun π1 v1 H1 e1 R1 i1=>⟨_,KU R1 i1 h2,k π1 H1 e1 R1⟩⟩)⟩
theorem KY {k:Nat}{f:Addr}{fd:T3}{ps:List Str}{fm:MF}{x:Str}{p:Ta}(F:FnOk X.prog X.w X.K X.mg X.base d5 k f fd ps (fS X.K 0 fm))(hr:Room k X.A)(hm:X.mg x=some (.ref f))
  (hk:Te X.K (.ref f)=true)(hb:Binds X.K fd ps [])(hg:Gl X x)(hdb:(x == ("__debug__":Str))=false):QE X (.Call (.Name x p) [] [] pos) (aK fm aF):=
 ⟨bT (Gy F hr hg hm hk hb .nil (E:=E0) Ag hdb) (by
  rintro σ H Q ⟨π,ρ,μ,d,μ',R,E,hm,k⟩
  obtain ⟨⟨xs,μ1⟩,h1,hm⟩:=QF.mp hm
  cases h1
  exact ⟨rfl,π,[],μ,d,μ',R,.nil,hm,k⟩)⟩
theorem KZ:QS X (.Return none pos) (bF (mC .non)):=⟨fE FL (by
 rintro E σ H ⟨π,ρ,μ,fl,ρ',μ',R,EN,hm,k⟩
 cases hm
 exact k π .non H .refl R .non)⟩
end
end L3
namespace L3
open PySem L2
section
variable {X:Cx}
end
end L3
namespace L3
open PySem L2
open PyProof.Rows (IntsAre)
open PySem.W (KasT kas_asc kas_desc kas_tail3 kas_descPart kas_count kas_place kas_bin kas_sort kas_rev kas_ask)
noncomputable def aN {α:Type}(ans:Nat->Nat->Bool):a1m α->α
 | .ret a=>a
 | .ask i j k=>aN ans (k (ans i j))
noncomputable def InR {α:Type}(n:Nat)(R:α->Prop):a1m α->Prop
 | .ret a=>R a
 | .ask i j k=>i<n/\j<n/\∀ b,InR n R (k b)
theorem InR.bind {α β:Type}{n:Nat}{R:α->Prop}{R':β->Prop}{f:α->a1m β}(hf:∀ a,R a->InR n R' (f a)):∀ {t:a1m α},InR n R t->InR n R' (t.bind f)
 | .ret a,q=>hf a q
 | .ask i j k,q=>⟨q.1,q.2.1,fun b=>InR.bind hf (q.2.2 b)⟩
theorem Bg {α:Type}{n:Nat}{R:α->Prop}{ans:Nat->Nat->Bool}{cmp:Nat->Nat->(Bool->QM->Prop)->QM->Prop}{s:QM}(hc:∀ i j (C:Bool->QM->Prop),i<n->j<n->C (ans i j) s->cmp i j C s){Q:α->QM->Prop} :
  ∀ {t:a1m α},InR n R t->Q (aN ans t) s->t.kasWp cmp Q s
 | .ret a,_,q=>q
 | .ask i j k,h,q=>hc i j _ h.1 h.2.1 (Bg hc (h.2.2 _) q)
theorem Bh {α:Type}{n:Nat}{R:α->Prop}{ans:Nat->Nat->Bool}:∀ {t:a1m α},InR n R t->R (aN ans t)
 | .ret a,q=>q
 | .ask i j k,h=>Bh (t:=k (ans i j)) (h.2.2 _)
section
variable {n:Nat}
noncomputable def IxOk (n:Nat)(p:Array Nat):Prop:=p.Perm (Se n).toArray
theorem IxOk.lt {p:Array Nat}(h:IxOk n p)(h0:0<n)(i:Nat):p.getD i 0<n:=by
 by_cases hi:i<p.size
 ·have e:p.getD i 0=p[i]:=by simp [Ua,hi]
  rw [e]
  have hm:p[i]∈p:=Array.getElem_mem hi
  have hm2:p[i]∈(Se n).toArray:=h.mem_iff.mp hm
  simpa using hm2
 ·have e:p.getD i 0=0:=by simp [Ua,hi]
  rw [e];exact h0
theorem IxOk.rev {p:Array Nat}(h:IxOk n p)(i j:Nat):IxOk n (T4 p i j):=(a1A _ _ _ _).trans h
theorem IxOk.bub {p:Array Nat}(h:IxOk n p)(i j:Nat):IxOk n (a1H p i j):=(a1G _ _ _).trans h
theorem uR {p:Array Nat}(h:IxOk n p)(h0:0<n):∀ (f m:Nat),InR n (fun _=>True) (T5 p f m)
 | 0,m=>trivial
 | f+1,m=>⟨h.lt h0 _,h.lt h0 _,fun b=>by
   cases b with
   | true=>exact trivial
   | false=>exact uR h h0 f (m+1)⟩
theorem qF (h0:0<n):∀ (f:Nat)(p:Array Nat)(m q:Nat),IxOk n p->InR n (fun r=>IxOk n r.1) (TB f p m q)
 | 0,p,m,q,h=>h
 | f+1,p,m,q,h=>⟨h.lt h0 _,h.lt h0 _,fun b=>by
   cases b with
   | true=>
    show InR n _ (if q>0 then TB f (T4 p (m - (q+1)) m) (m+1) 0 else TB f p (m+1) 0)
    split
    ·exact qF h0 f _ _ _ (h.rev _ _)
    ·exact qF h0 f _ _ _ h
   | false=>
    refine ⟨h.lt h0 _,h.lt h0 _,fun d=>?_⟩
    cases d with
    | true=>exact h
    | false=>exact qF h0 f _ _ _ h⟩
theorem Bi (h0:0<n){p:Array Nat}(h:IxOk n p)(a r:Nat):InR n (fun r=>IxOk n r.2) (V5 a r p):=
 by
 have h':IxOk n (T4 p 0 a):=h.rev 0 a
 unfold V5
 refine InR.bind (R:=fun _=>True) (fun m _=>?_) (uR h' h0 _ _)
 exact h'
theorem Bj (h0:0<n){p:Array Nat}(h:IxOk n p)(a r:Nat):InR n (fun r=>IxOk n r.2) (Uv a r p):=
 InR.bind (fun q hq=>by
  show InR n _ (if q.2.2>0 then V5 q.2.1 r (T4 q.1 (q.2.1 - (q.2.2+1)) q.2.1) else V5 q.2.1 r q.1)
  split
  ·exact Bi h0 (hq.rev _ _) _ _
  ·exact Bi h0 hq _ _) (qF h0 _ _ _ _ h)
theorem K0 (h0:0<n){p:Array Nat}(h:IxOk n p)(r:Nat):InR n (fun r=>IxOk n r.2) (Zf r p):=
 InR.bind (fun m _=>by
  show InR n _ (if (m == r)=true then T7 (m,p) else if m>1 then Wx (p.getD 0 0) (p.getD (m - 1) 0) (fun c=>if c=true then T7 (m,p) else Uv m r (T4 p 0 m)) else Uv m r p)
  split
  ·exact h
  ·split
   ·refine ⟨h.lt h0 _,h.lt h0 _,fun b=>?_⟩
    cases b with
    | true=>exact h
    | false=>exact Bj h0 (h.rev _ _) _ _
   ·exact Bj h0 h _ _) (uR h h0 _ _)
theorem uS {p:Array Nat}(h:IxOk n p)(h0:0<n)(k:Nat):∀ (f l r:Nat),InR n (fun _=>True) (S1 p k f l r)
 | 0,l,r=>trivial
 | f+1,l,r=>by
  show InR n _ (if l >= r then T7 l else Wx (p.getD k 0) (p.getD ((l+r) / 2) 0) fun c=>if c=true then S1 p k f l ((l+r) / 2) else S1 p k f ((l+r) / 2+1) r)
  split
  ·exact trivial
  ·refine ⟨h.lt h0 _,h.lt h0 _,fun b=>?_⟩
   cases b with
   | true=>exact uS h h0 k f _ _
   | false=>exact uS h h0 k f _ _
theorem Bk (h0:0<n):∀ (f:Nat)(p:Array Nat)(k:Nat),IxOk n p->InR n (IxOk n) (XD f p k)
 | 0,p,k,h=>h
 | f+1,p,k,h=>InR.bind (fun l _=>Bk h0 f _ _ (h.bub _ _)) (uS h h0 k _ _ _)
theorem Bl (h0:0<n):InR n (IxOk n) (XC n):=
 InR.bind (fun r hr=>by
  show InR n _ (if r.1<n then XD (n - max r.1 1) r.2 (max r.1 1) else T7 r.2)
  split
  ·exact Bk h0 _ _ _ hr
  ·exact hr) (K0 h0 (Array.Perm.refl _) n)
end
noncomputable def bB (lt:Nat->Nat->Bool)(n:Nat):List Nat:=(aN lt (XC n)).toList
theorem qG (lt:Nat->Nat->Bool){n:Nat}(h0:0<n):(bB lt n).Perm (Se n):=by
 have h:IxOk n (aN lt (XC n)):=Bh (Bl h0)
 have:=Array.perm_iff_toList_perm.mp h
 simpa [bB] using this
section
variable {X:Cx}{a2j:List (Addr×Td)}{σ:St}{H:Hp}{s:QM}
end
theorem Bm {prog:Rk}{w:RG}{A:Rw}{s:QM}{Q:Bool->QM->Prop}:∀ {us vs:List QL}{ns ms:List Int}(i:Nat),Uz us ns->Uz vs ms->Q (HT.lexLt ns ms) s->
  PySem.W.KatLex prog w A true (decide (us.length<vs.length)) Q (us.zip vs) i s
 | _,_,_,_,i,.nil,.nil,h=>by exact h
 | _,_,_,_,i,.nil,.cons c u hv,h=>by
  show Q (decide (0<_+1)) s
  rw [decide_eq_true (Xa _)]
  exact h
 | _,_,_,_,i,.cons a t hu,.nil,h=>by
  show Q (decide (_+1<0)) s
  rw [decide_eq_false (VM _)]
  exact h
 | _,_,_,_,i,.cons (vs:=us) (ns:=ns) a t hu,.cons (vs:=vs) (ns:=ms) c u hv,h=>by
  rw [HT.lexLt_cons] at h
  refine PySem.W.kat_cons (Yg a t c u prog w _ _ ?_)
  by_cases e:a=c
  ·subst e
   rw [if_pos rfl] at h
   rw [beq_self_eq_true]
   refine PySem.W.kat_yes ?_
   have:=Bm (prog:=prog) (w:=w) (A:=A) (s:=s) (Q:=Q) (i+1) hu hv h
   have e2:decide ((VO a t::us).length<(VO a u::vs).length)=decide (us.length<vs.length):=by simp
   rw [e2]
   exact this
  ·rw [if_neg e] at h
   have e':(a == c)=false:=by simpa using e
   rw [e']
   refine PySem.W.kat_no ?_
   cases hi:(true&&i == 0) with
   | true=>exact a1y h
   | false=>exact PySem.W.kat_one _ _ (XN h)
noncomputable abbrev TupsV (K:QH)(H:Hp):List V->List (List Int)->Prop:=Vk fun v t=>∃ a,v=V.ref a/\SqT K H a (t.map V.int)
theorem TupsV.get {K:QH}{H:Hp}:∀ {vs:List V}{ts:List (List Int)}{i:Nat},TupsV K H vs ts->i<vs.length->∃ a,vs[i]? = some (V.ref a)/\SqT K H a ((ts.getD i []).map V.int)
 | _,_,_,.nil,h=>by simp at h
 | _,_,0,.cons ⟨a,e,q⟩ _,_=>⟨a,by rw [e];rfl,q⟩
 | _,_,i+1,.cons _ t,h=>by
  obtain ⟨a,e,q⟩:=TupsV.get (i:=i) t (by simpa using h)
  exact ⟨a,by simpa using e,q⟩
section
open PyProof.Rows
variable {prog:Rk}{w:RG}{A:Rw}{E:QL->QM->Prop}{s:QM}
theorem uT {c:Addr}{us:List QL}{z:Nat}{R:Fin->QM->Prop}(hu:us.length<2)(g:s.heap.get? c=some (RY "list" us.toArray z)) (q:R (.done (.ret .none)) { s with heap:=V8 s.heap c us us.toArray }) :
  Ri (Rl prog w) A (Builtin.«list.sort» ⟨[.ref c],[]⟩) R E s:=by
 rw [Yn]
 have lt:c<s.heap.objs.size:=Q4 g
 refine QK (Zv g rfl (QK (VN g rfl ?_)))
 obtain ⟨y,g1⟩:∃ y,(s.heap.update c (RW fun _=>#[])).get? c=some (RY "list" #[] y):=⟨_,Yo g _⟩
 refine QK (We g1 rfl (QK (WW (QK (U4 (RP ?_))))))
 have g6:(((s.heap.update c (RW fun _=>#[])).push (RY "tuple" us.toArray 0)).push (RY "list" #[] 0)).get? c=some (RY "list" #[] y):=
  QU _ (QU _ g1)
 show Ri (Rl prog w) A _ R E ⟨((s.heap.update c (RW fun _=>#[])).push (RY "tuple" us.toArray 0)).push (RY "list" #[] 0),s.gens,s.drawn,s.toks,s.os⟩
 dsimp only
 have few:us.toArray.size<2:=by simpa using hu
 rw [if_pos few,if_pos few]
 refine QK (QX ?_)
 rw [StateT.run_pure]
 refine QK (QX ?_)
 dsimp only
 have ez:a1V (fun x=>x.2) (Zi (Ry general' (us.toArray.zip us.toArray) #[] 7 none))=us.toArray:=by
  show a1V (fun x=>x.2) (us.toArray.zip us.toArray)=us.toArray
  exact Array.ext (by simp) (fun i h1 h2=>by simp)
 refine QK (We g6 rfl (QK (VN g6 rfl ?_ (hsz2:=by rw [ez,Sn];omega))))
 rw [ez]
 simp only [bne_self_eq_false,Q3,if_false]
 exact QX q
end
theorem Bn (lt:Nat->Nat->Bool):bB lt 1=[0]:=rfl
theorem uU (lt:Nat->Nat->Bool):bB lt 0=[]:=rfl
theorem dO (lt:Nat->Nat->Bool)(n:Nat):(bB lt n).Perm (Se n):=by
 cases n with
 | zero=>rw [uU];exact .nil
 | succ n=>exact qG lt (Xa n)
section
variable {X:Cx}
end
theorem Bo {ns:List Int}{us:List QL}(h:Vals (ns.map V.int) us):Uz us ns:=sW h
section
variable {X:Cx}
end
end L3
namespace L3
open PySem L2 PySem.W PyProof.Rows
noncomputable def qH:Bool->Keyed->Array Keyed->Nat->Nat->Nat->StateT Tp Zy (Option Nat):=sortPriv% PySem.Builtin.gallop
section
variable {M:a0e}{A:Rw}{E:QL->QM->Prop}{σ:Type}
theorem iJ {β:Type}{f:Nat->β->StateT σ Zy (ForInStep β)}{st:σ}{s:QM}{Q:β->σ->QM->Prop}(Iv:Nat->β->Prop)(Dn:β->Prop)(n:Nat)
  (step:∀ i x b,i<n->Iv i b->Vv M A E (f x b) (fun r st' s'=>st'=st/\s'=s/\match r with|.done c=>Dn c|.yield c=>Iv (i+1) c) st s)(fin:∀ b,Iv n b->Dn b)(k:∀ b,Dn b->Q b st s) :
  ∀ (l:List Nat)(i:Nat)(b:β),i+l.length=n->Iv i b->Vv M A E (forIn l b f) Q st s
 | [],i,b,h,hI=>kasC_nil (k b (fin b (by simp at h;subst h;exact hI)))
 | x::l,i,b,h,hI=>by
  rw [Rq] at h
  refine kasC_cons (RV (step i x b (by omega) hI) (fun r s' q=>?_) fun _ _ e=>e)
  obtain ⟨r,st'⟩:=r
  obtain ⟨q1,q2,q3⟩:=q
  dsimp only at q1 q2
  subst q1 q2
  cases r with
  | done c=>exact k c q3
  | yield c=>exact iJ Iv Dn n step fin k l (i+1) c (by omega) q3
end
section
variable {prog:Rk}{w:RG}{A:Rw}{E:QL->QM->Prop}{κ:U6}{st:Tp}{s:QM}
noncomputable def eB (prog:Rk)(w:RG)(A:Rw)(κ:U6)(s:QM)(X:Keyed->Prop)(an:Keyed->Keyed->Bool):Prop:=
 ∀ (x y:Keyed)(C:Bool->QM->Prop),X x->X y->C (an x y) s->Ri (Rl prog w) A (a0y κ x.1 y.1) C (fun _ _=>False) s
theorem nX {X:Keyed->Prop}{an:Keyed->Keyed->Bool}(hC:eB prog w A κ s X an)(hk:kindOf st=κ){x y:Keyed}(hx:X x)(hy:X y){Q:Option Bool->Tp->QM->Prop}(q:Q (some (an x y)) st s):Vv (Rl prog w) A E (lt' x y) Q st s:=by
 rw [lt'_eq]
 refine Q5 (Vu ?_)
 rw [hk]
 exact Q5 (Ws (Y1 (RV (hC x y (fun b s'=>b=an x y/\s'=s) hx hy ⟨rfl,rfl⟩) (fun b s' z=>by obtain ⟨rfl,rfl⟩:=z;exact Rb q) fun _ _ f=>f.elim)))
theorem K1 {x:Tp}{Q:PUnit->Tp->QM->Prop}(h:Q ⟨⟩ x s):Vv (Rl prog w) A E (set x:StateT Tp Zy PUnit) Q st s:=by
 unfold Vv;rw [StateT.run_set];exact QX h
theorem uV {ar:Array Keyed}{i:Nat}{x:Keyed}{Q:Keyed->Tp->QM->Prop}(h:ar[i]? = some x)(q:Q x st s):Vv (Rl prog w) A E (elem' ar i) Q st s:=by
 rw [elem'_eq,h];exact Rb q
noncomputable def Bp:Array Keyed->Array Keyed->StateT Tp Zy (Array Keyed):=sortPriv% PySem.Builtin.mergeLo
noncomputable def Bq:Array Keyed->Array Keyed->StateT Tp Zy (Array Keyed):=sortPriv% PySem.Builtin.mergeHi
theorem Br:∀ (l:List Keyed)(ar:Array Keyed)(o k:Nat),o+k+l.length<=ar.size->((l.zipIdx k).foldl (fun (a:Array Keyed)(x:Keyed×Nat)=>a.setIfInBounds (o+x.2) x.1) ar).toList=ar.toList.take (o+k)++l++ar.toList.drop (o+k+l.length)
 | [],ar,o,k,h=>by simp
 | x::l,ar,o,k,h=>by
  rw [List.zipIdx_cons,a0f,Br l _ o (k+1) (by rw [Array.size_setIfInBounds];rw [Rq] at h;omega)]
  rw [Rq] at h
  have hk:o+k<ar.toList.length:=by simp;omega
  rw [XT,Rq]
  dsimp only
  rw [show o+(k+1)=o+k+1 by omega,ZK,Sf hk,Y5 (Q0 _),List.drop_set_of_lt (by omega)]
  simp [show o+k+1+l.length=o+k+(l.length+1) by omega]
theorem K2 {X:Keyed->Prop}{an:Keyed->Keyed->Bool}(hC:eB prog w A κ s X an)(hk:a1B st=κ){i j:Nat}{x y:Keyed}(hi:(Zi st)[i]? = some x)(hj:(Zi st)[j]? = some y)(hx:X x)(hy:X y){Q:Option Bool->Tp->QM->Prop}(q:Q (some (an x y)) st s):Vv (Rl prog w) A E (ltAt' i j) Q st s:=by
 rw [ltAt'_eq]
 refine Q5 (Vu ?_)
 refine Q5 (uV hi (Q5 (uV hj (nX hC hk hx hy q))))
end
section
variable {prog:Rk}{w:RG}{A:Rw}{E:QL->QM->Prop}{s:QM}
theorem K3 (us:List QL):(us.toArray.zip us.toArray).toList=us.map fun u=>(u,u):=by
 simp only [Array.toList_zip]
 induction us with
 | nil=>rfl
 | cons u us ih=>simpa using ih
structure Near (us:List QL)(n K:Nat)(an:QL->QL->Bool):Prop where
 len:us.length=n+1
 le:K<=n
 asc:∀ (i:Nat)(x z:QL),i+1<n->us[i+1]? = some x->us[i]? = some z->an x z=false
 ris:∀ x z,us[0]? = some x->us[n - 1]? = some z->an x z=true
 at_:∀ (i:Nat)(x z:QL),i<n->us[i]? = some x->us[n]? = some z->an z x=decide (K<=i)
noncomputable def qI (prog:Rk)(w:RG)(A:Rw)(us:List QL)(an:QL->QL->Bool)(s:QM):Prop:=
 Ri (Rl prog w) A (keyKind' us.toArray) (fun κ s'=>s'=s/\∀ (x y:QL)(C:Bool->QM->Prop),x∈us->y∈us->C (an x y) s->Ri (Rl prog w) A (a0y κ x y) C (fun _ _=>False) s) (fun _ _=>False) s
end
section
variable {X:Cx}{a2j:List (Addr×Td)}{σ:L2.St}{H:Hp}{s:QM}
theorem K4 (I:L2.Inv X a2j σ H s){a:Addr}{t t':List Int}(h:SqT X.K H a (t.map V.int))(h':SqT X.K H a (t'.map V.int)):t=t':=
 (List.map_inj_right fun x y h=>by cases h;rfl).mp (I.tuple_inj h h')
open Classical in
noncomputable def tv (K:QH)(H:Hp):QL->List Int
 | .ref a=>if h:∃ t:List Int,SqT K H a (t.map V.int) then h.choose else []
 | _=>[]
end
end L3
namespace L3
open PySem PySem.Spec
namespace Tb
section
variable {prog:Rk}{w:RG}{A:Rw}{E:QL->QM->Prop}{s:QM}
noncomputable abbrev IsT (prog:Rk)(w:RG)(h:Si)(k:List Int)(b:Addr):Prop:=IsTupleKey (Tt prog w) h k b
end
section
variable {prog:Rk}{w:RG}{A:Rw}{R:X7->QM->Prop}{I:Addr}{fp wr:List Addr}{G:Array a0j->Array a0j->Prop}{n:Nat}{P:Nat->QL->Prop}{St:Nat->QM->Prop}
end
section
variable {prog:Rk}{w:RG}{A:Rw}{E:QL->QM->Prop}{s:QM}
noncomputable abbrev d9 (led:Bool):Td:={ cls:=.type "set",dict:=none,data:=.set #[] 0 (.fresh 0 0 led) }
end
end Tb
end L3
namespace L3
open PySem L2
open PyProof.Rows (IntsAre)
theorem uW:∀ {ds:List D}{k:List Int},qA ds=some k->ds=k.map D.int
 | [],k,h=>by cases h;rfl
 | d::ds,k,h=>by
  cases d with
  | int i=>
   obtain ⟨k',h1,h2⟩:=QR.mp h
   subst h2
   rw [uW h1];rfl
  | _=>cases h
theorem Bs {x:D}{k:List Int}(h:bZ x=some k):x=.tup (k.map D.int):=by
 cases x with
 | tup ds=>rw [uW h]
 | _=>cases h
noncomputable def mG (μ:Hm):D->Option (List D)
 | .rol xs=>some xs
 | .loc a=>match μ[a]? with
  | some (.lst xs)=>some xs
  | _=>none
 | _=>none
section
variable {K:QH}{π:Nat->Addr}{n:Nat}{H:Hp}{μ:Hm}
theorem uX {v:V}{x:D}{xs:List D}(R:Rp K π H μ)(h:IsD K π μ.length H v x)(e:mG μ x=some xs):∃ p vs,v=.ref p/\SqL K H p vs/\IsDs K π μ.length H vs xs:=by
 cases h with
 | rol q t=>cases e;exact ⟨_,_,rfl,q.sq,t⟩
 | @loc a ha=>
  simp only [mG] at e
  split at e
  ·rename_i ys hy
   cases e
   obtain ⟨vs,h3,h4⟩:=R.lst a xs hy
   exact ⟨_,vs,rfl,.of h3,h4⟩
  ·cases e
 | _=>cases e
theorem ints_of':∀ {vs:List V}{k:List Int},IsDs K π n H vs (k.map D.int)->vs=k.map V.int
 | _,[],h=>by cases h;rfl
 | _,i::k,h=>by
  cases h with
  | cons h t=>cases h;rw [ints_of' t];rfl
theorem qJ:∀ (k:List Int),IsDs K π n H (k.map V.int) (k.map D.int)
 | []=>.nil
 | i::k=>.cons (.int i) (qJ k)
end
theorem Bt {X:Cx}:∀ {k:List Int}{xs:List QL},Vals (k.map V.int) xs->ItemsAre (Tt X.prog X.w) k xs
 | [],_,h=>by cases h;exact .nil
 | i::k,_,h=>by
  cases h with
  | cons h t=>
   obtain ⟨tk,rfl⟩:=h
   exact .cons (intKind_is _ _ _ _) (Bt t)
section
variable {X:Cx}{a2j:List (Addr×Td)}{σ:St}{H:Hp}{s:QM}
theorem fG (I:Inv X a2j σ H s){b:Addr}{k:List Int}(h:SqT X.K H b (k.map V.int)):Tb.IsT X.prog X.w s.heap k b:=by
 obtain ⟨xs,rx,⟨ob,e,c,n,d⟩,_⟩:=I.tuple h
 exact ⟨ob,xs.toArray,n,e,c,d,by simpa using Bt rx⟩
theorem call_lenT:CallR X (.builtin "len") (fun xs H Q=>∃ a L,xs=[V.ref a]/\H a=some (pL a L)/\Q (.int L.length) H):=by
 intro a2j s σ H xs us Q I r h
 obtain ⟨a,L,rfl,ha,q⟩:=h
 obtain ⟨u,rfl,ru⟩:=dC r
 cases ru
 obtain ⟨⟨o,ho,led,es,ep,t,R,hex,hd,he,ok,hp,hnd,hm,hf5,hpl,hle⟩,_,_⟩:=I.hok a _ ha
 have hsz:es.size=L.length:=by
  have:=hp.length_eq
  simpa using this
 have hm5:t.mask<=511:=by rcases hm with h|h|h|h<;>omega
 refine call_len_set ho hex hd (Tb.fits_of ok he) (by rw [hsz];omega) ?_
 rw [hsz]
 exact ⟨.int L.length,H,I.tok _,⟨_,rfl⟩,q⟩
end
end L3
namespace L3
open PySem L2
noncomputable def kQ (ks:List (List Int)):Nat->Nat->Bool:=fun i j=>HT.lexLt (ks.getD i []) (ks.getD j [])
theorem Bu {K:QH}{π:Nat->Addr}{n:Nat}{H:Hp}:∀ {vs:List V}{xs:List D}(i:Nat),IsDs K π n H vs xs->IsD K π n H (vs.getD i .non) (xs.getD i .non)
 | _,_,i,.nil=>by simp;exact .non
 | _,_,0,.cons h _=>h
 | _,_,i+1,.cons _ t=>by simpa using Bu i t
theorem Bv {K:QH}{π:Nat->Addr}{n:Nat}{H:Hp}{vs:List V}{xs:List D}(h:IsDs K π n H vs xs):∀ (l:List Nat),IsDs K π n H (l.map fun i=>vs.getD i .non) (l.map fun i=>xs.getD i .non)
 | []=>.nil
 | i::l=>.cons (Bu i h) (Bv h l)
end L3
namespace L3
open PySem L2 PySem.W PyProof.Rows
section
variable {prog:Rk}{w:RG}{A:Rw}{E:QL->QM->Prop}{κ:U6}{st:Tp}{s:QM}
theorem K5 {i j:Nat}{Q:Unit->Tp->QM->Prop}(q:Q () (setArr st (a2b (Zi st) i j ((j - i) / 2))) s):Vv (Rl prog w) A E (reverseSlice' i j) Q st s:=by
 rw [reverseSlice'_eq];exact Uc q
end
noncomputable def dA (a b:Str):Bool:=decide (a.cps.toList<b.cps.toList)
theorem Bw:∀ {ss:List Str}{its:List QL},Vals (ss.map V.str) its->StrsAre its ss
 | [],_,h=>by cases h;exact .nil
 | x::ss,_,h=>by
  cases h with
  | cons h t=>
   obtain ⟨k,rfl⟩:=h
   exact .cons x k (Bw t)
end L3
namespace L3
open PySem L2 PySem.W PyProof.Rows
section
variable {M:a0e}{A:Rw}{E:QL->QM->Prop}{σ:Type}
theorem fH {β:Type}{f:Nat->β->StateT σ Zy (ForInStep β)}{s:QM}{Q:β->σ->QM->Prop}(Iv:Nat->β->σ->Prop)(Dn:β->σ->Prop)(a n:Nat)
  (step:∀ i b st,i<n->Iv i b st->Vv M A E (f (a+i) b) (fun r st' s'=>s'=s/\match r with|.done c=>Dn c st'|.yield c=>Iv (i+1) c st') st s)(fin:∀ b st,Iv n b st->Dn b st)(k:∀ b st,Dn b st->Q b st s) :
  ∀ (m i:Nat)(b:β)(st:σ),i+m=n->Iv i b st->Vv M A E (forIn (VF (a+i) m) b f) Q st s
 | 0,i,b,st,h,hI=>kasC_nil (k b st (fin b st (by simp at h;subst h;exact hI)))
 | m+1,i,b,st,h,hI=>by
  rw [Vr]
  refine kasC_cons (RV (step i b st (by omega) hI) (fun r s' q=>?_) fun _ _ e=>e)
  obtain ⟨r,st'⟩:=r
  obtain ⟨q1,q2⟩:=q
  subst q1
  cases r with
  | done c=>exact k c _ q2
  | yield c=>exact fH Iv Dn a n step fin k m (i+1) c st' (by omega) q2
end
section
variable {prog:Rk}{w:RG}{A:Rw}{E:QL->QM->Prop}{κ:U6}{st:Tp}{s:QM}
theorem Bx {X:Keyed->Prop}{an:Keyed->Keyed->Bool}(hC:eB prog w A κ s X an)(hk:kindOf st=κ){lf:Bool}{ky:Keyed}{ar:Array Keyed}{b n h:Nat}(hn:h<n)(y:Nat->Keyed)(ha:∀ i,i<n->ar[b+i]? = some (y i))(hX:∀ i,i<n->X (y i))(hy:X ky)(K:Nat)(hK:K<=n)
  (hB:∀ i,i<n->(if lf then an (y i) ky else !(an ky (y i)))=decide (i<K)){Q:Option Nat->Tp->QM->Prop}(q:Q (some K) st s):Vv (Rl prog w) A E (qH lf ky ar b n h) Q st s:=by
 have be:∀ {i:Nat}{R:Option Bool->Tp->QM->Prop},i<n->R (some (decide (i<K))) st s->Vv (Rl prog w) A E (do let x <- elem' ar (b+i);if lf then lt' x ky else return (<- lt' ky x).map (!·)) R st s:=by
  intro i R hi r
  rw [elem'_eq,ha i hi]
  refine Q5 (Rb ?_)
  have:=hB i hi
  cases lf with
  | true=>
   simp only [if_true] at this ⊢
   exact nX hC hk (hX i hi) hy (by rw [this];exact r)
  | false=>
   simp only [Q3,if_false] at this ⊢
   refine Q5 (nX hC hk hy (hX i hi) (Rb ?_))
   show R (some (!(an ky (y i)))) st s
   rw [this]
   exact r
 unfold qH
 refine Q5 (be hn ?_)
 by_cases h0:h<K
 ·simp only [h0,decide_true,if_true]
  refine Q5 (S5 (iJ (fun i c=>c.1=none/\h+c.2.1<K/\c.2.1<c.2.2/\i+1<=c.2.2) (fun c=>c.1=none/\h+c.2.1<K/\c.2.1<c.2.2/\K<=h+min c.2.2 (n - h)) n (fun i x c hi hI=>?_) (fun c hI=>⟨hI.1,hI.2.1,hI.2.2.1,by omega⟩) (fun c hD=>?_) _ 0 _ (by simp) ⟨rfl,h0,by decide,Q0 _⟩))
  ·obtain ⟨c0,la,of⟩:=c
   obtain ⟨z0,z1,z2,z3⟩:=hI
   dsimp only at z0 z1 z2 z3 ⊢
   by_cases hl:of >= n - h
   ·rw [if_pos hl]
    exact Rb ⟨rfl,rfl,rfl,z1,z2,by dsimp only;omega⟩
   ·rw [if_neg hl]
    refine Q5 (be (i:=h+of) (by omega) ?_)
    by_cases hm:h+of<K
    ·simp only [hm,decide_true,Sh,Q3,if_false]
     exact Rb ⟨rfl,rfl,rfl,by dsimp only;omega,by dsimp only;omega,by dsimp only;omega⟩
    ·simp only [hm,decide_false,Ui,if_true]
     exact Rb ⟨rfl,rfl,rfl,z1,z2,by dsimp only;omega⟩
  ·obtain ⟨c0,la,of⟩:=c
   obtain ⟨z0,z1,z2,z3⟩:=hD
   dsimp only at z0 z1 z2 z3 ⊢
   subst z0
   dsimp only
   refine Q5 (S5 (iJ (fun i c=>c.1=none/\c.2.1<=K/\K<=c.2.2/\c.2.2<=n/\c.2.2 - c.2.1<=n - i) (fun c=>c.1=none/\c.2.2=K) n (fun i x c hi hI=>?_) (fun c hI=>⟨hI.1,by omega⟩) (fun c hD=>?_) _ 0 _ (by simp) ⟨rfl,by dsimp only;omega,by dsimp only;omega,by dsimp only;omega,by dsimp only;omega⟩))
   ·obtain ⟨c0,lo,hg⟩:=c
    obtain ⟨h0,h1,h2,h3,h4⟩:=hI
    dsimp only at h0 h1 h2 h3 h4 ⊢
    by_cases hl:lo >= hg
    ·rw [if_pos hl]
     exact Rb ⟨rfl,rfl,rfl,by dsimp only;omega⟩
    ·rw [if_neg hl]
     refine Q5 (be (i:=lo+(hg - lo) / 2) (by omega) ?_)
     by_cases hm:lo+(hg - lo) / 2<K
     ·simp only [hm,decide_true,if_true]
      exact Rb ⟨rfl,rfl,rfl,by dsimp only;omega,h2,h3,by dsimp only;omega⟩
     ·simp only [hm,decide_false,Q3,if_false]
      exact Rb ⟨rfl,rfl,rfl,h1,by dsimp only;omega,by dsimp only;omega,by dsimp only;omega⟩
   ·obtain ⟨c0,lo,hg⟩:=c
    obtain ⟨h0,h1⟩:=hD
    dsimp only at h0 h1 ⊢
    subst h0 h1
    exact Rb q
 ·simp only [h0,decide_false,Q3,if_false]
  refine Q5 (S5 (iJ (fun i c=>c.1=none/\K+c.2.1<=h/\c.2.1<c.2.2/\i+1<=c.2.2) (fun c=>c.1=none/\K+c.2.1<=h/\c.2.1<c.2.2/\h+1<=K+min c.2.2 (h+1)) n (fun i x c hi hI=>?_) (fun c hI=>⟨hI.1,hI.2.1,hI.2.2.1,by omega⟩) (fun c hD=>?_) _ 0 _ (by simp) ⟨rfl,by dsimp only;omega,by decide,Q0 _⟩))
  ·obtain ⟨c0,la,of⟩:=c
   obtain ⟨z0,z1,z2,z3⟩:=hI
   dsimp only at z0 z1 z2 z3 ⊢
   by_cases hl:of >= h+1
   ·rw [if_pos hl]
    exact Rb ⟨rfl,rfl,rfl,z1,z2,by dsimp only;omega⟩
   ·rw [if_neg hl]
    refine Q5 (be (i:=h - of) (by omega) ?_)
    by_cases hm:h - of<K
    ·simp only [hm,decide_true,if_true]
     exact Rb ⟨rfl,rfl,rfl,z1,z2,by dsimp only;omega⟩
    ·simp only [hm,decide_false,Q3,if_false]
     exact Rb ⟨rfl,rfl,rfl,by dsimp only;omega,by dsimp only;omega,by dsimp only;omega⟩
  ·obtain ⟨c0,la,of⟩:=c
   obtain ⟨z0,z1,z2,z3⟩:=hD
   dsimp only at z0 z1 z2 z3 ⊢
   subst z0
   dsimp only
   refine Q5 (S5 (iJ (fun i c=>c.1=none/\c.2.1<=K/\K<=c.2.2/\c.2.2<=n/\c.2.2 - c.2.1<=n - i) (fun c=>c.1=none/\c.2.2=K) n (fun i x c hi hI=>?_) (fun c hI=>⟨hI.1,by omega⟩) (fun c hD=>?_) _ 0 _ (by simp) ⟨rfl,by dsimp only;omega,by dsimp only;omega,by dsimp only;omega,by dsimp only;omega⟩))
   ·obtain ⟨c0,lo,hg⟩:=c
    obtain ⟨h0,h1,h2,h3,h4⟩:=hI
    dsimp only at h0 h1 h2 h3 h4 ⊢
    by_cases hl:lo >= hg
    ·rw [if_pos hl]
     exact Rb ⟨rfl,rfl,rfl,by dsimp only;omega⟩
    ·rw [if_neg hl]
     refine Q5 (be (i:=lo+(hg - lo) / 2) (by omega) ?_)
     by_cases hm:lo+(hg - lo) / 2<K
     ·simp only [hm,decide_true,if_true]
      exact Rb ⟨rfl,rfl,rfl,by dsimp only;omega,h2,h3,by dsimp only;omega⟩
     ·simp only [hm,decide_false,Q3,if_false]
      exact Rb ⟨rfl,rfl,rfl,h1,by dsimp only;omega,by dsimp only;omega,by dsimp only;omega⟩
   ·obtain ⟨c0,lo,hg⟩:=c
    obtain ⟨h0,h1⟩:=hD
    dsimp only at h0 h1 ⊢
    subst h0 h1
    exact Rb q
end
section
variable {α:Type}{r:α->Int}{A B O:List α}{ia ib:Nat}
noncomputable def Sr (r:α->Int)(l:List α):Prop:=l.Pairwise fun x y=>r x<=r y
structure J (r:α->Int)(A B O:List α)(ia ib:Nat):Prop where
 sa:Sr r (O++A.drop ia)
 sb:Sr r (O++B.drop ib)
 pm:O.Perm (A.take ia++B.take ib)
theorem J.swap (h:J r A B O ia ib):J r B A O ib ia:=⟨h.sb,h.sa,h.pm.trans TR⟩
theorem J.blockB (h:J r A B O ia ib){k:Nat}(hk:∀ x∈(B.drop ib).take k,∀ y∈A.drop ia,r x<=r y):J r A B (O++(B.drop ib).take k) ia (ib+k):=by
 obtain ⟨h1,h2,h3⟩:=h
 have e:O++(B.drop ib).take k++B.drop (ib+k)=O++B.drop ib:=by rw [Rc,<- X0,RT]
 refine ⟨?_,by rw [e];exact h2,?_⟩
 ·unfold Sr at h1 h2 ⊢
  rw [Rc,SS]
  rw [SS] at h1 h2
  refine ⟨h1.1,?_,fun x hx y hy=>?_⟩
  ·rw [SS]
   exact ⟨h2.2.1.sublist (Uw _ _),h1.2.1,hk⟩
  ·rcases Sb.mp hy with hy|hy
   ·exact h2.2.2 x hx y (Wv hy)
   ·exact h1.2.2 x hx y hy
 ·rw [List.take_add]
  exact ((h3.append_right _).trans (by rw [Rc]))
theorem J.blockA (h:J r A B O ia ib){k:Nat}(hk:∀ x∈(A.drop ia).take k,∀ y∈B.drop ib,r x<=r y):J r A B (O++(A.drop ia).take k) (ia+k) ib:=(h.swap.blockB hk).swap
theorem nY {l:List α}{i:Nat}{x:α}(h:l[i]? = some x):l.drop i=x::l.drop (i+1):=by
 obtain ⟨h1,rfl⟩:=QN.mp h
 exact Tj h1
theorem Sr.head {l:List α}{x:α}(h:Sr r (x::l)):∀ y∈x::l,r x<=r y:=fun y hy=>by
 rcases RD.mp hy with rfl|hy
 ·exact Xu _
 ·exact VZ h hy
theorem J.lowA (h:J r A B O ia ib){x:α}(hx:A[ia]? = some x):∀ y∈A.drop ia,r x<=r y:=by
 have:=(SS.mp h.sa).2.1
 rw [nY hx] at this ⊢
 exact Sr.head this
theorem J.lowB (h:J r A B O ia ib){x:α}(hx:B[ib]? = some x):∀ y∈B.drop ib,r x<=r y:=h.swap.lowA hx
theorem J.pushB (h:J r A B O ia ib){x y:α}(hx:A[ia]? = some x)(hy:B[ib]? = some y)(hl:r y<=r x):J r A B (O++[y]) ia (ib+1):=by
 have:=h.blockB (k:=1) (by
  rw [nY hy]
  intro z hz u hu
  rw [WI,Ve,RQ] at hz
  subst hz
  have:=h.lowA hx u hu
  omega)
 rwa [nY hy,WI,Ve] at this
theorem J.pushA (h:J r A B O ia ib){x y:α}(hx:A[ia]? = some x)(hy:B[ib]? = some y)(hl:r x<=r y):J r A B (O++[x]) (ia+1) ib:=(h.swap.pushB hy hx hl).swap
theorem By {l:List α}{i k:Nat}{x:α}(h:x∈(l.drop i).take k):∃ j,j<k/\l[i+j]? = some x:=by
 obtain ⟨j,hj,e⟩:=TK h
 rw [RC] at hj
 refine ⟨j,by omega,?_⟩
 rw [<- e,W2,ZM,QV]
theorem J.gallA (h:J r A B O ia ib){k:Nat}{y:α}(hy:B[ib]? = some y)(hk:∀ j x,j<k->A[ia+j]? = some x->r x<=r y):J r A B (O++(A.drop ia).take k) (ia+k) ib:=h.blockA fun x hx z hz=>by
 obtain ⟨j,hj,e⟩:=By hx
 have h1:=hk j x hj e
 have h2:=h.lowB hy z hz
 omega
theorem J.gallB (h:J r A B O ia ib){k:Nat}{x:α}(hx:A[ia]? = some x)(hk:∀ j y,j<k->B[ib+j]? = some y->r y<=r x):J r A B (O++(B.drop ib).take k) ia (ib+k):=(h.swap.gallA hx hk).swap
noncomputable def Fi (r:α->Int)(A B R:List α):Prop:=R.Perm (A++B)/\Sr r R
theorem J.endB (h:J r A B O ia ib)(hb:B.length<=ib):Fi r A B (O++A.drop ia++B.drop ib):=by
 rw [SM hb,SW]
 refine ⟨?_,h.sa⟩
 have:=h.pm.append_right (A.drop ia)
 refine this.trans ?_
 rw [TM hb]
 refine TR.trans ?_
 rw [<- Rc]
 refine (List.Perm.append_right B (TR)).trans ?_
 rw [RT]
theorem J.endA (h:J r A B O ia ib)(ha:A.length<=ia):Fi r A B (O++A.drop ia++B.drop ib):=by
 have:=h.swap.endB ha
 rw [SM ha,SW] at this ⊢
 exact ⟨this.1.trans TR,this.2⟩
theorem J.last (h:J r A B O ia ib)(ha:A.length=ia+1)(hl:∀ x,A[ia]? = some x->∀ y∈B,r y<=r x):Fi r A B (O++B.drop ib++A.drop ia):=by
 have hx:A[ia]? = some A[ia]:=QV (by omega)
 have g:=h.gallB (k:=B.length - ib) hx fun j y _ hy=>hl _ hx y (Rz hy)
 have e:(B.drop ib).take (B.length - ib)=B.drop ib:=TM (by rw [RZ];exact Q0 _)
 rw [e] at g
 have:=g.endB (by omega)
 rwa [SM (l:=B) (i:=ib+(B.length - ib)) (by omega),SW] at this
end
end L3
namespace L3
open PySem L2 PySem.W PyProof.Rows
section
variable {prog:Rk}{w:RG}{A₀:Rw}{E:QL->QM->Prop}{κ:U6}{st:Tp}{s:QM}{A B:List Keyed}
theorem Bz (A:List Keyed)(i:Nat):(A.toArray.extract i A.toArray.size).toList=A.drop i:=by
 rw [YO,Yb,SD,QZ,TM (by rw [RZ];exact Q0 _)]
theorem nZ (A:List Keyed)(i j:Nat):(A.toArray.extract i j).toList=(A.drop i).take (j - i):=by
 rw [YO,Yb,SD]
theorem uY (A:List Keyed)(i k:Nat):(A.toArray.extract i (i+k)).toList=(A.drop i).take k:=by
 rw [nZ,Tw]
theorem cN {i:Nat}{x:Keyed}{Q:Keyed->Tp->QM->Prop}(h:A[i]? = some x)(q:Q x st s):Vv (Rl prog w) A₀ E (elem' A.toArray i) Q st s:=uV (by rw [RU];exact h) q
noncomputable def kR (p:Keyed->Bool)(l:List Keyed):Nat:=(l.takeWhile p).length
theorem BA (p:Keyed->Bool)(l:List Keyed):kR p l<=l.length:=a1L (List.takeWhile_sublist _)
theorem uZ {p:Keyed->Bool}:∀ {l:List Keyed},l.Pairwise (fun x y=>p y=true->p x=true)->∀ (i:Nat)(x:Keyed),l[i]? = some x->p x=decide (i<kR p l)
 | [],_,i,x,h=>by cases h
 | a::l,hp,i,x,h=>by
  unfold kR
  rw [U0] at hp
  cases hpa:p a with
  | true=>
   rw [Y6,hpa,if_pos rfl,Rq]
   cases i with
   | zero=>cases h;rw [hpa];simp
   | succ i=>
    have:=uZ hp.2 i x h
    unfold kR at this
    rw [this]
    simp
  | false=>
   rw [Y6,hpa,if_neg RR,Tz]
   cases i with
   | zero=>cases h;rw [hpa];simp
   | succ i=>
    cases hx:p x with
    | false=>simp
    | true=>
     have:=hp.1 x (Rz h) hx
     rw [hpa] at this
     cases this
variable {X:Keyed->Prop}{r:Keyed->Int}
noncomputable abbrev lr (r:Keyed->Int)(x y:Keyed):Bool:=decide (r x<r y)
theorem Sr.le {l:List Keyed}(h:Sr r l)(b:Int):l.Pairwise (fun x y=>decide (r y<=b)=true->decide (r x<=b)=true):=h.imp fun {x y} h1 h2=>by
 rw [decide_eq_true_eq] at h2 ⊢;omega
theorem Sr.lt {l:List Keyed}(h:Sr r l)(b:Int):l.Pairwise (fun x y=>decide (r y<b)=true->decide (r x<b)=true):=h.imp fun {x y} h1 h2=>by
 rw [decide_eq_true_eq] at h2 ⊢;omega
theorem Sr.part {l:List Keyed}(h:Sr r l)(i k:Nat):Sr r ((l.drop i).take k):=(SX (Uw _ _) (SX (V3 _ _) h))
theorem u3 (hC:eB prog w A₀ κ s X (lr r))(hk:kindOf st=κ){ky:Keyed}{b n h:Nat}(hn:h<n)(hl:b+n<=A.length)(hX:∀ x∈A,X x)(hy:X ky)(hS:Sr r ((A.drop b).take n))
  {Q:Option Nat->Tp->QM->Prop}(q:∀ K,K<=n->(∀ j x,j<n->A[b+j]? = some x->(r x<=r ky↔j<K))->Q (some K) st s):Vv (Rl prog w) A₀ E (qH false ky A.toArray b n h) Q st s:=by
 have hg:∀ i,i<n->A[b+i]? = some (A.getD (b+i) (.none,.none)):=fun i hi=>by
  rw [Rv,QV (by omega)];rfl
 have hc:=uZ (hS.le (r ky))
 have hle:=BA (fun x=>decide (r x<=r ky)) ((A.drop b).take n)
 rw [RC,RZ] at hle
 have at_:∀ j x,j<n->A[b+j]? = some x->((A.drop b).take n)[j]? = some x:=fun j x hj h=>by
  rw [Sv hj,Um];exact h
 refine Bx hC hk hn (fun i=>A.getD (b+i) (.none,.none)) (fun i hi=>by rw [RU];exact hg i hi) (fun i hi=>hX _ (Rz (hg i hi))) hy _ (by omega) (fun i hi=>?_) (q (kR (fun x=>decide (r x<=r ky)) ((A.drop b).take n)) (by omega) fun j x hj h=>?_)
 ·have:=hc i _ (at_ i _ hi (hg i hi))
  rw [if_neg RR,<- this]
  unfold lr
  by_cases h:r ky<r (A.getD (b+i) (.none,.none))
  ·rw [decide_eq_true h,decide_eq_false (by omega)];rfl
  ·rw [decide_eq_false h,decide_eq_true (by omega)];rfl
 ·have:=hc j x (at_ j x hj h)
  rw [<- decide_eq_true_eq (p:=r x<=r ky),this,decide_eq_true_eq]
theorem u4 (hC:eB prog w A₀ κ s X (lr r))(hk:kindOf st=κ){ky:Keyed}{b n h:Nat}(hn:h<n)(hl:b+n<=A.length)(hX:∀ x∈A,X x)(hy:X ky)(hS:Sr r ((A.drop b).take n))
  {Q:Option Nat->Tp->QM->Prop}(q:∀ K,K<=n->(∀ j x,j<n->A[b+j]? = some x->(r x<r ky↔j<K))->Q (some K) st s):Vv (Rl prog w) A₀ E (qH true ky A.toArray b n h) Q st s:=by
 have hg:∀ i,i<n->A[b+i]? = some (A.getD (b+i) (.none,.none)):=fun i hi=>by
  rw [Rv,QV (by omega)];rfl
 have hc:=uZ (hS.lt (r ky))
 have hle:=BA (fun x=>decide (r x<r ky)) ((A.drop b).take n)
 rw [RC,RZ] at hle
 have at_:∀ j x,j<n->A[b+j]? = some x->((A.drop b).take n)[j]? = some x:=fun j x hj h=>by
  rw [Sv hj,Um];exact h
 refine Bx hC hk hn (fun i=>A.getD (b+i) (.none,.none)) (fun i hi=>by rw [RU];exact hg i hi) (fun i hi=>hX _ (Rz (hg i hi))) hy _ (by omega) (fun i hi=>?_) (q (kR (fun x=>decide (r x<r ky)) ((A.drop b).take n)) (by omega) fun j x hj h=>?_)
 ·have:=hc i _ (at_ i _ hi (hg i hi))
  rw [if_pos rfl,<- this]
 ·have:=hc j x (at_ j x hj h)
  rw [<- decide_eq_true_eq (p:=r x<r ky),this,decide_eq_true_eq]
end
end L3
namespace L3
open PySem L2 PySem.W PyProof.Rows
section
variable {prog:Rk}{w:RG}{A₀:Rw}{E:QL->QM->Prop}{κ:U6}{s:QM}{A B:List Keyed}{X:Keyed->Prop}{r:Keyed->Int}
theorem bI {σ β:Type}{M:a0e}{A₁:Rw}{E₁:QL->QM->Prop}{s₁:QM}{Q:β->σ->QM->Prop}{st:σ}{c:Prop} [Decidable c] {a b:StateT σ Zy β}(h2:¬ c->Vv M A₁ E₁ b Q st s₁)(h1:c->Vv M A₁ E₁ a Q st s₁):Vv M A₁ E₁ (if c then a else b) Q st s₁:=by
 by_cases h:c
 ·rw [if_pos h];exact h1 h
 ·rw [if_neg h];exact h2 h
theorem iK (out:Array Keyed)(i j:Nat):(out++A.toArray.extract i A.toArray.size++B.toArray.extract j B.toArray.size).toList=out.toList++A.drop i++B.drop j:=by
 rw [TH,TH,Bz,Bz]
noncomputable def Go (r:Keyed->Int)(A B:List Keyed)(n:Nat)(out:Array Keyed)(ia ib:Nat):Prop:=J r A B out.toList ia ib/\ia+1<A.length/\ib<B.length/\n<=ia+ib
theorem K6 (hC:eB prog w A₀ κ s X (lr r))(hXA:∀ x∈A,X x)(hXB:∀ x∈B,X x)(hA:Sr r A)(hB:Sr r B)(hA0:0<A.length)(hB0:0<B.length)(hf:∀ y,B[0]? = some y->∀ x∈A,r y<=r x)(hl:∀ x,A[A.length - 1]? = some x->∀ y∈B,r y<=r x)
  {ar:Array Keyed}{pd:Array (Nat×Nat×Nat)}{mg:Nat}{Q:Array Keyed->Tp->QM->Prop}(q:∀ R mg',Fi r A B R.toList->Q R (Ry κ ar pd mg' none) s) :
  Vv (Rl prog w) A₀ E (Bp A.toArray B.toArray) Q (Ry κ ar pd mg none) s:=by
 have getA:∀ i,i<A.length->∃ x,A[i]? = some x/\X x:=fun i hi=>⟨A[i],QV hi,hXA _ (To hi)⟩
 have getB:∀ i,i<B.length->∃ x,B[i]? = some x/\X x:=fun i hi=>⟨B[i],QV hi,hXB _ (To hi)⟩
 have last:∀ {O:List Keyed}{ia ib:Nat},J r A B O ia ib->ia+1=A.length->Fi r A B (O++B.drop ib++A.drop ia):=fun {O ia ib} h e=>h.last e.symm fun x hx=>hl x (by rw [show A.length - 1=ia by omega];exact hx)
 unfold Bp
 refine Q5 (Ws (Uj ?_))
 obtain ⟨y0,hy0,_⟩:=getB 0 hB0
 refine Q5 (cN hy0 ?_)
 have j0:J r A B [y0] 0 1:=by
  refine ⟨?_,?_,?_⟩
  ·show Sr r (y0::A.drop 0)
   unfold Sr
   rw [Uh,U0]
   exact ⟨fun x hx=>hf y0 hy0 x hx,hA⟩
  ·show Sr r (y0::B.drop 1)
   rw [<- nY hy0,Uh]
   exact hB
  ·rw [Ve,Tx]
   cases B with
   | nil=>cases hy0
   | cons b B=>cases hy0;exact UX _
 dsimp only
 by_cases h1:B.length=1
 ·rw [if_pos (by rw [QZ,h1];rfl)]
  refine Rb (q _ _ ?_)
  rw [iK]
  exact j0.endB (by omega)
 rw [if_neg (by rw [QZ,beq_iff_eq];omega)]
 by_cases h2:A.length=1
 ·rw [if_pos (by rw [QZ,h2];rfl)]
  refine Rb (q _ _ ?_)
  rw [iK]
  exact last j0 (by omega)
 rw [if_neg (by rw [QZ,beq_iff_eq];omega)]
 refine Q5 (Vu ?_)
 have htot:A.toArray.size+B.toArray.size=A.length+B.length:=by rw [QZ,QZ]
 refine Q5 (S5 (fH (fun i c st=>(∃ mg',st=Ry κ ar pd mg' none)/\∃ out ia ib m,c=(none,out,ia,ib,m)/\Go r A B (i+1) out ia ib) (fun c st=>(∃ mg',st=Ry κ ar pd mg' none)/\∃ R:Array Keyed,c.1=some R/\Fi r A B R.toList) 0 (A.length+B.length) (fun i c st hi hI=>?_) (fun c st hI=>?_) (fun c st hD=>?_) (A.toArray.size+B.toArray.size - 0) 0 _ _ (by rw [htot];omega) ⟨⟨_,rfl⟩,_,_,_,_,rfl,j0,by omega,by omega,by omega⟩))
 ·obtain ⟨⟨mg1,rfl⟩,out,ia,ib,m,rfl,hG⟩:=hI
  dsimp only
    -- one by one
  refine Q5 (S5 (fH (fun j c st=>st=Ry κ ar pd mg1 none/\∃ out ia ib ac bc,c=(none,out,ia,ib,ac,bc)/\Go r A B (i+1+j) out ia ib) (fun c st=>st=Ry κ ar pd mg1 none/\((∃ R:Array Keyed,c.1=some R/\Fi r A B R.toList)\/∃ out ia ib ac bc,c=(none,out,ia,ib,ac,bc)/\Go r A B (i+2) out ia ib)) 0 (A.length+B.length) (fun j c st hj hJ=>?_) (fun c st hJ=>?_) (fun c st hD=>?_) (A.toArray.size+B.toArray.size - 0) 0 _ _ (by rw [htot];omega) ⟨rfl,_,_,_,_,_,rfl,hG⟩))
  ·obtain ⟨rfl,out,ia,ib,ac,bc,rfl,g1,g2,g3,g4⟩:=hJ
   dsimp only
   obtain ⟨x,hx,Xx⟩:=getA ia (by omega)
   obtain ⟨y,hy,Xy⟩:=getB ib g3
   refine Q5 (cN hy (Q5 (cN hx (Q5 (nX hC rfl Xy Xx ?_)))))
   dsimp only
   by_cases hc:r y<r x
   ·rw [if_pos (by unfold lr;exact decide_eq_true hc)]
    refine Q5 (cN hy ?_)
    have g5:=g1.pushB hx hy (Wl hc)
    rw [<- S0] at g5
    by_cases he:ib+1=B.length
    ·rw [if_pos (by rw [QZ,beq_iff_eq];exact he)]
     refine Rb ⟨rfl,rfl,.inl ⟨_,rfl,?_⟩⟩
     rw [iK]
     exact g5.endB (by omega)
    ·rw [if_neg (by rw [QZ,beq_iff_eq];exact he)]
     split
     ·exact Rb ⟨rfl,rfl,.inr ⟨_,_,_,_,_,rfl,g5,g2,by omega,by omega⟩⟩
     ·exact Rb ⟨rfl,rfl,_,_,_,_,_,rfl,g5,g2,by omega,by omega⟩
   ·rw [if_neg (by unfold lr;rw [decide_eq_true_eq];exact hc)]
    refine Q5 (cN hx ?_)
    have g5:=g1.pushA hx hy (by omega)
    rw [<- S0] at g5
    by_cases he:ia+1+1=A.length
    ·rw [if_pos (by rw [QZ,beq_iff_eq];exact he)]
     refine Rb ⟨rfl,rfl,.inl ⟨_,rfl,?_⟩⟩
     rw [iK]
     exact last g5 he
    ·rw [if_neg (by rw [QZ,beq_iff_eq];exact he)]
     split
     ·exact Rb ⟨rfl,rfl,.inr ⟨_,_,_,_,_,rfl,g5,by omega,g3,by omega⟩⟩
     ·exact Rb ⟨rfl,rfl,_,_,_,_,_,rfl,g5,by omega,g3,by omega⟩
  ·obtain ⟨rfl,out,ia,ib,ac,bc,rfl,g1,g2,g3,g4⟩:=hJ
   exact ⟨rfl,.inr ⟨_,_,_,_,_,rfl,g1,g2,g3,by omega⟩⟩
  ·obtain ⟨rfl,hD⟩:=hD
   obtain ⟨c0,out,ia,ib,ac,bc⟩:=c
   dsimp only
   rcases hD with ⟨R,e,hR⟩|⟨out',ia',ib',ac',bc',e,hG⟩
   ·dsimp only at e
    subst e
    exact Rb ⟨rfl,⟨_,rfl⟩,R,rfl,hR⟩
   cases e
   dsimp only
   refine Q5 (Ws (Uj ?_))
      -- by leaps
   refine Q5 (S5 (fH (fun j c st=>(∃ mg',st=Ry κ ar pd mg' none)/\∃ out ia ib m ac bc,c=(none,out,ia,ib,m,ac,bc)/\Go r A B (i+2) out ia ib) (fun c st=>(∃ mg',st=Ry κ ar pd mg' none)/\((∃ R:Array Keyed,c.1=some R/\Fi r A B R.toList)\/∃ out ia ib m ac bc,c=(none,out,ia,ib,m,ac,bc)/\Go r A B (i+2) out ia ib)) 0 (A.length+B.length) (fun j c st hj hJ=>?_) (fun c st hJ=>?_) (fun c st hD=>?_) (A.toArray.size+B.toArray.size - 0) 0 _ _ (by rw [htot];omega) ⟨⟨_,rfl⟩,_,_,_,_,_,_,rfl,hG⟩))
   ·obtain ⟨⟨mg2,rfl⟩,out,ia,ib,m,ac,bc,rfl,g1,g2,g3,g4⟩:=hJ
    dsimp only
    obtain ⟨y,hy,Xy⟩:=getB ib g3
    refine bI (fun hm=>?_) fun hm=>?_
    all_goals
     refine Q5 (Uc ?_)
     refine Q5 (cN hy ?_)
     refine Q5 (u3 hC rfl (b:=ia) (n:=A.toArray.size - ia) (h:=0) (by rw [QZ];omega) (by rw [QZ];omega) hXA Xy (hA.part _ _) fun k hk1 hk2=>?_)
     rw [QZ] at hk1
     dsimp only
     have g5:=g1.gallA (k:=k) hy fun j x hj hx=>(hk2 j x (by rw [QZ];omega) hx).mpr hj
     have nx:∀ x,A[ia+k]? = some x->r y<r x:=fun x hx=>by
      have h1:=(QN.mp hx).1
      have:=hk2 k x (by rw [QZ];omega) hx
      omega
     have g6:k=0->J r A B out.toList (ia+k) ib:=fun e=>by rw [e];exact g1
     have e1:(out++A.toArray.extract ia (ia+k)).toList=out.toList++(A.drop ia).take k:=by rw [TH,uY]
     rw [<- e1] at g5
     refine bI (fun hk0=>?_) fun hk0=>bI (fun he=>bI (fun he2=>?_) fun he2=>?_) fun he=>?_
     rotate_left 2
     ·rw [QZ,beq_iff_eq] at he2
      refine Rb ⟨rfl,⟨_,rfl⟩,.inl ⟨_,rfl,?_⟩⟩
      rw [iK]
      exact g5.endA (by omega)
     ·rw [QZ,beq_iff_eq] at he
      refine Rb ⟨rfl,⟨_,rfl⟩,.inl ⟨_,rfl,?_⟩⟩
      rw [iK]
      exact last g5 he
     have t0:ia<=ia:=Q0 _
     have t1:=g1
     have t2:=g2
     have t3:∀ x,A[ia]? = some x->r y<r x:=by rw [show k=0 by omega] at nx;exact nx
     generalize hout:out=out' at t1 ⊢
     generalize hia:(ia:Nat)=ia' at t0 t1 t2 t3 ⊢
     rw [<- hia] at t0
     rotate_left
     rw [QZ,beq_iff_eq] at he he2
     have t0:ia<=ia+k:=by omega
     have t1:=g5
     have t2:ia+k+1<A.length:=by omega
     have t3:=nx
     generalize out++A.toArray.extract ia (ia+k)=out' at t1 ⊢
     generalize ia+k=ia' at t0 t1 t2 t3 ⊢
     all_goals
      obtain ⟨x,hx,Xx⟩:=getA ia' (by omega)
      have t5:=t1.pushB hx hy (Wl (t3 x hx))
      rw [<- S0] at t5
      refine Q5 (cN hy ?_)
      refine bI (fun he=>?_) fun he=>?_
      rotate_left
      ·rw [QZ,beq_iff_eq] at he
       refine Rb ⟨rfl,⟨_,rfl⟩,.inl ⟨_,rfl,?_⟩⟩
       rw [iK]
       exact t5.endB (by omega)
      rw [QZ,beq_iff_eq] at he
      refine Q5 (cN hx ?_)
      refine Q5 (u4 hC rfl (b:=ib+1) (n:=B.toArray.size - (ib+1)) (h:=0) (by rw [QZ];omega) (by rw [QZ];omega) hXB Xx (hB.part _ _) fun k' hm1 hm2=>?_)
      rw [QZ] at hm1
      dsimp only
      have u5:=t5.gallB (k:=k') hx fun j z hj hz=>Wl ((hm2 j z (by rw [QZ];omega) hz).mpr hj)
      have nz:∀ z,B[ib+1+k']? = some z->r x<=r z:=fun z hz=>by
       have h1:=(QN.mp hz).1
       have:=hm2 k' z (by rw [QZ];omega) hz
       omega
      have e2:(out'.push y++B.toArray.extract (ib+1) (ib+1+k')).toList=(out'.push y).toList++(B.drop (ib+1)).take k':=by rw [TH,uY]
      rw [<- e2] at u5
      refine bI (fun hk1'=>?_) fun hk1'=>bI (fun hb=>?_) fun hb=>?_
      rotate_left 2
      ·rw [QZ,beq_iff_eq] at hb
       refine Rb ⟨rfl,⟨_,rfl⟩,.inl ⟨_,rfl,?_⟩⟩
       rw [iK]
       exact u5.endB (by omega)
      have v1:=t5
      have v2:ib+1<B.length:=by omega
      have v3:∀ z,B[ib+1]? = some z->r x<=r z:=by rw [show k'=0 by omega] at nz;exact nz
      have v4:ib<ib+1:=by omega
      generalize out'.push y=ou at v1 ⊢
      generalize ib+1=jb at v1 v2 v3 v4 ⊢
      rotate_left
      rw [QZ,beq_iff_eq] at hb
      have v1:=u5
      have v2:ib+1+k'<B.length:=by omega
      have v3:=nz
      have v4:ib<ib+1+k':=by omega
      generalize out'.push y++B.toArray.extract (ib+1) (ib+1+k')=ou at v1 ⊢
      generalize ib+1+k'=jb at v1 v2 v3 v4 ⊢
      all_goals
       obtain ⟨z,hz,Xz⟩:=getB jb v2
       have v5:=v1.pushA hx hz (v3 z hz)
       rw [<- S0] at v5
       refine Q5 (cN hx ?_)
       refine bI (fun hf=>?_) fun hf=>?_
       ·rw [QZ,beq_iff_eq] at hf
        exact bI (fun _=>Rb ⟨rfl,⟨_,rfl⟩,_,_,_,_,_,_,rfl,v5,by omega,v2,by omega⟩) fun _=>Rb ⟨rfl,⟨_,rfl⟩,.inr ⟨_,_,_,_,_,_,rfl,v5,by omega,v2,by omega⟩⟩
       ·rw [QZ,beq_iff_eq] at hf
        refine Rb ⟨rfl,⟨_,rfl⟩,.inl ⟨_,rfl,?_⟩⟩
        rw [iK]
        exact last v5 hf
   ·obtain ⟨h1,h2⟩:=hJ
    exact ⟨h1,.inr h2⟩
   ·obtain ⟨⟨mg2,rfl⟩,hD⟩:=hD
    obtain ⟨c0,out,ia,ib,m,ac,bc⟩:=c
    dsimp only
    rcases hD with ⟨R,e,hR⟩|⟨out',ia',ib',m',ac',bc',e,hG⟩
    ·dsimp only at e
     subst e
     exact Rb ⟨rfl,⟨_,rfl⟩,R,rfl,hR⟩
    cases e
    dsimp only
    exact Q5 (Uc (Rb ⟨rfl,⟨_,rfl⟩,_,_,_,_,rfl,hG⟩))
 ·obtain ⟨_,out,ia,ib,m,rfl,g1,g2,g3,g4⟩:=hI
  omega
 ·obtain ⟨⟨mg1,rfl⟩,R,e,hR⟩:=hD
  obtain ⟨c0,c1⟩:=c
  dsimp only at e ⊢
  subst e
  exact Rb (q R _ hR)
end
end L3
namespace L3
open PySem L2 PySem.W PyProof.Rows
section
variable {r:Keyed->Int}{A B O:List Keyed}{na nb:Nat}
noncomputable def JH (r:Keyed->Int)(A B O:List Keyed)(na nb:Nat):Prop:=na<=A.length/\nb<=B.length/\J (fun x=>-r x) B.reverse A.reverse O (B.length - nb) (A.length - na)
theorem mH {l:List Keyed}{n:Nat}{x:Keyed}(h:l[n - 1]? = some x)(h1:1<=n)(h2:n<=l.length):l.reverse[l.length - n]? = some x:=by
 rw [SA (by omega),<- h]
 congr 1
 omega
theorem JH.pushA (h:JH r A B O na nb){x y:Keyed}(hx:A[na - 1]? = some x)(hy:B[nb - 1]? = some y)(h1:1<=na)(h2:1<=nb)(hl:r y<=r x):JH r A B (O++[x]) (na - 1) nb:=by
 obtain ⟨g1,g2,g3⟩:=h
 refine ⟨by omega,g2,?_⟩
 have:=g3.pushB (mH hy h2 g2) (mH hx h1 g1) (by omega)
 rw [show A.length - (na - 1)=A.length - na+1 by omega]
 exact this
theorem JH.pushB (h:JH r A B O na nb){x y:Keyed}(hx:A[na - 1]? = some x)(hy:B[nb - 1]? = some y)(h1:1<=na)(h2:1<=nb)(hl:r x<=r y):JH r A B (O++[y]) na (nb - 1):=by
 obtain ⟨g1,g2,g3⟩:=h
 refine ⟨g1,by omega,?_⟩
 have:=g3.pushA (mH hy h2 g2) (mH hx h1 g1) (by omega)
 rw [show B.length - (nb - 1)=B.length - nb+1 by omega]
 exact this
theorem BB {l:List Keyed}{n t:Nat}(h1:t<=n)(h2:n<=l.length):(l.reverse.drop (l.length - n)).take (n - t)=((l.drop t).take (n - t)).reverse:=by
 apply T6
 intro i
 have hlen:((l.drop t).take (n - t)).length=n - t:=by rw [RC,RZ];omega
 by_cases h:i<n - t
 ·rw [Sv h,Um,SA (by omega),SA (by omega),hlen,Sv (by omega),Um]
  congr 1
  omega
 ·rw [R8 (by rw [RC,RZ,SF];omega),R8 (by rw [SF,hlen];omega)]
theorem JH.gallA (h:JH r A B O na nb){t:Nat}{y:Keyed}(hy:B[nb - 1]? = some y)(h2:1<=nb)(ht:t<=na)(hk:∀ j x,t<=j->j<na->A[j]? = some x->r y<=r x):JH r A B (O++((A.drop t).take (na - t)).reverse) t nb:=by
 obtain ⟨g1,g2,g3⟩:=h
 refine ⟨by omega,g2,?_⟩
 have:=g3.gallB (k:=na - t) (mH hy h2 g2) fun j z hj hz=>by
  have hz':A[A.length - 1 - (A.length - na+j)]? = some z:=by rw [<- hz,SA (by omega)]
  have:=hk _ z (by omega) (by omega) hz'
  omega
 rw [BB ht g1] at this
 rw [show A.length - t=A.length - na+(na - t) by omega]
 exact this
theorem JH.gallB (h:JH r A B O na nb){t:Nat}{x:Keyed}(hx:A[na - 1]? = some x)(h1:1<=na)(ht:t<=nb)(hk:∀ j y,t<=j->j<nb->B[j]? = some y->r x<=r y):JH r A B (O++((B.drop t).take (nb - t)).reverse) na t:=by
 obtain ⟨g1,g2,g3⟩:=h
 refine ⟨g1,by omega,?_⟩
 have:=g3.gallA (k:=nb - t) (mH hx h1 g1) fun j z hj hz=>by
  have hz':B[B.length - 1 - (B.length - nb+j)]? = some z:=by rw [<- hz,SA (by omega)]
  have:=hk _ z (by omega) (by omega) hz'
  omega
 rw [BB ht g2] at this
 rw [show B.length - t=B.length - nb+(nb - t) by omega]
 exact this
theorem mI {l:List Keyed}{n:Nat}:l.reverse.drop (l.length - n)=(l.take n).reverse:=by
 rw [List.reverse_take]
theorem Fi.rev {R:List Keyed}(h:Fi (fun x=>-r x) B.reverse A.reverse R):Fi r A B R.reverse:=by
 refine ⟨(Vf R).trans (h.1.trans ((List.Perm.append (Vf B) (Vf A)).trans TR)),?_⟩
 unfold Sr
 rw [Wo]
 exact h.2.imp fun {x y} h=>by dsimp only at h;omega
theorem JH.endA (h:JH r A B O na nb)(hn:na=0):Fi r A B (A.take na++B.take nb++O.reverse):=by
 obtain ⟨g1,g2,g3⟩:=h
 have:=(g3.endB (by rw [SF];omega)).rev
 rw [mI,mI] at this
 simpa using this
theorem JH.endB (h:JH r A B O na nb)(hn:nb=0):Fi r A B (A.take na++B.take nb++O.reverse):=by
 obtain ⟨g1,g2,g3⟩:=h
 have:=(g3.endA (by rw [SF];omega)).rev
 rw [mI,mI] at this
 simpa using this
theorem JH.last (h:JH r A B O na nb)(hn:nb=1)(hf:∀ y,B[0]? = some y->∀ x∈A,r y<=r x):Fi r A B (B.take nb++A.take na++O.reverse):=by
 obtain ⟨g1,g2,g3⟩:=h
 have:=(g3.last (by rw [SF];omega) fun y hy x hx=>by
  have hy':B[0]? = some y:=by rw [<- hy,SA (by omega)];congr 1;omega
  have:=hf y hy' x (ZW.mp hx)
  omega).rev
 rw [mI,mI] at this
 simpa using this
variable {prog:Rk}{w:RG}{A₀:Rw}{E:QL->QM->Prop}{κ:U6}{s:QM}{X:Keyed->Prop}
theorem iL (out:Array Keyed)(i j:Nat):(A.toArray.extract 0 i++B.toArray.extract 0 j++out.reverse).toList=A.take i++B.take j++out.toList.reverse:=by
 rw [TH,TH,nZ,nZ,YN,Uh,Uh,Xb,Xb]
theorem BC (out:Array Keyed)(A:List Keyed)(t n:Nat):(out++(A.toArray.extract t n).reverse).toList=out.toList++((A.drop t).take (n - t)).reverse:=by
 rw [TH,YN,nZ]
noncomputable def n3 (r:Keyed->Int)(A B:List Keyed)(n:Nat)(out:Array Keyed)(na nb:Nat):Prop:=JH r A B out.toList na nb/\1<=na/\2<=nb/\n+na+nb<=A.length+B.length
theorem K7 (hC:eB prog w A₀ κ s X (lr r))(hXA:∀ x∈A,X x)(hXB:∀ x∈B,X x)(hA:Sr r A)(hB:Sr r B)(hA0:0<A.length)(hB0:0<B.length)(hf:∀ y,B[0]? = some y->∀ x∈A,r y<=r x)(hl:∀ x,A[A.length - 1]? = some x->∀ y∈B,r y<=r x)
  {ar:Array Keyed}{pd:Array (Nat×Nat×Nat)}{mg:Nat}{Q:Array Keyed->Tp->QM->Prop}(q:∀ R mg',Fi r A B R.toList->Q R (Ry κ ar pd mg' none) s) :
  Vv (Rl prog w) A₀ E (Bq A.toArray B.toArray) Q (Ry κ ar pd mg none) s:=by
 have getA:∀ i,i<A.length->∃ x,A[i]? = some x/\X x:=fun i hi=>⟨A[i],QV hi,hXA _ (To hi)⟩
 have getB:∀ i,i<B.length->∃ x,B[i]? = some x/\X x:=fun i hi=>⟨B[i],QV hi,hXB _ (To hi)⟩
 unfold Bq
 refine Q5 (Ws (Uj ?_))
 obtain ⟨x0,hx0,_⟩:=getA (A.length - 1) (by omega)
 refine Q5 (cN (by rw [QZ];exact hx0) ?_)
 have j0:JH r A B [x0] (A.length - 1) B.length:=by
  refine ⟨by omega,Q0 _,?_⟩
  have e:A.reverse=x0::A.reverse.drop 1:=by
   have:=nY (l:=A.reverse) (i:=0) (x:=x0) (by rw [SA (by omega)];exact hx0)
   rwa [Uh] at this
  rw [Vl,show A.length - (A.length - 1)=1 by omega]
  refine ⟨?_,?_,?_⟩
  ·unfold Sr
   rw [Uh]
   show (x0::B.reverse).Pairwise _
   rw [U0]
   refine ⟨fun y hy=>?_,?_⟩
   ·have:=hl x0 hx0 y (ZW.mp hy)
    dsimp only
    omega
   ·rw [Wo]
    exact hB.imp fun {x y} h=>by dsimp only;omega
  ·show Sr _ (x0::A.reverse.drop 1)
   rw [<- e]
   unfold Sr
   rw [Wo]
   exact hA.imp fun {x y} h=>by dsimp only;omega
  ·rw [Ve,Tx,e]
   exact UX _
 dsimp only
 rw [QZ,QZ]
 refine bI (fun h1=>bI (fun h2=>?_) fun h2=>?_) fun h1=>?_
 rotate_left
 ·rw [beq_iff_eq] at h2
  refine Rb (q _ _ ?_)
  rw [iL]
  exact j0.last h2 hf
 ·rw [beq_iff_eq] at h1
  refine Rb (q _ _ ?_)
  rw [iL]
  exact j0.endA h1
 rw [beq_iff_eq] at h1 h2
 refine Q5 (Vu ?_)
 refine Q5 (S5 (fH (fun i c st=>(∃ mg',st=Ry κ ar pd mg' none)/\∃ na nb out m,c=(none,na,nb,out,m)/\n3 r A B (i+1) out na nb) (fun c st=>(∃ mg',st=Ry κ ar pd mg' none)/\∃ R:Array Keyed,c.1=some R/\Fi r A B R.toList) 0 (A.length+B.length) (fun i c st hi hI=>?_) (fun c st hI=>?_) (fun c st hD=>?_) (A.length+B.length - 0) 0 _ _ (by omega) ⟨⟨_,rfl⟩,_,_,_,_,rfl,j0,by omega,by omega,by omega⟩))
 ·obtain ⟨⟨mg1,rfl⟩,na,nb,out,m,rfl,hG⟩:=hI
  dsimp only
  refine Q5 (S5 (fH (fun j c st=>st=Ry κ ar pd mg1 none/\∃ na nb out ac bc,c=(none,na,nb,out,ac,bc)/\n3 r A B (i+1+j) out na nb) (fun c st=>st=Ry κ ar pd mg1 none/\((∃ R:Array Keyed,c.1=some R/\Fi r A B R.toList)\/∃ na nb out ac bc,c=(none,na,nb,out,ac,bc)/\n3 r A B (i+2) out na nb)) 0 (A.length+B.length) (fun j c st hj hJ=>?_) (fun c st hJ=>?_) (fun c st hD=>?_) (A.length+B.length - 0) 0 _ _ (by omega) ⟨rfl,_,_,_,_,_,rfl,hG⟩))
  ·obtain ⟨rfl,na,nb,out,ac,bc,rfl,g1,g2,g3,g4⟩:=hJ
   dsimp only
   have l1:=g1.1
   have l2:=g1.2.1
   obtain ⟨x,hx,Xx⟩:=getA (na - 1) (by omega)
   obtain ⟨y,hy,Xy⟩:=getB (nb - 1) (by omega)
   refine Q5 (cN hy (Q5 (cN hx (Q5 (nX hC rfl Xy Xx ?_)))))
   dsimp only
   refine bI (fun hc=>?_) fun hc=>?_
   ·unfold lr at hc
    rw [decide_eq_true_eq] at hc
    have g5:=g1.pushB hx hy (by omega) (by omega) (by omega)
    rw [<- S0] at g5
    refine Q5 (cN hy ?_)
    refine bI (fun he=>?_) fun he=>?_
    ·rw [beq_iff_eq] at he
     exact bI (fun _=>Rb ⟨rfl,rfl,_,_,_,_,_,rfl,g5,by omega,by omega,by omega⟩) fun _=>Rb ⟨rfl,rfl,.inr ⟨_,_,_,_,_,rfl,g5,by omega,by omega,by omega⟩⟩
    ·rw [beq_iff_eq] at he
     refine Rb ⟨rfl,rfl,.inl ⟨_,rfl,?_⟩⟩
     rw [iL]
     exact g5.last he hf
   ·unfold lr at hc
    rw [decide_eq_true_eq] at hc
    have g5:=g1.pushA hx hy (by omega) (by omega) (by omega)
    rw [<- S0] at g5
    refine Q5 (cN hx ?_)
    refine bI (fun he=>?_) fun he=>?_
    ·rw [beq_iff_eq] at he
     exact bI (fun _=>Rb ⟨rfl,rfl,_,_,_,_,_,rfl,g5,by omega,by omega,by omega⟩) fun _=>Rb ⟨rfl,rfl,.inr ⟨_,_,_,_,_,rfl,g5,by omega,by omega,by omega⟩⟩
    ·rw [beq_iff_eq] at he
     refine Rb ⟨rfl,rfl,.inl ⟨_,rfl,?_⟩⟩
     rw [iL]
     exact g5.endA he
  ·obtain ⟨rfl,na,nb,out,ac,bc,rfl,g1,g2,g3,g4⟩:=hJ
   exact ⟨rfl,.inr ⟨_,_,_,_,_,rfl,g1,g2,g3,by omega⟩⟩
  ·obtain ⟨rfl,hD⟩:=hD
   obtain ⟨c0,na,nb,out,ac,bc⟩:=c
   dsimp only
   rcases hD with ⟨R,e,hR⟩|⟨na',nb',out',ac',bc',e,hG⟩
   ·dsimp only at e
    subst e
    exact Rb ⟨rfl,⟨_,rfl⟩,R,rfl,hR⟩
   cases e
   dsimp only
   refine Q5 (Ws (Uj ?_))
   refine Q5 (S5 (fH (fun j c st=>(∃ mg',st=Ry κ ar pd mg' none)/\∃ na nb out m ac bc,c=(none,na,nb,out,m,ac,bc)/\n3 r A B (i+2) out na nb) (fun c st=>(∃ mg',st=Ry κ ar pd mg' none)/\((∃ R:Array Keyed,c.1=some R/\Fi r A B R.toList)\/∃ na nb out m ac bc,c=(none,na,nb,out,m,ac,bc)/\n3 r A B (i+2) out na nb)) 0 (A.length+B.length) (fun j c st hj hJ=>?_) (fun c st hJ=>?_) (fun c st hD=>?_) (A.length+B.length - 0) 0 _ _ (by omega) ⟨⟨_,rfl⟩,_,_,_,_,_,_,rfl,hG⟩))
   ·obtain ⟨⟨mg2,rfl⟩,na,nb,out,m,ac,bc,rfl,g1,g2,g3,g4⟩:=hJ
    dsimp only
    have l1:=g1.1
    have l2:=g1.2.1
    obtain ⟨y,hy,Xy⟩:=getB (nb - 1) (by omega)
    refine bI (fun hm=>?_) fun hm=>?_
    all_goals
     refine Q5 (Uc ?_)
     refine Q5 (cN hy ?_)
     refine Q5 (u3 hC rfl (b:=0) (n:=na) (h:=na - 1) (by omega) (by omega) hXA Xy (hA.part _ _) fun t ht1 ht2=>?_)
     dsimp only
     have g5:=g1.gallA (t:=t) hy (by omega) ht1 fun j x h1 h2 hx=>by
      have:=ht2 j x h2 (by rw [T9];exact hx)
      omega
     have nx:∀ x,1<=t->A[t - 1]? = some x->r x<=r y:=fun x h1 hx=>(ht2 (t - 1) x (by omega) (by rw [T9];exact hx)).mpr (by omega)
     rw [<- BC] at g5
     refine bI (fun hk0=>?_) fun hk0=>bI (fun he=>?_) fun he=>?_
     rotate_left 2
     ·rw [beq_iff_eq] at he
      refine Rb ⟨rfl,⟨_,rfl⟩,.inl ⟨_,rfl,?_⟩⟩
      rw [iL]
      exact g5.endA he
     have t0:na<=na:=Q0 _
     have t1:=g1
     have t2:=g2
     have t3:∀ x,A[na - 1]? = some x->r x<=r y:=fun x hx=>by
      have e:t=na:=by omega
      rw [e] at nx
      exact nx x g2 hx
     generalize hout:out=ou at t1 ⊢
     generalize hna:(na:Nat)=n1 at t0 t1 t2 t3 ⊢
     rw [<- hna] at t0
     rotate_left
     rw [beq_iff_eq] at he
     have t0:t<=na:=ht1
     have t1:=g5
     have t2:1<=t:=by omega
     have t3:∀ x,A[t - 1]? = some x->r x<=r y:=fun x hx=>nx x t2 hx
     generalize out++(A.toArray.extract t na).reverse=ou at t1 ⊢
     generalize ht':(t:Nat)=n1 at t0 t1 t2 t3 ⊢
     all_goals
      obtain ⟨x,hx,Xx⟩:=getA (n1 - 1) (by omega)
      have t5:=t1.pushB hx hy t2 (by omega) (t3 x hx)
      rw [<- S0] at t5
      refine Q5 (cN hy ?_)
      refine bI (fun hq=>?_) fun hq=>?_
      rotate_left
      ·rw [beq_iff_eq] at hq
       refine Rb ⟨rfl,⟨_,rfl⟩,.inl ⟨_,rfl,?_⟩⟩
       rw [iL]
       exact t5.last hq hf
      rw [beq_iff_eq] at hq
      refine Q5 (cN hx ?_)
      refine Q5 (u4 hC rfl (b:=0) (n:=nb - 1) (h:=nb - 1 - 1) (by omega) (by omega) hXB Xx (hB.part _ _) fun u eN hu2=>?_)
      dsimp only
      have u5:=t5.gallB (t:=u) hx t2 eN fun j z h1 h2 hz=>by
       have:=hu2 j z h2 (by rw [T9];exact hz)
       omega
      have nz:∀ z,1<=u->B[u - 1]? = some z->r z<=r x:=fun z h1 hz=>Wl ((hu2 (u - 1) z (by omega) (by rw [T9];exact hz)).mpr (by omega))
      rw [<- BC] at u5
      refine bI (fun hk1=>?_) fun hk1=>bI (fun hb1=>bI (fun hb2=>?_) fun hb2=>?_) fun hb1=>?_
      rotate_left 2
      ·rw [beq_iff_eq] at hb2
       refine Rb ⟨rfl,⟨_,rfl⟩,.inl ⟨_,rfl,?_⟩⟩
       rw [iL]
       exact u5.endB hb2
      ·rw [beq_iff_eq] at hb1
       refine Rb ⟨rfl,⟨_,rfl⟩,.inl ⟨_,rfl,?_⟩⟩
       rw [iL]
       exact u5.last hb1 hf
      have v0:nb - 1<nb:=by omega
      have v1:=t5
      have v2:2<=nb - 1:=by omega
      have v3:∀ z,B[nb - 1 - 1]? = some z->r z<=r x:=fun z hz=>by
       have e:u=nb - 1:=by omega
       rw [e] at nz
       exact nz z (by omega) hz
      generalize ou.push y=oz at v1 ⊢
      generalize nb - 1=n2 at v0 v1 v2 v3 ⊢
      rotate_left
      rw [beq_iff_eq] at hb1 hb2
      have v0:u<nb:=by omega
      have v1:=u5
      have v2:2<=u:=by omega
      have v3:∀ z,B[u - 1]? = some z->r z<=r x:=fun z hz=>nz z (by omega) hz
      generalize ou.push y++(B.toArray.extract u (nb - 1)).reverse=oz at v1 ⊢
      generalize hu':(u:Nat)=n2 at v0 v1 v2 v3 ⊢
      all_goals
       have l3:=v1.2.1
       obtain ⟨z,hz,Xz⟩:=getB (n2 - 1) (by omega)
       have v5:=v1.pushA hx hz t2 (by omega) (v3 z hz)
       rw [<- S0] at v5
       refine Q5 (cN hx ?_)
       refine bI (fun hw=>?_) fun hw=>?_
       ·rw [beq_iff_eq] at hw
        exact bI (fun _=>Rb ⟨rfl,⟨_,rfl⟩,_,_,_,_,_,_,rfl,v5,by omega,v2,by omega⟩) fun _=>Rb ⟨rfl,⟨_,rfl⟩,.inr ⟨_,_,_,_,_,_,rfl,v5,by omega,v2,by omega⟩⟩
       ·rw [beq_iff_eq] at hw
        refine Rb ⟨rfl,⟨_,rfl⟩,.inl ⟨_,rfl,?_⟩⟩
        rw [iL]
        exact v5.endA hw
   ·obtain ⟨h1,h2⟩:=hJ
    exact ⟨h1,.inr h2⟩
   ·obtain ⟨⟨mg2,rfl⟩,hD⟩:=hD
    obtain ⟨c0,na,nb,out,m,ac,bc⟩:=c
    dsimp only
    rcases hD with ⟨R,e,hR⟩|⟨na',nb',out',m',ac',bc',e,hG⟩
    ·dsimp only at e
     subst e
     exact Rb ⟨rfl,⟨_,rfl⟩,R,rfl,hR⟩
    cases e
    dsimp only
    exact Q5 (Uc (Rb ⟨rfl,⟨_,rfl⟩,_,_,_,_,rfl,hG⟩))
 ·obtain ⟨_,na,nb,out,m,rfl,g1,g2,g3,g4⟩:=hI
  omega
 ·obtain ⟨⟨mg1,rfl⟩,R,e,hR⟩:=hD
  obtain ⟨c0,c1⟩:=c
  dsimp only at e ⊢
  subst e
  exact Rb (q R _ hR)
end
end L3
namespace L3
open PySem L2 PySem.W PyProof.Rows
section
variable {prog:Rk}{w:RG}{A₀:Rw}{E:QL->QM->Prop}{κ:U6}{s:QM}{X:Keyed->Prop}{r:Keyed->Int}{P S c1 c2:List Keyed}
theorem BE {i:Nat}(h:i<c1.length):(P++c1++c2++S)[P.length+i]? = c1[i]?:=by
 rw [Rc,Rc,Rg (by omega),Q9 (by omega)]
 congr 1;omega
theorem BF {i:Nat}(h:i<c2.length):(P++c1++c2++S)[P.length+c1.length+i]? = c2[i]?:=by
 rw [Rc,Rg (by rw [Q8];omega),Q9 (by rw [Q8];omega)]
 congr 1;rw [Q8];omega
theorem K8:((P++c1++c2++S).drop P.length).take c1.length=c1:=by
 rw [Rc,Rc,XZ,XY]
theorem K9:((P++c1++c2++S).drop (P.length+c1.length)).take c2.length=c2:=by
 rw [Rc,a0h (by rw [Q8]),XY]
theorem La {k:Nat}(hk:k<=c1.length):(P++c1++c2++S).toArray.extract (P.length+k) (P.length+c1.length)=(c1.drop k).toArray:=by
 apply Tn.mp
 rw [nZ,<- X0,Rc,Rc,XZ,Xo hk,SD,List.take_left' (by rw [RZ];omega)]
theorem Lb {k:Nat}(hk:k<=c2.length):(P++c1++c2++S).toArray.extract (P.length+c1.length) (P.length+c1.length+k)=(c2.take k).toArray:=by
 apply Tn.mp
 rw [uY,Rc,a0h (by rw [Q8]),SD,Xn hk]
theorem Lc {k l:Nat}{R:List Keyed}(hk:k<=c1.length)(hl:l<=c2.length)(hR:R.length=c1.length - k+l):(R.zipIdx.foldl (fun (a:Array Keyed)(x:Keyed×Nat)=>a.setIfInBounds (P.length+k+x.2) x.1) (P++c1++c2++S).toArray)=(P++(c1.take k++R++c2.drop l)++S).toArray:=by
 apply Tn.mp
 have:=Br R (P++c1++c2++S).toArray (P.length+k) 0 (by simp;omega)
 rw [this,SD,SD,YG,hR]
 have e1:(P++c1++c2++S).take (P.length+k)=P++c1.take k:=by
  rw [Rc,Rc,List.take_append,TM (by omega),Tw,Xn hk]
 have e2:(P++c1++c2++S).drop (P.length+k+(c1.length - k+l))=c2.drop l++S:=by
  rw [show P.length+k+(c1.length - k+l)=(P++c1).length+l by rw [Q8];omega,Rc,<- X0,XZ,Xo hl]
 rw [e1,e2]
 simp
theorem Sr.both {U R V:List Keyed}(hR:Sr r R)(hU:Sr r U)(hV:Sr r V)(h1:∀ x∈U,∀ y∈R,r x<=r y)(h2:∀ x∈R,∀ y∈V,r x<=r y)(h3:∀ x∈U,∀ y∈V,r x<=r y):Sr r (U++R++V):=by
 unfold Sr at *
 rw [Rc,SS]
 refine ⟨hU,?_,fun x hx y hy=>?_⟩
 ·rw [SS]
  exact ⟨hR,hV,h2⟩
 ·rcases Sb.mp hy with hy|hy
  ·exact h1 x hx y hy
  ·exact h3 x hx y hy
theorem Sr.at {l:List Keyed}(h:Sr r l){i j:Nat}{x y:Keyed}(hij:i<=j)(hx:l[i]? = some x)(hy:l[j]? = some y):r x<=r y:=by
 obtain ⟨h1,rfl⟩:=QN.mp hx
 obtain ⟨h2,rfl⟩:=QN.mp hy
 by_cases e:i=j
 ·subst e;exact Xu _
 ·exact RB.mp h i j h1 h2 (by omega)
theorem mJ {l:List Keyed}{k:Nat}{x:Keyed}(h:x∈l.take k):∃ j,j<k/\l[j]? = some x:=by
 have:=By (l:=l) (i:=0) (k:=k) (x:=x) (by rw [Uh];exact h)
 obtain ⟨j,h1,h2⟩:=this
 exact ⟨j,h1,by rw [T9] at h2;exact h2⟩
theorem mK {l:List Keyed}{k:Nat}{x:Keyed}(h:x∈l.drop k):∃ j,k<=j/\l[j]? = some x:=by
 obtain ⟨j,hj,e⟩:=TK h
 exact ⟨k+j,by omega,by rw [<- e,ZM,QV]⟩
theorem Ld (hC:eB prog w A₀ κ s X (lr r))(hX:∀ x∈P++c1++c2++S,X x)(h1:Sr r c1)(h2:Sr r c2)(l1:0<c1.length)(l2:0<c2.length){pd:Array (Nat×Nat×Nat)}{mg i w1 w2:Nat}(p1:pd[i]? = some (P.length,c1.length,w1))(p2:pd[i+1]? = some (P.length+c1.length,c2.length,w2))
  {Q:Bool->Tp->QM->Prop}(q:∀ c mg',Sr r c->c.Perm (c1++c2)->Q true (Ry κ (P++c++S).toArray ((pd.setIfInBounds i (P.length,c1.length+c2.length,w1)).eraseIdxIfInBounds (i+1)) mg' none) s) :
  Vv (Rl prog w) A₀ E (a0a i) Q (Ry κ (P++c1++c2++S).toArray pd mg none) s:=by
 unfold a0a
 refine Q5 (Vu ?_)
 dsimp only
 simp only [p1,p2]
 refine Q5 (K1 ?_)
 have gA:∀ j,j<c1.length->c1[j]? = some (c1.getD j (.none,.none)):=fun j hj=>by
  rw [Rv,QV hj];rfl
 have gB:∀ j,j<c2.length->c2[j]? = some (c2.getD j (.none,.none)):=fun j hj=>by
  rw [Rv,QV hj];rfl
 have hX1:∀ x∈c1,X x:=fun x hx=>hX x (by simp [hx])
 have hX2:∀ x∈c2,X x:=fun x hx=>hX x (by simp [hx])
 have hlen:(P++c1++c2++S).length=P.length+c1.length+c2.length+S.length:=by simp;omega
 have b0:=gB 0 l2
 refine Q5 (cN (x:=c2.getD 0 (.none,.none)) (by rw [<- b0];exact BF l2) ?_)
 refine Q5 (u3 hC rfl (b:=P.length) (n:=c1.length) (h:=0) l1 (by omega) hX (hX2 _ (Rz b0)) (by rw [K8];exact h1) fun k hk1 hk2=>?_)
 have hk3:∀ j x,c1[j]? = some x->(r x<=r (c2.getD 0 (.none,.none))↔j<k):=fun j x hx=>by
  have hj:=(QN.mp hx).1
  exact hk2 j x hj (by rw [BE hj];exact hx)
 generalize c2.getD 0 (.none,.none)=y0 at *
 dsimp only
 have e0:(P++c1++c2++S)=P++(c1++c2)++S:=by simp
  -- all as it is
 have same:(∀ x∈c1,∀ y∈c2,r x<=r y)->Q true (Ry κ (P++c1++c2++S).toArray ((pd.setIfInBounds i (P.length,c1.length+c2.length,w1)).eraseIdxIfInBounds (i+1)) mg none) s:=fun h=>by
  rw [e0]
  exact q _ _ (by unfold Sr at *;rw [SS];exact ⟨h1,h2,h⟩) (UX _)
 refine bI (fun he=>?_) fun he=>?_
 rotate_left
 ·rw [beq_iff_eq] at he
  refine Rb (same fun x hx y hy=>?_)
  obtain ⟨j,hj⟩:=UI hx
  obtain ⟨j',hj'⟩:=UI hy
  have a1:=(hk3 j x hj).mpr (by have:=(QN.mp hj).1;omega)
  have a2:=h2.at (Su j') b0 hj'
  omega
 rw [beq_iff_eq] at he
 have z0:=gA (c1.length - 1) (by omega)
 generalize c1.getD (c1.length - 1) (.none,.none)=x1 at *
 refine Q5 (cN (x:=x1) (by rw [show P.length+k+(c1.length - k) - 1=P.length+(c1.length - 1) by omega,BE (by omega)];exact z0) ?_)
 refine Q5 (u4 hC rfl (b:=P.length+c1.length) (n:=c2.length) (h:=c2.length - 1) (by omega) (by omega) hX (hX1 _ (Rz z0)) (by rw [K9];exact h2) fun l hl1 hl2=>?_)
 have hl3:∀ j x,c2[j]? = some x->(r x<r x1↔j<l):=fun j x hx=>by
  have hj:=(QN.mp hx).1
  exact hl2 j x hj (by rw [BF hj];exact hx)
 dsimp only
 refine bI (fun hf=>?_) fun hf=>?_
 rotate_left
 ·rw [beq_iff_eq] at hf
  refine Rb (same fun x hx y hy=>?_)
  obtain ⟨j,hj⟩:=UI hx
  obtain ⟨j',hj'⟩:=UI hy
  have a1:=h1.at (by have:=(QN.mp hj).1;omega) hj z0
  have a2:=hl3 j' y hj'
  omega
 rw [beq_iff_eq] at hf
 rw [La hk1,Lb hl1]
 have hA:Sr r (c1.drop k):=SX (V3 _ _) h1
 have hB:Sr r (c2.take l):=SX (Uw _ _) h2
 have hf1:∀ y,(c2.take l)[0]? = some y->∀ x∈c1.drop k,r y<=r x:=fun y hy x hx=>by
  rw [Sv (by omega),b0] at hy
  cases hy
  obtain ⟨j,hj,e⟩:=mK hx
  have:=hk3 j x e
  omega
 have hl4:∀ x,(c1.drop k)[(c1.drop k).length - 1]? = some x->∀ y∈c2.take l,r y<=r x:=fun x hx y hy=>by
  rw [RZ,Um,show k+(c1.length - k - 1)=c1.length - 1 by omega,z0] at hx
  cases hx
  obtain ⟨j,hj,e⟩:=mJ hy
  have:=hl3 j y e
  omega
 have done:∀ (R:Array Keyed)(mg':Nat),Fi r (c1.drop k) (c2.take l) R.toList->Q true (Ry κ (R.toList.zipIdx.foldl (fun (a:Array Keyed)(x:Keyed×Nat)=>a.setIfInBounds (P.length+k+x.2) x.1) (P++c1++c2++S).toArray) ((pd.setIfInBounds i (P.length,c1.length+c2.length,w1)).eraseIdxIfInBounds (i+1)) mg' none) s:=fun R mg' hR=>by
  obtain ⟨f1,f2⟩:=hR
  have hRl:=f1.length_eq
  rw [Q8,RZ,RC] at hRl
  rw [Lc hk1 hl1 (by omega)]
  have inR:∀ z∈R.toList,z∈c1.drop k\/z∈c2.take l:=fun z hz=>Sb.mp (f1.mem_iff.mp hz)
  refine q _ _ (f2.both (SX (Uw _ _) h1) (SX (V3 _ _) h2) (fun x hx y hy=>?_) (fun x hx y hy=>?_) fun x hx y hy=>?_) ?_
  ·obtain ⟨j,hj,e⟩:=mJ hx
   rcases inR y hy with hy|hy
   ·obtain ⟨j',hj',e'⟩:=mK hy
    exact h1.at (by omega) e e'
   ·obtain ⟨j',hj',e'⟩:=mJ hy
    have a1:=(hk3 j x e).mpr hj
    have a2:=h2.at (Su j') b0 e'
    omega
  ·obtain ⟨j',hj',e'⟩:=mK hy
   rcases inR x hx with hx|hx
   ·obtain ⟨j,hj,e⟩:=mK hx
    have a1:=h1.at (by have:=(QN.mp e).1;omega) e z0
    have a2:=hl3 j' y e'
    omega
   ·obtain ⟨j,hj,e⟩:=mJ hx
    exact h2.at (by omega) e e'
  ·obtain ⟨j,hj,e⟩:=mJ hx
   obtain ⟨j',hj',e'⟩:=mK hy
   have a1:=(hk3 j x e).mpr hj
   have a2:=h2.at (Su j') b0 e'
   omega
  ·have e1:c1++c2=c1.take k++(c1.drop k++c2.take l)++c2.drop l:=by
    rw [<- Rc,RT,Rc,RT]
   rw [e1]
   exact ((f1.append_left _).append_right _)
 have d1:0<(c1.drop k).length:=by rw [RZ];omega
 have d2:0<(c2.take l).length:=by rw [RC];omega
 refine bI (fun _=>?_) fun _=>?_
 ·exact Q5 (K7 hC (fun x hx=>hX1 x (YW hx)) (fun x hx=>hX2 x (Wv hx)) hA hB d1 d2 hf1 hl4 fun R mg' hR=>Q5 (Uc (Q5 (Vu (Rb (done R mg' hR))))))
 ·exact Q5 (K6 hC (fun x hx=>hX1 x (YW hx)) (fun x hx=>hX2 x (Wv hx)) hA hB d1 d2 hf1 hl4 fun R mg' hR=>Q5 (Uc (Q5 (Vu (Rb (done R mg' hR))))))
end
end L3
namespace L3
open PySem L2 PySem.W PyProof.Rows
section
variable {prog:Rk}{w:RG}{A₀:Rw}{E:QL->QM->Prop}{κ:U6}{s:QM}{X:Keyed->Prop}{r:Keyed->Int}{P T S:List Keyed}{pd:Array (Nat×Nat×Nat)}{mg:Nat}
noncomputable def kr (r:Keyed->Int)(T:List Keyed)(i:Nat):Int:=r (T.getD i (.none,.none))
theorem iM {i:Nat}{x:Keyed}(h:T[i]? = some x):kr r T i=r x:=by
 unfold kr
 rw [Rv,h]
 rfl
theorem u6 {i:Nat}(h:i<T.length):T[i]? = some (T.getD i (.none,.none)):=by
 rw [Rv,QV h];rfl
theorem mL (hC:eB prog w A₀ κ s X (lr r))(hX:∀ x∈T,X x){i j:Nat}(hi:i<T.length)(hj:j<T.length){Q:Option Bool->Tp->QM->Prop}(q:Q (some (decide (kr r T i<kr r T j))) (Ry κ (P++T).toArray pd mg none) s) :
  Vv (Rl prog w) A₀ E (ltAt' (P.length+i) (P.length+j)) Q (Ry κ (P++T).toArray pd mg none) s:=by
 have e:∀ i,i<T.length->(Zi (Ry κ (P++T).toArray pd mg none))[P.length+i]? = some (T.getD i (.none,.none)):=fun i hi=>by
  show (P++T).toArray[P.length+i]? = _
  rw [RU,Rg (by omega),Tw]
  exact u6 hi
 exact K2 hC rfl (e i hi) (e j hj) (hX _ (Rz (u6 hi))) (hX _ (Rz (u6 hj))) q
theorem u7 {n:Nat}(h:∀ j,j+1<n->kr r T j<=kr r T (j+1)):∀ {i j:Nat},i<=j->j<n->kr r T i<=kr r T j
 | i,0,h1,_=>by rw [Nat.le_zero.mp h1];exact Xu _
 | i,j+1,h1,h2=>by
  by_cases e:i=j+1
  ·rw [e];exact Xu _
  ·have a:=u7 h (i:=i) (j:=j) (by omega) (by omega)
   have b:=h j h2
   omega
theorem BG {n:Nat}(hn:n<=T.length)(h:∀ j,j+1<n->kr r T j<=kr r T (j+1)):Sr r (T.take n):=by
 refine RB.mpr fun i j hi hj hij=>?_
 rw [RC] at hi hj
 have:=u7 h (i:=i) (j:=j) (by omega) (by omega)
 rw [iM (QV (show i<T.length by omega)),iM (QV (show j<T.length by omega))] at this
 rw [W2,W2]
 exact this
theorem Le (P U V:List Keyed):a2b (P++U++V).toArray P.length (P.length+U.length) ((P.length+U.length - P.length) / 2)=(P++U.reverse++V).toArray:=by
 apply Tn.mp
 apply T6
 intro k
 rw [Sx,a0l (by simp),SD]
 by_cases h:P.length<=k/\k<P.length+U.length
 ·have e1:∀ (W:List Keyed)(m:Nat),W.length=U.length->P.length<=m->m<P.length+U.length->(P++W++V)[m]? = W[m - P.length]?:=fun W m hW h1 h2=>by
   rw [Rc,Rg h1,Q9 (by omega)]
  rw [if_pos h,RU,e1 U _ rfl (by omega) (by omega),e1 U.reverse k (by rw [SF]) h.1 h.2,SA (by omega)]
  congr 1
  omega
 ·rw [if_neg h,RU]
  by_cases h1:k<P.length
  ·rw [Rc,Rc,Q9 h1,Q9 h1]
  ·rw [Rg (by rw [Q8];omega),Rg (by rw [Q8,SF];omega)]
   simp
noncomputable def Dis (r:Keyed->Int)(T:List Keyed):Prop:=T.Pairwise fun x y=>r x≠r y
theorem Dis.at (h:Dis r T){i j:Nat}(hi:i<T.length)(hj:j<T.length)(hij:i≠j):kr r T i≠kr r T j:=by
 rw [iM (QV hi),iM (QV hj)]
 have:=RB.mp h
 by_cases l:i<j
 ·exact this i j hi hj l
 ·exact (this j i hj hi (by omega)).symm
theorem Lf (hC:eB prog w A₀ κ s X (lr r))(hX:∀ x∈T,X x)(hD:Dis r T)(hT:0<T.length){Q:Option Nat->Tp->QM->Prop}
  (q:∀ c t,0<c.length->Sr r c->(c++t).Perm T->Q (some c.length) (Ry κ (P++(c++t)).toArray pd mg none) s):Vv (Rl prog w) A₀ E (countRun' P.length T.length) Q (Ry κ (P++T).toArray pd mg none) s:=by
 have take_:∀ n,0<n->n<=T.length->(∀ j,j+1<n->kr r T j<=kr r T (j+1))->Q (some n) (Ry κ (P++T).toArray pd mg none) s:=fun n h0 hn h=>by
  have:=q (T.take n) (T.drop n) (by rw [RC];omega) (BG hn h) (by rw [RT])
  rwa [RT,RC,Wm hn] at this
 unfold countRun'
 refine Q5 (S5 (iJ (fun i c=>c=(none,i+1)/\∀ j,j+1<i+1->kr r T j<=kr r T (j+1)) (fun c=>∃ n,c=(none,n)/\0<n/\n<=T.length/\(∀ j,j+1<n->kr r T j<=kr r T (j+1))/\(n<T.length->kr r T n<kr r T (n - 1))) (T.length - 1) (fun i x c hi hI=>?_) (fun c hI=>?_) (fun c hDn=>?_) _ 0 _ (by simp) ⟨rfl,fun j hj=>by omega⟩))
 ·obtain ⟨rfl,hI⟩:=hI
  dsimp only
  refine Q5 (mL hC hX (i:=i+1) (j:=i) (by omega) (by omega) ?_)
  dsimp only
  refine bI (fun hc=>?_) fun hc=>?_
  ·rw [decide_eq_true_eq] at hc
   refine Rb ⟨rfl,rfl,rfl,fun j hj=>?_⟩
   by_cases e:j=i
   ·subst e;omega
   ·exact hI j (by omega)
  ·rw [decide_eq_true_eq] at hc
   exact Rb ⟨rfl,rfl,i+1,rfl,by omega,by omega,hI,fun _=>hc⟩
 ·obtain ⟨rfl,hI⟩:=hI
  exact ⟨_,rfl,by omega,by omega,hI,fun h=>by omega⟩
 ·obtain ⟨n,rfl,h0,hn,hI,hlt⟩:=hDn
  dsimp only
  refine bI (fun he=>?_) fun he=>?_
  rotate_left
  ·exact Rb (take_ n h0 hn hI)
  rw [beq_iff_eq] at he
  refine bI (fun h1=>?_) fun h1=>?_
  rotate_left
  ·-- it rose
   have hlt0:kr r T 0<kr r T (n - 1):=by
    have a:=u7 hI (i:=0) (j:=n - 1) (by omega) (by omega)
    have b:=hD.at (i:=0) (j:=n - 1) (by omega) (by omega) (by omega)
    omega
   have l0:Vv (Rl prog w) A₀ E (ltAt' P.length (P.length+n - 1)) (fun b st s'=>b=some true/\st=Ry κ (P++T).toArray pd mg none/\s'=s) (Ry κ (P++T).toArray pd mg none) s:=by
    have:=mL (prog:=prog) (w:=w) (A₀:=A₀) (E:=E) (P:=P) (pd:=pd) (mg:=mg) hC hX (i:=0) (j:=n - 1) (by omega) (by omega) (Q:=fun b st s'=>b=some true/\st=Ry κ (P++T).toArray pd mg none/\s'=s) ⟨by rw [decide_eq_true hlt0],rfl,rfl⟩
    rw [show P.length+n - 1=P.length+(n - 1) by omega]
    exact this
   refine Q5 (RV l0 (fun b s' hb=>?_) fun _ _ e=>e)
   obtain ⟨b,st'⟩:=b
   obtain ⟨rfl,rfl,rfl⟩:=hb
   dsimp only
   rw [if_pos rfl]
   exact Rb (take_ n h0 hn hI)
  have e1:n=1:=by omega
  subst e1
  have hd0:=hlt (by omega)
  refine Q5 (Ws (Uj ?_))
  refine Q5 (S5 (iJ (fun i c=>c=(none,i+2,0)/\∀ j,j+1<i+2->kr r T (j+1)<kr r T j) (fun c=>∃ n,c=(none,n,0)/\2<=n/\n<=T.length/\∀ j,j+1<n->kr r T (j+1)<kr r T j) (T.length - 2) (fun i x c hi hI=>?_) (fun c hI=>?_) (fun c hDn=>?_) _ 0 _ (by simp) ⟨rfl,fun j hj=>by rw [show j=0 by omega];exact hd0⟩))
  ·obtain ⟨rfl,hI⟩:=hI
   dsimp only
   refine Q5 (mL hC hX (i:=i+2) (j:=i+1) (by omega) (by omega) ?_)
   dsimp only
   by_cases hc:kr r T (i+2)<kr r T (i+1)
   ·rw [decide_eq_true hc,if_pos rfl,if_neg (by omega)]
    refine Rb ⟨rfl,rfl,rfl,fun j hj=>?_⟩
    by_cases e:j=i+1
    ·subst e;exact hc
    ·exact hI j (by omega)
   ·rw [decide_eq_false hc,if_neg RR]
    have hb:=hD.at (i:=i+1) (j:=i+2) (by omega) (by omega) (by omega)
    refine Q5 (mL hC hX (i:=i+1) (j:=i+2) (by omega) (by omega) ?_)
    dsimp only
    rw [decide_eq_true (show kr r T (i+1)<kr r T (i+2) by omega),if_pos rfl]
    exact Rb ⟨rfl,rfl,i+2,rfl,by omega,by omega,hI⟩
  ·obtain ⟨rfl,hI⟩:=hI
   exact ⟨T.length,by rw [show T.length - 2+2=T.length by omega],by omega,Q0 _,fun j hj=>hI j (by omega)⟩
  ·obtain ⟨n,rfl,h2,hn,hI⟩:=hDn
   dsimp only
   rw [if_neg (by omega)]
   refine Q5 (K5 ?_)
      -- turned about
   have eT:P++T=P++T.take n++T.drop n:=by rw [Rc,RT]
   have hln:(T.take n).length=n:=by rw [RC];omega
   have em:a2b (P++T).toArray P.length (P.length+n) ((P.length+n - P.length) / 2)=(P++((T.take n).reverse++T.drop n)).toArray:=by
    have:=Le P (T.take n) (T.drop n)
    rw [hln] at this
    rw [eT,this,Rc]
   show Vv _ _ _ _ _ (Ry κ (a2b (P++T).toArray P.length (P.length+n) ((P.length+n - P.length) / 2)) pd mg none) s
   rw [em]
   have hU:((T.take n).reverse++T.drop n).length=T.length:=by simp;omega
   have hpm:((T.take n).reverse++T.drop n).Perm T:=by
    refine ((Vf _).append_right _).trans ?_
    rw [RT]
   have hXU:∀ x∈(T.take n).reverse++T.drop n,X x:=fun x hx=>hX x (hpm.mem_iff.mp hx)
   have hasc:∀ j,j+1<n->kr r ((T.take n).reverse++T.drop n) j<=kr r ((T.take n).reverse++T.drop n) (j+1):=fun j hj=>by
    have at_:∀ i,i<n->kr r ((T.take n).reverse++T.drop n) i=kr r T (n - 1 - i):=fun i hi=>by
     have:((T.take n).reverse++T.drop n)[i]? = T[n - 1 - i]?:=by
      rw [Q9 (by rw [SF,hln];exact hi),SA (by omega),hln,Sv (by omega)]
     unfold kr
     rw [Rv,Rv,this]
    rw [at_ j (by omega),at_ (j+1) hj]
    have:=hI (n - 1 - (j+1)) (by omega)
    rw [show n - 1 - (j+1)+1=n - 1 - j by omega] at this
    omega
   generalize (T.take n).reverse++T.drop n=U at *
   refine Q5 (S5 (iJ (fun i c=>c=(none,n+i)/\∀ j,j+1<n+i->kr r U j<=kr r U (j+1)) (fun c=>∃ m,c=(none,m)/\0<m/\m<=T.length/\∀ j,j+1<m->kr r U j<=kr r U (j+1)) (T.length - n) (fun i x c hi hI=>?_) (fun c hI=>?_) (fun c hDn=>?_) _ 0 _ (by simp) ⟨rfl,hasc⟩))
   ·obtain ⟨rfl,hI⟩:=hI
    dsimp only
    have l0:Vv (Rl prog w) A₀ E (ltAt' (P.length+(n+i)) (P.length+(n+i) - 1)) (fun b st s'=>b=some (decide (kr r U (n+i)<kr r U (n+i - 1)))/\st=Ry κ (P++U).toArray pd mg none/\s'=s) (Ry κ (P++U).toArray pd mg none) s:=by
     rw [show P.length+(n+i) - 1=P.length+(n+i - 1) by omega]
     exact mL hC hXU (by omega) (by omega) ⟨rfl,rfl,rfl⟩
    refine Q5 (RV l0 (fun b s' hb=>?_) fun _ _ e=>e)
    obtain ⟨b,st'⟩:=b
    obtain ⟨rfl,rfl,rfl⟩:=hb
    dsimp only
    refine bI (fun hc=>?_) fun hc=>?_
    ·rw [decide_eq_true_eq] at hc
     refine Rb ⟨rfl,rfl,rfl,fun j hj=>?_⟩
     by_cases e:j+1=n+i
     ·rw [show j=n+i - 1 by omega,show n+i - 1+1=n+i by omega];omega
     ·exact hI j (by omega)
    ·exact Rb ⟨rfl,rfl,_,rfl,by omega,by omega,hI⟩
   ·obtain ⟨rfl,hI⟩:=hI
    exact ⟨_,rfl,by omega,by omega,hI⟩
   ·obtain ⟨m,rfl,h0,hm,hI⟩:=hDn
    dsimp only
    have:=q (U.take m) (U.drop m) (by rw [RC];omega) (BG (by omega) hI) (by rw [RT];exact hpm)
    rw [RT,RC,Wm (by omega)] at this
    exact Rb this
end
end L3
namespace L3
open PySem L2 PySem.W PyProof.Rows
section
variable {prog:Rk}{w:RG}{A₀:Rw}{E:QL->QM->Prop}{κ:U6}{s:QM}{X:Keyed->Prop}{r:Keyed->Int}{P:List Keyed}{pd:Array (Nat×Nat×Nat)}{mg:Nat}
theorem Lg (P C V:List Keyed)(x:Keyed){l:Nat}(hl:l<=C.length):bubble (P++(C++x::V)).toArray (P.length+C.length) (P.length+C.length - (P.length+l))=(P++(C.take l++x::C.drop l++V)).toArray:=by
 apply Tn.mp
 apply T6
 intro k
 rw [Sx,a1t (by simp) _ (by omega),SD]
 have e0:∀ (W:List Keyed)(m:Nat),(P++W)[P.length+m]? = W[m]?:=fun W m=>by
  rw [Rg (by omega),Tw]
 have hlt:(C.take l).length=l:=by rw [RC];omega
 by_cases h1:k<P.length
 ·rw [if_neg (by omega),if_neg (by omega),RU,Q9 h1,Q9 h1]
 obtain ⟨m,rfl⟩:∃ m,k=P.length+m:=⟨k - P.length,by omega⟩
 rw [e0]
 by_cases h2:m=l
 ·subst h2
  rw [if_pos (by omega),RU,e0,Rg (Q0 _),Vl,Rc,Rg (by omega),hlt,Vl]
  rfl
 rw [if_neg (by omega)]
 by_cases h3:l<m/\m<=C.length
 ·rw [if_pos (by omega),RU,show P.length+m - 1=P.length+(m - 1) by omega,e0,Q9 (by omega),Rc,Rg (by omega),hlt,SY,show m - l=(m - l - 1)+1 by omega,U2,Q9 (by rw [RZ];omega),Um]
  congr 1
  omega
 rw [if_neg (by omega),RU,e0]
 by_cases h4:m<l
 ·rw [Q9 (by omega),Rc,Q9 (by omega),Sv h4]
 ·rw [Rg (by omega),Rc,Rg (by omega),hlt,SY,show m - C.length=(m - C.length - 1)+1 by omega,show m - l=(m - l - 1)+1 by omega,U2,U2,Rg (by rw [RZ];omega),RZ]
  congr 1
  omega
theorem Lh (hC:eB prog w A₀ κ s X (lr r)){c D t:List Keyed}(hX:∀ x∈c++D++t,X x)(hc:Sr r c)(h0:0<c.length){Q:Bool->Tp->QM->Prop}
  (q:∀ c',Sr r c'->c'.Perm (c++D)->Q true (Ry κ (P++(c'++t)).toArray pd mg none) s):Vv (Rl prog w) A₀ E (binarySort' P.length (c.length+D.length) c.length) Q (Ry κ (P++(c++D++t)).toArray pd mg none) s:=by
 unfold binarySort'
 refine Q5 (S5 ?_)
 rw [Nat.max_eq_left h0]
 refine (fH (fun i b st=>b=(none,())/\∃ c' D',st=Ry κ (P++(c'++(D'++t))).toArray pd mg none/\Sr r c'/\c'.length=c.length+i/\(c'++D').Perm (c++D)) (fun b st=>b=(none,())/\∃ c',st=Ry κ (P++(c'++t)).toArray pd mg none/\Sr r c'/\c'.Perm (c++D)) c.length D.length (fun i b st hi hI=>?_) (fun b st hI=>?_) (fun b st hDn=>?_) (c.length+D.length - c.length) 0 _ _ (by omega) ⟨rfl,c,D,by rw [Rc],hc,rfl,UX _⟩)
 ·obtain ⟨rfl,c',D',rfl,h1,h2,h3⟩:=hI
  have hl:=h3.length_eq
  rw [Q8,Q8] at hl
  match D',hl,h3 with
  | [],hl,_=>rw [Tz] at hl;omega
  | x::D',hl,h3=>
   dsimp only
   have hXx:∀ z∈c'++x::(D'++t),X z:=fun z hz=>hX z (by
    have:z∈(c'++x::D')++t:=by simpa using hz
    rcases Sb.mp this with h|h
    ·exact Sb.mpr (.inl (h3.mem_iff.mp h))
    ·exact Sb.mpr (.inr h))
   have hk:c.length+i=c'.length:=h2.symm
   rw [hk]
   have hkx:kr r (c'++x::(D'++t)) c'.length=r x:=iM (by rw [Rg (Q0 _),Vl];rfl)
   have hkm:∀ m,m<c'.length->kr r (c'++x::(D'++t)) m=kr r c' m:=fun m hm=>by
    unfold kr
    rw [Rv,Rv,Q9 hm]
   have eL:c'++(x::D'++t)=c'++x::(D'++t):=rfl
   have mono:∀ {m m':Nat},m<=m'->m'<c'.length->kr r c' m<=kr r c' m':=fun {m m'} h h'=>by
    rw [iM (QV (show m<c'.length by omega)),iM (QV h')]
    exact h1.at h (QV _) (QV _)
   refine Q5 (S5 (iJ (fun j b=>∃ l u,b=(none,l,u)/\l<=u/\u<=c'.length/\u - l<=c'.length - j/\(∀ m,m<l->kr r c' m<=r x)/\∀ m,u<=m->m<c'.length->r x<kr r c' m) (fun b=>∃ l,b=(none,l,l)/\l<=c'.length/\(∀ m,m<l->kr r c' m<=r x)/\∀ m,l<=m->m<c'.length->r x<kr r c' m) c'.length (fun j y b hj hJ=>?_) (fun b hJ=>?_) (fun b hDn=>?_) _ 0 _ (by simp) ⟨0,c'.length,rfl,by omega,Q0 _,by omega,fun m hm=>by omega,fun m h h'=>by omega⟩))
   ·obtain ⟨l,u,rfl,j1,j2,j3,j4,j5⟩:=hJ
    dsimp only
    refine bI (fun hlu=>?_) fun hlu=>?_
    ·refine Q5 (mL hC hXx (i:=c'.length) (j:=(l+u) / 2) (by simp) (by simp;omega) ?_)
     rw [hkx,hkm _ (by omega)]
     dsimp only
     refine bI (fun hc=>?_) fun hc=>?_
     ·rw [decide_eq_true_eq] at hc
      exact Rb ⟨rfl,rfl,(l+u) / 2+1,u,rfl,by omega,j2,by omega,fun m hm=>by have:=mono (m:=m) (m':=(l+u) / 2) (by omega) (by omega);omega,j5⟩
     ·rw [decide_eq_true_eq] at hc
      exact Rb ⟨rfl,rfl,l,(l+u) / 2,rfl,by omega,by omega,by omega,j4,fun m h h'=>by have:=mono (m:=(l+u) / 2) (m':=m) h h';omega⟩
    ·have e:u=l:=by omega
     subst e
     exact Rb ⟨rfl,rfl,_,rfl,j2,j4,j5⟩
   ·obtain ⟨l,u,rfl,j1,j2,j3,j4,j5⟩:=hJ
    have e:u=l:=by omega
    subst e
    exact ⟨_,rfl,j2,j4,j5⟩
   ·obtain ⟨l,rfl,j2,j4,j5⟩:=hDn
    dsimp only
    have mv:∀ {Q':Unit->Tp->QM->Prop},Q' () (Ry κ (P++((c'.take l++x::c'.drop l)++(D'++t))).toArray pd mg none) s->Vv (Rl prog w) A₀ E (moveDown' (P.length+c'.length) (P.length+l)) Q' (Ry κ (P++(c'++x::(D'++t))).toArray pd mg none) s:=fun {Q'} h=>by
     rw [moveDown'_eq]
     refine Uc ?_
     show Q' () (Ry κ (bubble (P++(c'++x::(D'++t))).toArray (P.length+c'.length) (P.length+c'.length - (P.length+l))) pd mg none) s
     rw [Lg P c' (D'++t) x j2]
     exact h
    refine Q5 (mv (Rb ⟨rfl,rfl,c'.take l++x::c'.drop l,D',rfl,?_,?_,?_⟩))
    ·have a1:∀ z∈c'.take l,r z<=r x:=fun z hz=>by
      obtain ⟨m,hm,e⟩:=mJ hz
      rw [<- iM (r:=r) e]
      exact j4 m hm
     have a2:∀ z∈c'.drop l,r x<=r z:=fun z hz=>by
      obtain ⟨m,hm,e⟩:=mK hz
      rw [<- iM (r:=r) e]
      exact Wl (j5 m hm (QN.mp e).1)
     have:=Sr.both (r:=r) (U:=c'.take l) (R:=[x]) (V:=c'.drop l) (by unfold Sr;simp) (SX (Uw _ _) h1) (SX (V3 _ _) h1) (fun y hy z hz=>by rw [RQ.mp hz];exact a1 y hy) (fun y hy z hz=>by rw [RQ.mp hy];exact a2 z hz) (fun y hy z hz=>by have:=a1 y hy;have:=a2 z hz;omega)
     simpa using this
    ·simp;omega
    ·refine YZ ?_ h3
     have:(c'.take l++x::c'.drop l).Perm (c'++[x]):=by
      refine List.perm_middle.trans ?_
      rw [RT]
      exact TR (l₁:=[x])
     have:=this.append_right D'
     simpa using this
 ·obtain ⟨rfl,c',D',rfl,h1,h2,h3⟩:=hI
  have hl:=h3.length_eq
  rw [Q8,Q8] at hl
  have:D'=[]:=Tc.mp (by omega)
  subst this
  rw [SW] at h3
  exact ⟨rfl,c',rfl,h1,h3⟩
 ·obtain ⟨rfl,c',rfl,h1,h3⟩:=hDn
  exact Rb (q c' h1 h3)
end
end L3
namespace L3
open PySem L2 PySem.W PyProof.Rows
noncomputable abbrev dX:=List Keyed×Nat
noncomputable def aO (rs:List dX):List Keyed:=(rs.map (·.1)).flatten
noncomputable def pos:Nat->List dX->List (Nat×Nat×Nat)
 | _,[]=>[]
 | p,(c,w)::t=>(p,c.length,w)::pos (p+c.length) t
theorem f7 (c:List Keyed)(w:Nat)(t:List dX):aO ((c,w)::t)=c++aO t:=rfl
theorem kS (a b:List dX):aO (a++b)=aO a++aO b:=by unfold aO;simp
theorem kT:∀ (a b:List dX)(p:Nat),pos p (a++b)=pos p a++pos (p+(aO a).length) b
 | [],b,p=>rfl
 | (c,w)::a,b,p=>by
  show (p,c.length,w)::pos (p+c.length) (a++b)=_
  rw [kT a b,f7,Q8,Ys]
  rfl
theorem iN:∀ (a:List dX)(p:Nat),(pos p a).length=a.length
 | [],_=>rfl
 | (c,w)::a,p=>by show (pos (p+c.length) a).length+1=_;rw [iN a];rfl
structure Rn (r:Keyed->Int)(L rest:List Keyed)(rs:List dX):Prop where
 ok:∀ p∈rs,Sr r p.1/\0<p.1.length
 pm:(aO rs++rest).Perm L
section
variable {prog:Rk}{w:RG}{A₀:Rw}{E:QL->QM->Prop}{κ:U6}{s:QM}{X:Keyed->Prop}{r:Keyed->Int}{L rest:List Keyed}{mg:Nat}
noncomputable abbrev dP (κ:U6)(rest:List Keyed)(rs:List dX)(mg:Nat):Tp:=Ry κ (aO rs++rest).toArray (pos 0 rs).toArray mg none
theorem Li (hC:eB prog w A₀ κ s X (lr r))(hX:∀ x∈L,X x){pre post:List dX}{c1 c2:List Keyed}{w1 w2:Nat}(h:Rn r L rest (pre++(c1,w1)::(c2,w2)::post)){Q:Bool->Tp->QM->Prop}
  (q:∀ c mg',Rn r L rest (pre++(c,w1)::post)->c.length=c1.length+c2.length->Q true (dP κ rest (pre++(c,w1)::post) mg') s){i:Nat}(hi:i=pre.length) :
  Vv (Rl prog w) A₀ E (a0a i) Q (dP κ rest (pre++(c1,w1)::(c2,w2)::post) mg) s:=by
 subst hi
 obtain ⟨h1,h2⟩:=h
 have o1:=h1 (c1,w1) (by simp)
 have o2:=h1 (c2,w2) (by simp)
 have eL:aO (pre++(c1,w1)::(c2,w2)::post)++rest=aO pre++c1++c2++(aO post++rest):=by
  rw [kS,f7,f7];simp
 have eP:pos 0 (pre++(c1,w1)::(c2,w2)::post)=pos 0 pre++((aO pre).length,c1.length,w1)::((aO pre).length+c1.length,c2.length,w2)::pos ((aO pre).length+c1.length+c2.length) post:=by
  rw [kT,T9];rfl
 unfold dP
 rw [eL,eP]
 refine Ld hC (fun x hx=>hX x (h2.mem_iff.mp (by rw [eL];exact hx))) o1.1 o2.1 o1.2 o2.2 (w1:=w1) (w2:=w2) ?_ ?_ fun c mg' g1 g2=>?_
 ·rw [RU,Rg (by rw [iN];exact Q0 _),iN,Vl]
  rfl
 ·rw [RU,Rg (by rw [iN];omega),iN,Tw]
  rfl
 ·have hl:=g2.length_eq
  rw [Q8] at hl
  have e1:aO pre++c++(aO post++rest)=aO (pre++(c,w1)::post)++rest:=by
   rw [kS,f7];simp
  have e2:((pos 0 pre++((aO pre).length,c1.length,w1)::((aO pre).length+c1.length,c2.length,w2)::pos ((aO pre).length+c1.length+c2.length) post).toArray.setIfInBounds pre.length ((aO pre).length,c1.length+c2.length,w1)).eraseIdxIfInBounds (pre.length+1)=(pos 0 (pre++(c,w1)::post)).toArray:=by
   apply Tn.mp
   have hp:(pos 0 pre).length=pre.length:=iN _ _
   rw [Array.toList_eraseIdxIfInBounds,XT,SD,SD,kT,T9,<- hp,Wn _ _ (Q0 _),Vl,Rf,List.eraseIdx_append_of_length_le (by omega),Tw]
   show _=pos 0 pre++((aO pre).length,c.length,w1)::pos ((aO pre).length+c.length) post
   rw [hl,<- Ys]
   rfl
  rw [e1,e2]
  refine q c mg' ⟨fun p hp=>?_,?_⟩ hl
  ·rcases Sb.mp hp with hp|hp
   ·exact h1 p (by simp [hp])
   ·rcases RD.mp hp with rfl|hp
    ·have:=o1.2
     dsimp only at this
     exact ⟨g1,by dsimp only;omega⟩
    ·exact h1 p (by simp [hp])
  ·rw [<- e1]
   refine YZ ?_ h2
   rw [eL]
   have:=(g2.append_left (aO pre)).append_right (aO post++rest)
   simpa using this
theorem BH (hC:eB prog w A₀ κ s X (lr r))(hX:∀ x∈L,X x){rs:List dX}(h:Rn r L rest rs){i:Nat}(hi:i+1<rs.length){Q:Bool->Tp->QM->Prop}
  (q:∀ rs' mg',Rn r L rest rs'->rs'.length+1=rs.length->(aO rs').length=(aO rs).length->Q true (dP κ rest rs' mg') s):Vv (Rl prog w) A₀ E (a0a i) Q (dP κ rest rs mg) s:=by
 have e:rs=rs.take i++(rs[i].1,rs[i].2)::(rs[i+1].1,rs[i+1].2)::rs.drop (i+1+1):=by
  have e1:=Tj (l:=rs) (i:=i) (by omega)
  have e2:=Tj (l:=rs) (i:=i+1) (by omega)
  have e3:=RT i rs
  rw [e1,e2] at e3
  exact e3.symm
 obtain ⟨pre,c1,w1,c2,w2,post,e',hp⟩:∃ pre c1 w1 c2 w2 post,rs=pre++(c1,w1)::(c2,w2)::post/\i=pre.length:=⟨_,_,_,_,_,_,e,by rw [RC];omega⟩
 subst e'
 refine Li hC hX h (fun c mg' g1 g2=>q _ mg' g1 ?_ ?_) hp
 ·simp
  omega
 ·rw [kS,kS,f7,f7,f7]
  simp
  omega
theorem BI {α:Type}(f:α->α):∀ (l:List α)(x:α),(l++[x]).modify l.length f=l++[f x]
 | [],x=>rfl
 | a::l,x=>by
  show a::(l++[x]).modify l.length f=_
  rw [BI f l x]
  rfl
theorem Lj (rs:List dX)(c:List Keyed)(w:Nat):(pos 0 rs).toArray.push ((aO rs).length,c.length,w)=(pos 0 (rs++[(c,w)])).toArray:=by
 rw [kT,T9]
 apply Tn.mp
 rw [S0]
 rfl
theorem Lk (rs:List dX)(c:List Keyed)(w pw:Nat):((pos 0 (rs++[(c,w)])).toArray.modify ((pos 0 (rs++[(c,w)])).toArray.size - 1) fun x=>(x.1,x.2.1,pw))=(pos 0 (rs++[(c,pw)])).toArray:=by
 rw [kT,kT,T9]
 apply Tn.mp
 have:=BI (fun x:Nat×Nat×Nat=>(x.1,x.2.1,pw)) (pos 0 rs) ((aO rs).length,c.length,w)
 simp [pos]
 exact this
theorem Ll (rs:List dX)(c:List Keyed)(w:Nat):(pos 0 (rs++[(c,w)])).toArray.back? = some ((aO rs).length,c.length,w):=by
 rw [kT,T9]
 simp [pos]
theorem Lm (hC:eB prog w A₀ κ s X (lr r))(hX:∀ x∈L,X x)(hD:Dis r L)(h2:2<=L.length){Q:Unit->Tp->QM->Prop}
  (q:∀ (R:List Keyed)(pd:Array (Nat×Nat×Nat))(mg':Nat),Sr r R->R.Perm L->Q () (Ry κ R.toArray pd mg' none) s):Vv (Rl prog w) A₀ E sortRuns' Q (Ry κ L.toArray #[] mg none) s:=by
 have hsz:(Zi (Ry κ L.toArray #[] mg none)).size=L.length:=QZ
 rw [sortRuns'_eq]
 refine Q5 (Vu ?_)
 dsimp only
 simp only [hsz]
 generalize minRun' L.length L.length 0=mr
 refine Q5 (S5 (fH (fun i b st=>∃ rs rest mg',b=(none,(aO rs).length)/\st=dP κ rest rs mg'/\Rn r L rest rs/\i<=(aO rs).length) (fun b st=>∃ rs mg' n,b=(none,n)/\st=dP κ [] rs mg'/\Rn r L [] rs) 0 L.length (fun i b st hi hI=>?_) (fun b st hI=>?_) (fun b st hDn=>?_) (L.length - 0) 0 _ _ (by omega) ⟨[],L,mg,rfl,rfl,⟨fun p hp=>(by cases hp),UX _⟩,Su _⟩))
 ·obtain ⟨rs,rest,mg1,rfl,rfl,hR,hle⟩:=hI
  have hlen:=hR.pm.length_eq
  rw [Q8] at hlen
  dsimp only
  refine bI (fun hlo=>?_) fun hlo=>?_
  rotate_left
  ·have:rest=[]:=Tc.mp (by omega)
   subst this
   exact Rb ⟨rfl,rs,mg1,_,rfl,rfl,hR⟩
  have hXr:∀ x∈rest,X x:=fun x hx=>hX x (hR.pm.mem_iff.mp (Sb.mpr (.inr hx)))
  have hDr:Dis r rest:=by
   have:Dis r (aO rs++rest):=hD.perm hR.pm.symm fun h=>h.symm
   exact (SS.mp this).2.1
  rw [show L.length - (aO rs).length=rest.length by omega]
  refine Q5 (Lf hC hXr hDr (by omega) fun c t h1 h2 h3=>?_)
  dsimp only
  have hct:=h3.length_eq
  rw [Q8] at hct
  refine bI (fun hmr=>?_) fun hmr=>?_
  rotate_left
  refine Q5 (Ws (Uj ?_))
  have ht:t=t.take (min rest.length mr - c.length)++t.drop (min rest.length mr - c.length):=(RT _ _).symm
  have hD1:(t.take (min rest.length mr - c.length)).length=min rest.length mr - c.length:=by rw [RC];omega
  generalize t.take (min rest.length mr - c.length)=D at ht hD1
  generalize t.drop (min rest.length mr - c.length)=t' at ht
  subst ht
  rw [<- Rc c D t',show min rest.length mr=c.length+D.length by omega]
  refine Q5 (Lh hC (fun x hx=>hXr x (h3.mem_iff.mp (by rw [<- Rc];exact hx))) h2 h1 fun c' g1 g2=>?_)
  have hc':=g2.length_eq
  rw [Q8] at hc'
  rw [<- hc',if_neg (by decide)]
  have k1:0<c'.length:=by omega
  have k2:=g1
  have k3:(c'++t').Perm rest:=(g2.append_right t').trans (by rw [Rc];exact h3)
  clear hc' g2 g1 h3 hct
  revert k1 k2 k3
  revert t'
  revert c'
  intro cc tt k1 k2 k3
  rotate_left
  have k1:=h1
  have k2:=h2
  have k3:=h3
  clear h1 h2 h3 hct hmr
  revert k1 k2 k3
  revert t
  revert c
  intro cc tt k1 k2 k3
  all_goals
   have hcc:=k3.length_eq
   rw [Q8] at hcc
   refine Q5 (Vu ?_)
   have fin:∀ (rs':List dX)(mg':Nat),Rn r L (cc++tt) rs'->(aO rs').length=(aO rs).length->∃ rs'' rest' mg'',((none,(aO rs).length+cc.length):Option Unit×Nat)=(none,(aO rs'').length)/\Ry κ (aO rs'++(cc++tt)).toArray ((pos 0 rs').toArray.push ((aO rs).length,cc.length,0)) mg' none=dP κ rest' rs'' mg''/\Rn r L rest' rs''/\i+1<=(aO rs'').length:=fun rs' mg' g1 g2=>by
    have e1:aO (rs'++[(cc,0)])=aO rs'++cc:=by rw [kS,f7];show _++(cc++[])=_;rw [SW]
    refine ⟨rs'++[(cc,0)],tt,mg',?_,?_,⟨fun p hp=>?_,?_⟩,?_⟩
    ·rw [e1,Q8,g2]
    ·unfold dP
     rw [<- Lj,e1,g2,Rc]
    ·rcases Sb.mp hp with hp|hp
     ·exact g1.ok p hp
     ·rw [RQ.mp hp]
      exact ⟨k2,k1⟩
    ·rw [e1,Rc]
     exact g1.pm
    ·rw [e1,Q8]
     omega
   have hR':Rn r L (cc++tt) rs:=⟨hR.ok,(k3.append_left _).trans hR.pm⟩
   rcases YJ rs with hrs|⟨rs0,⟨cl,wl⟩,hrs⟩
   ·have hb:(X5 (Ry κ (aO rs++(cc++tt)).toArray (pos 0 rs).toArray mg1 none)).back? = none:=by rw [hrs];rfl
    simp only [hb]
    exact Q5 (Uc (Rb ⟨rfl,fin rs mg1 hR' rfl⟩))
   ·rw [YL] at hrs
    have hb:(X5 (Ry κ (aO rs++(cc++tt)).toArray (pos 0 rs).toArray mg1 none)).back? = some ((aO rs0).length,cl.length,wl):=by rw [hrs];exact Ll rs0 cl wl
    simp only [hb]
    generalize power' L.length (2 * (aO rs0).length+cl.length) (2 * (aO rs0).length+cl.length+cl.length+cc.length) L.length=pw
    refine Q5 (S5 (fH (fun j b st=>b=(none,())/\∃ rs' mg',st=dP κ (cc++tt) rs' mg'/\Rn r L (cc++tt) rs'/\rs'≠[]/\(aO rs').length=(aO rs).length) (fun b st=>b=(none,())/\∃ rs' mg',st=dP κ (cc++tt) rs' mg'/\Rn r L (cc++tt) rs'/\rs'≠[]/\(aO rs').length=(aO rs).length) 0 L.length (fun j b st hj hJ=>?_) (fun b st hJ=>hJ) (fun b st hDn=>?_) (L.length - 0) 0 _ _ (by omega) ⟨rfl,rs,mg1,rfl,hR',by rw [hrs];simp,rfl⟩))
    ·obtain ⟨rfl,rs',mg2,rfl,g1,g2,g3⟩:=hJ
     refine Q5 (Vu ?_)
     have hps:(X5 (dP κ (cc++tt) rs' mg2)).size=rs'.length:=by
      show (pos 0 rs').toArray.size=_
      rw [QZ,iN]
     rw [hps]
     have hn0:0<rs'.length:=Y8.mpr g2
     by_cases h1:rs'.length>1
     ·rw [if_pos h1]
      obtain ⟨⟨o1,o2,o3⟩,ho⟩:∃ o,(X5 (dP κ (cc++tt) rs' mg2))[rs'.length - 2]? = some o:=by
       show ∃ o,(pos 0 rs').toArray[rs'.length - 2]? = some o
       rw [RU]
       exact ⟨_,QV (by rw [iN];omega)⟩
      rw [ho]
      dsimp only
      refine bI (fun hp=>?_) fun hp=>?_
      ·refine Q5 (BH hC hX g1 (by omega) fun rs2 mg3 a1 a2 a3=>?_)
       rw [if_neg (by decide)]
       exact Rb ⟨rfl,rfl,rs2,mg3,rfl,a1,fun e=>by rw [e] at a2;simp at a2;omega,by omega⟩
      ·exact Rb ⟨rfl,rfl,rs',mg2,rfl,g1,g2,g3⟩
     ·rw [if_neg h1]
      exact Rb ⟨rfl,rfl,rs',mg2,rfl,g1,g2,g3⟩
    ·obtain ⟨rfl,rs',mg2,rfl,g1,g2,g3⟩:=hDn
     dsimp only
     refine Q5 (Uc ?_)
     rcases YJ rs' with hrs'|⟨rs1,⟨cm,wm⟩,hrs'⟩
     ·exact absurd hrs' g2
     rw [YL] at hrs'
     subst hrs'
     have f1:aO (rs1++[(cm,wm)])=aO (rs1++[(cm,pw)]):=by rw [kS,kS];rfl
     refine Q5 (Uc (Rb ⟨rfl,?_⟩))
     have:=fin (rs1++[(cm,pw)]) mg2 ⟨fun p hp=>?_,by rw [<- f1];exact g1.pm⟩ (by rw [<- f1];exact g3)
     ·rw [<- Lk rs1 cm wm pw,<- f1] at this
      exact this
     ·rcases Sb.mp hp with hp|hp
      ·exact g1.ok p (by simp [hp])
      ·rw [RQ.mp hp]
       exact g1.ok (cm,wm) (by simp)
 ·obtain ⟨rs,rest,mg1,rfl,rfl,hR,hle⟩:=hI
  have hlen:=hR.pm.length_eq
  rw [Q8] at hlen
  have:rest=[]:=Tc.mp (by omega)
  subst this
  exact ⟨rs,mg1,_,rfl,rfl,hR⟩
 ·obtain ⟨rs,mg1,n,rfl,rfl,hR⟩:=hDn
  dsimp only
  have hfl:rs.length<=(aO rs).length:=by
   have:∀ rs:List dX,(∀ p∈rs,0<p.1.length)->rs.length<=(aO rs).length:=by
    intro rs
    induction rs with
    | nil=>intro _;exact Q0 _
    | cons p rs ih=>
     intro h
     obtain ⟨c,w⟩:=p
     have a:=ih fun p hp=>h p (by simp [hp])
     have b:=h (c,w) (by simp)
     dsimp only at b
     rw [f7,Q8,Rq]
     omega
   exact this rs fun p hp=>(hR.ok p hp).2
  have hlen:=hR.pm.length_eq
  rw [Q8,Tz] at hlen
  refine Q5 (S5 (fH (fun i b st=>b=(none,())/\∃ rs mg',st=dP κ [] rs mg'/\Rn r L [] rs/\rs.length+i<=L.length) (fun b st=>b=(none,())/\∃ rs mg',st=dP κ [] rs mg'/\Rn r L [] rs/\rs.length<=1) 0 L.length (fun i b st hi hI=>?_) (fun b st hI=>?_) (fun b st hDn=>?_) (L.length - 0) 0 _ _ (by omega) ⟨rfl,rs,mg1,rfl,hR,by omega⟩))
  ·obtain ⟨rfl,rs,mg2,rfl,hR,hb⟩:=hI
   refine Q5 (Vu ?_)
   have hps:(X5 (dP κ [] rs mg2)).size=rs.length:=by
    show (pos 0 rs).toArray.size=_
    rw [QZ,iN]
   rw [hps]
   refine bI (fun h1=>?_) fun h1=>?_
   ·refine Q5 (BH hC hX hR ?_ fun rs' mg' g1 g2 g3=>?_)
    ·split<;>(try split)<;>omega
    ·rw [if_neg (by decide)]
     exact Rb ⟨rfl,rfl,rs',mg',rfl,g1,by omega⟩
   ·exact Rb ⟨rfl,rfl,rs,mg2,rfl,hR,h1⟩
  ·obtain ⟨rfl,rs,mg2,rfl,hR,hb⟩:=hI
   exact ⟨rfl,rs,mg2,rfl,hR,by omega⟩
  ·obtain ⟨rfl,rs,mg2,rfl,hR,hb⟩:=hDn
   dsimp only
   have hpm:=hR.pm
   rw [SW] at hpm
   refine Rb ?_
   have:=q (aO rs++[]) (pos 0 rs).toArray mg2 ?_ (by rw [SW];exact hpm)
   ·exact this
   ·rw [SW]
    match rs,hb,hR with
    | [],_,_=>exact Wj
    | [(c,w)],_,hR=>
     have:=(hR.ok (c,w) (by simp)).1
     rw [f7]
     show Sr r (c++[])
     rw [SW]
     exact this
    | _::_::_,hb,_=>simp at hb
end
end L3
namespace L3
open PySem L2 PySem.W PyProof.Rows
section
variable {prog:Rk}{w:RG}{A:Rw}{E:QL->QM->Prop}{s:QM}
theorem BJ {c:Addr}{us:List QL}{z:Nat}{rk:QL->Int}(N:us.Pairwise fun x y=>rk x≠rk y)(h1:2<=us.length)(h2:us.length<=Q6){R:ZA->QM->Prop}(g:s.heap.get? c=some (RY "list" us.toArray z))
  (H:∀ h3:Si,(∀ b o,b≠c->s.heap.get? b=some o->h3.get? b=some o)->qI prog w A us (fun x y=>decide (rk x<rk y)) { s with heap:=h3 })
  (q:∀ out:List QL,out.Perm us->out.Pairwise (fun x y=>rk x<=rk y)->R (.done (.ret .none)) { s with heap:=V8 s.heap c us out.toArray }) :
  Ri (Rl prog w) A (Builtin.«list.sort» ⟨[.ref c],[]⟩) R E s:=by
 rw [Yn]
 have lt:c<s.heap.objs.size:=Q4 g
 refine QK (Zv g rfl (QK (VN g rfl ?_ (by rw [QZ];omega) (Su _))))
 obtain ⟨y,g1⟩:∃ y,(s.heap.update c (RW fun _=>#[])).get? c=some (RY "list" #[] y):=⟨_,Yo g _⟩
 refine QK (We g1 rfl (QK (WW (QK (U4 (RP ?_) (Su _))) (by show us.length<=_;omega))))
 have g6:(((s.heap.update c (RW fun _=>#[])).push (RY "tuple" us.toArray 0)).push (RY "list" #[] 0)).get? c=some (RY "list" #[] y):=
  QU _ (QU _ g1)
 have ask:=H (((s.heap.update c (RW fun _=>#[])).push (RY "tuple" us.toArray 0)).push (RY "list" #[] 0)) fun b o hb e=>QU _ (QU _ ((Sg _ _ (Sw hb)).trans e))
 show Ri (Rl prog w) A _ R E ⟨((s.heap.update c (RW fun _=>#[])).push (RY "tuple" us.toArray 0)).push (RY "list" #[] 0),s.gens,s.drawn,s.toks,s.os⟩
 dsimp only
 have many:¬ us.toArray.size<2:=by rw [QZ];omega
 rw [if_neg many,if_neg many]
 refine QK (RV ask (fun κ s' hk=>?_) fun _ _ x=>x.elim)
 obtain ⟨rfl,hk⟩:=hk
 have ez:us.toArray.zip us.toArray=(us.map fun u=>(u,u)).toArray:=by
  apply Tn.mp
  rw [K3,SD]
 have run:=Lm (prog:=prog) (w:=w) (A₀:=A) (E:=E) (κ:=κ) (X:=fun p=>∃ u∈us,p=(u,u)) (r:=fun p=>rk p.1)
  (s:={ s with heap:=((s.heap.update c (RW fun _=>#[])).push (RY "tuple" us.toArray 0)).push (RY "list" #[] 0) }) (L:=us.map fun u=>(u,u)) (mg:=7)
  (fun x y C hx hy hc=>by
   obtain ⟨u,hu,rfl⟩:=hx
   obtain ⟨v,hv,rfl⟩:=hy
   exact hk u v C hu hv hc) (fun x hx=>by
   obtain ⟨u,hu,rfl⟩:=RE.mp hx
   exact ⟨u,hu,rfl⟩) (by unfold Dis;rw [SQ];exact N) (by rw [QY];exact h1)
  (Q:=fun _ st' s'=>s' = { s with heap:=((s.heap.update c (RW fun _=>#[])).push (RY "tuple" us.toArray 0)).push (RY "list" #[] 0) }/\failedOf st'=none/\∃ out:List QL,(Zi st').map (·.2)=out.toArray/\out.Perm us/\out.Pairwise (fun x y=>rk x<=rk y)) (fun T pd mg' h3 h4=>⟨rfl,rfl,T.map (·.2),by
   show T.toArray.map (·.2)=_
   rw [List.map_toArray],by
   have:=h4.map (·.2)
   rw [RJ] at this
   exact this.trans (by rw [show ((fun p:Keyed=>p.2) ∘ fun u:QL=>(u,u))=id from rfl,a1k]),by
   rw [SQ]
   refine TQ (R:=fun x y:Keyed=>rk x.1<=rk y.1) (fun {x y} hx hy h=>?_) h3
   obtain ⟨u,_,rfl⟩:=RE.mp (h4.mem_iff.mp hx)
   obtain ⟨v,_,rfl⟩:=RE.mp (h4.mem_iff.mp hy)
   exact h⟩)
 rw [ez]
 refine QK (RV run (fun r s' hr=>?_) fun _ _ e=>e)
 obtain ⟨⟨⟩,st'⟩:=r
 obtain ⟨rfl,hf,out,hout,hp,hsd⟩:=hr
 dsimp only at hf hout ⊢
 rw [hout]
 have hol:=hp.length_eq
 refine QK (We g6 rfl (QK (VN g6 rfl ?_ (hsz2:=by rw [QZ];omega))))
 rw [hf]
 simp only [bne_self_eq_false,Q3,if_false]
 exact QX (q out hp hsd)
theorem Ln {l:Addr}{us:List QL}{rk:QL->Int}(N:us.Pairwise fun x y=>rk x≠rk y)(h1:2<=us.length)(h2:us.length<=Q6){Q:QL->QM->Prop}(hl:s.heap.IsList l us.toArray)
  (H:∀ h3:Si,(∀ b o,s.heap.get? b=some o->h3.get? b=some o)->qI prog w A.in1.in1 us (fun x y=>decide (rk x<rk y)) { s with heap:=h3 })
  (q:∀ out:List QL,out.Perm us->out.Pairwise (fun x y=>rk x<=rk y)->Q (.ref (s.heap.objs.size+1)) { s with heap:=sortedAll s.heap us out.toArray }):Ri (Rl prog w) A (call (.builtin "sorted") [.ref l]) Q E s:=by
 refine UP Ye XB XF (XI _) ?_
 unfold VW
 refine QK (m:=YA "sorted" 1 1 _) (QX (QK (collect_list hl (QK (U4 ?_ (by omega))) (by omega))))
 have z:((s.heap.push (RY "list" #[] 0)).update s.heap.objs.size (RW (·++us.toArray))).objs.size=s.heap.objs.size+1:=by rw [Z1,size_push']
 have g:(((s.heap.push (RY "list" #[] 0)).update s.heap.objs.size (RW (·++us.toArray))).push (RY "list" us.toArray 0)).get? (s.heap.objs.size+1)=some (RY "list" us.toArray 0):=z ▸ Rj _ rfl
 show Ri _ _ _ _ _ ⟨((s.heap.push (RY "list" #[] 0)).update s.heap.objs.size (RW (·++us.toArray))).push (RY "list" us.toArray 0),s.gens,s.drawn,s.toks,s.os⟩
 rw [z]
 refine QK (RP (SJ UR ⟨_,g,rfl⟩ UE (BJ N h1 h2 g (fun h3 kp=>H h3 fun b o e=>kp b o ?_ ?_) fun out o1 o2=>⟨_,rfl,?_⟩) (UT _)))
 ·exact Ro (V6 (Q4 e))
 ·exact QU _ ((Sg _ _ (S7 (Q4 e))).trans (QU _ e))
 ·exact QX ⟨_,rfl,q out o1 o2⟩
end
section
variable {α:Type}{lt:α->α->Bool}
structure Ord1 (lt:α->α->Bool):Prop where
 ir:∀ x,lt x x=false
 tr:∀ x y z,lt x y=true->lt y z=true->lt x z=true
 to:∀ x y,lt x y=false->lt y x=false->x=y
noncomputable def eS (lt:α->α->Bool)(l:List α)(x:α):Int:=(l.countP fun y=>lt y x:Nat)
theorem BK (h:Ord1 lt){l:List α}{x y:α}(hx:x∈l):lt x y=true->eS lt l x<eS lt l y:=fun e=>by
 unfold eS
 have:∀ l:List α,l.countP (fun z=>lt z x)<=l.countP (fun z=>lt z y):=fun l=>List.countP_mono_left fun z _ hz=>h.tr z x y hz e
 have h2:l.countP (fun z=>lt z x)<l.countP (fun z=>lt z y):=by
  induction l with
  | nil=>cases hx
  | cons a l ih=>
   rw [UN,UN]
   rcases RD.mp hx with rfl|hx
   ·rw [h.ir,e,if_neg RR,if_pos rfl]
    have:=this l
    omega
   ·have:=ih hx
    by_cases ha:lt a x=true
    ·rw [if_pos ha,if_pos (h.tr _ _ _ ha e)];omega
    ·rw [if_neg ha];split<;>omega
 omega
theorem mM (h:Ord1 lt){l:List α}{x y:α}(hx:x∈l)(hy:y∈l):lt x y=decide (eS lt l x<eS lt l y):=by
 cases e:lt x y with
 | true=>rw [decide_eq_true (BK h hx e)]
 | false=>
  symm
  rw [decide_eq_false_iff_not]
  cases e2:lt y x with
  | true=>have:=BK h hy e2;omega
  | false=>rw [h.to x y e e2];omega
theorem qK (h:Ord1 lt){l:List α}{x y:α}(hx:x∈l)(hy:y∈l)(hn:x≠y):eS lt l x≠eS lt l y:=fun e=>by
 have a:=mM h hx hy
 have b:=mM h hy hx
 rw [e,decide_eq_false (by omega)] at a
 rw [e,decide_eq_false (by omega)] at b
 exact hn (h.to x y a b)
theorem BL (h:Ord1 lt):∀ {a b:List α},a.Perm b->a.Pairwise (fun x y=>lt x y=true)->b.Pairwise (fun x y=>lt x y=true)->a=b
 | [],b,p,_,_=>(List.nil_perm.mp p).symm
 | x::a,b,p,ha,hb=>by
  match b,p,hb with
  | [],p,_=>exact absurd p.length_eq (by simp)
  | y::b,p,hb=>
   have e:x=y:=by
    rcases RD.mp (p.mem_iff.mp (Ru ..)) with e|hx
    ·exact e
    ·rcases RD.mp (p.symm.mem_iff.mp (Ru ..)) with e|hy
     ·exact e.symm
     ·have h1:=VZ hb hx
      have h2:=VZ ha hy
      have:=h.tr _ _ _ h1 h2
      rw [h.ir] at this
      cases this
   subst e
   rw [BL h (List.Perm.cons_inv p) (U0.mp ha).2 (U0.mp hb).2]
end
theorem ltS_ord:Ord1 dA:=by
 refine ⟨fun x=>?_,fun x y z h1 h2=>?_,fun x y h1 h2=>?_⟩
 ·unfold dA
  rw [decide_eq_false_iff_not]
  exact List.lt_irrefl _
 ·unfold dA at *
  rw [decide_eq_true_eq] at *
  exact List.lt_trans h1 h2
 ·unfold dA at *
  rw [decide_eq_false_iff_not] at *
  have:x.cps.toList=y.cps.toList:=List.le_antisymm (a1j.mp h2) (a1j.mp h1)
  obtain ⟨⟨a⟩⟩:=x
  obtain ⟨⟨b⟩⟩:=y
  cases this
  rfl
end L3
namespace L3
open PySem L2 PySem.W PyProof.Rows
noncomputable def f9 (ss:List Str):List Str:=ss.mergeSort fun a b=>!(dA b a)
theorem BM (ss:List Str):(f9 ss).Perm ss:=Y7 _ _
theorem Lo {ss:List Str}(hn:ss.Nodup):(f9 ss).Pairwise fun x y=>dA x y=true:=by
 have h:=Yt (le:=fun a b=>!(dA b a)) (fun a b c h1 h2=>by
  rw [V4] at h1 h2 ⊢
  cases e:dA c a with
  | false=>rfl
  | true=>
   cases e2:dA a b with
   | true=>rw [ltS_ord.tr _ _ _ e e2] at h2;cases h2
   | false=>rw [ltS_ord.to _ _ e2 h1] at e;rw [e] at h2;cases h2) (fun a b=>by
  cases e:dA b a with
  | false=>rfl
  | true=>
   cases e2:dA a b with
   | false=>rfl
   | true=>have:=ltS_ord.tr _ _ _ e e2;rw [ltS_ord.ir] at this;cases this) ss
 have hnd:(f9 ss).Nodup:=(BM ss).nodup_iff.mpr hn
 refine a1l (R:=fun a b=>(!(dA b a))=true) (S:=fun a b=>a≠b) (fun {a b} h1 h2=>?_) h hnd
 rw [V4] at h1
 cases e:dA a b with
 | true=>rfl
 | false=>exact absurd (ltS_ord.to _ _ e h1) h2
theorem Lp {ss ts:List Str}(hp:ts.Perm ss)(hs:ts.Pairwise fun x y=>dA x y=true):f9 ss=ts:=by
 have hn:ts.Nodup:=hs.imp fun {a b} h e=>by rw [e,ltS_ord.ir] at h;cases h
 exact BL ltS_ord ((BM ss).trans hp.symm) (Lo (hp.nodup_iff.mp hn)) hs
noncomputable def u9 (K:QH):List V->Hp->VK->Prop:=fun xs H Q=>∃ q ss,xs=[V.ref q]/\SqL K H q (ss.map V.str)/\2<=ss.length/\ss.Nodup/\∀ l,H l=none->Q (.ref l) (aE H l (.lst ((f9 ss).map V.str)))
theorem Lq {X:Cx}:CallR X (.builtin "sorted") (u9 X.K):=by
 intro a2j s σ H xs us Q I r h
 obtain ⟨q,ss,rfl,hq,h1,hn,k⟩:=h
 obtain ⟨u,rfl,ru⟩:=dC r
 cases ru
 obtain ⟨its,rv,pl,hz⟩:=I.list hq
 have hlen:=rv.length
 rw [QY] at hlen
 have hS:=Bw rv
 have hst:=hS.strs
 have hmem:∀ v∈its,XA v∈ss:=fun v hv=>by rw [<- hst];exact RE.mpr ⟨v,hv,rfl⟩
 have hz':its.length<=Q6:=by rw [QY] at hz;omega
 refine Ln (rk:=fun v=>eS dA ss (XA v)) ?_ (by omega) hz' pl.isList (fun h3 kp=>?_) fun out o1 o2=>?_
 ·have:(its.map XA).Nodup:=by rw [hst];exact hn
  unfold WV at this
  rw [SQ] at this
  exact TQ (fun {x y} hx hy h=>qK ltS_ord (hmem x hx) (hmem y hy) h) this
 ·unfold qI
  match its,hS,hlen,hmem with
  | v₁::v₂::vs,hS,_,hmem=>
   rw [keyKind_strs hS]
   refine QX ⟨rfl,fun x y C hx hy hC=>?_⟩
   dsimp only at hC
   rw [<- mM ltS_ord (hmem x hx) (hmem y hy)] at hC
   obtain ⟨a,t,rfl⟩:=hS.all x hx
   obtain ⟨b,t',rfl⟩:=hS.all y hy
   exact kas_lt_str hC
  | [_],_,h,_=>exact absurd (show ss.length=1 from h) (by omega)
  | [],_,h,_=>exact absurd (show ss.length=0 from h) (by omega)
 ·have hall:∀ v∈out,∃ x t,v=V9 x t:=fun v hv=>hS.all v (o1.mem_iff.mp hv)
  have hout:out.map XA=f9 ss:=by
   symm
   refine Lp (by rw [<- hst];exact o1.map _) ?_
   rw [SQ]
   have hnd:(out.map XA).Nodup:=(o1.map XA).nodup_iff.mpr (by rw [hst];exact hn)
   unfold WV at hnd
   rw [SQ] at hnd
   refine TQ (R:=fun x y=>eS dA ss (XA x)<=eS dA ss (XA y)/\XA x≠XA y) (fun {x y} hx hy h=>?_) (o2.and hnd)
   have mx:=hmem x (o1.mem_iff.mp hx)
   have my:=hmem y (o1.mem_iff.mp hy)
   rw [mM ltS_ord mx my,decide_eq_true_eq]
   have:=qK ltS_ord mx my h.2
   have:=h.1
   omega
  have hval:∀ {out:List QL},(∀ v∈out,∃ x t,v=V9 x t)->Vals ((out.map XA).map V.str) out:=by
   intro out
   induction out with
   | nil=>intro _;exact .nil
   | cons v out ih=>
    intro h
    obtain ⟨x,t,rfl⟩:=h v (by simp)
    exact .cons ⟨t,rfl⟩ (ih fun v hv=>h v (by simp [hv]))
  have hol:=o1.length_eq
  obtain ⟨e,he⟩:=VE s.heap its out.toArray
  refine ⟨.ref (s.heap.objs.size+1),_,I.laid (t':=s.toks) (a:=s.heap.objs.size+1) (o:=.lst ((f9 ss).map V.str)) (fun b ob z=>Vq z) (VG _) ?_,rfl,k _ (I.hok.fresh (VG _))⟩
  rw [<- hout]
  exact ⟨by simp only [QY];omega,out,e,hval hall,he⟩
end L3
namespace L3
open PySem L2
open PyProof.Rows (IntsAre Fr News seqObj)
section
variable {prog:Rk}{w:RG}{A:Rw}{E:QL->QM->Prop}{s:QM}{h₀:Si}{L:Addr}{m:Str->Option QL}{news:List (Addr×Td)}
end
theorem n4:∀ a:List Int,HT.lexLt a a=false
 | []=>rfl
 | x::a=>by rw [HT.lexLt_cons,if_pos rfl];exact n4 a
theorem BN:∀ {a b:List Int},a≠b->HT.lexLt a b = !HT.lexLt b a
 | [],[],h=>absurd rfl h
 | [],_::_,_=>rfl
 | _::_,[],_=>rfl
 | x::a,y::b,h=>by
  rw [HT.lexLt_cons,HT.lexLt_cons]
  by_cases e:x=y
  ·subst e
   rw [if_pos rfl,if_pos rfl]
   exact BN fun z=>h (by rw [z])
  ·rw [if_neg e,if_neg (Sw e)]
   rcases Int.lt_or_gt_of_ne e with z|z
   ·rw [decide_eq_true z,decide_eq_false (by omega)];rfl
   ·rw [decide_eq_false (by omega),decide_eq_true z];rfl
theorem n5:∀ {a b c:List Int},HT.lexLt a b=true->HT.lexLt b c=true->HT.lexLt a c=true
 | _,[],[],_,h=>absurd h (by intro z;cases z)
 | _,_::_,[],_,h=>absurd h (by intro z;cases z)
 | [],_,_::_,_,_=>rfl
 | _::_,[],_::_,h,_=>absurd h (by intro z;cases z)
 | x::a,y::b,z::c,h1,h2=>by
  rw [HT.lexLt_cons] at h1 h2 ⊢
  by_cases e1:x=y
  ·subst e1
   rw [if_pos rfl] at h1
   by_cases e2:x=z
   ·subst e2
    rw [if_pos rfl] at h2 ⊢
    exact n5 h1 h2
   ·rw [if_neg e2] at h2 ⊢
    exact h2
  ·rw [if_neg e1] at h1
   by_cases e2:y=z
   ·subst e2
    rw [if_neg e1];exact h1
   ·rw [if_neg e2] at h2
    rw [decide_eq_true_eq] at h1 h2
    rw [if_neg (by omega),decide_eq_true_eq];omega
section
variable {X:Cx}{a2j:List (Addr×Td)}{σ:St}{H:Hp}{s:QM}
end
end L3
namespace L3
open PySem
open PySem.W (KasT kas_asc kas_desc kas_tail3 kas_descPart kas_count kas_place kas_bin kas_sort kas_rev)
open PyProof.Rows (mirror bubble getElem?_bubble getElem?_mirror_all mirror_size bubble_size)
theorem mN {α β:Type}{ans:Nat->Nat->Bool}{f:α->a1m β}:∀ t:a1m α,aN ans (t.bind f)=aN ans (f (aN ans t))
 | .ret a=>rfl
 | .ask i j k=>by
  show aN ans ((k (ans i j)).bind f)=_
  rw [mN]
  rfl
section
variable {ans:Nat->Nat->Bool}{κ:Nat->Nat}(hk:∀ i j,ans i j=decide (κ i<κ j))
noncomputable def gK (κ:Nat->Nat)(p:Array Nat)(k:Nat):Nat:=κ (p.getD k 0)
theorem n6 {p q:Array Nat}{k m:Nat}(h:p[k]? = q[m]?):p.getD k 0=q.getD m 0:=by
 have e:∀ (a:Array Nat)(i:Nat),a.getD i 0=(a[i]?).getD 0:=fun a i=>by
  by_cases hi:i<a.size
  ·simp [Ua,hi]
  ·simp [Ua,hi]
 rw [e,e,h]
theorem kU {p:Array Nat}{i j:Nat}(hj:j<=p.size)(k:Nat):gK κ (T4 p i j) k=if i<=k/\k<j then gK κ p (i+j - 1 - k) else gK κ p k:=by
 have h:=a0l (i:=i) hj k
 by_cases c:i<=k/\k<j
 ·rw [if_pos c] at h ⊢
  exact congrArg κ (n6 h)
 ·rw [if_neg c] at h ⊢
  exact congrArg κ (n6 h)
theorem BO {p:Array Nat}{s d:Nat}(hs:s<p.size)(hd:d<=s)(k:Nat):gK κ (bubble p s d) k=if k=s - d then gK κ p s else if s - d<k/\k<=s then gK κ p (k - 1) else gK κ p k:=by
 have h:=a1t hs d hd k
 by_cases c:k=s - d
 ·rw [if_pos c] at h ⊢
  exact congrArg κ (n6 h)
 ·rw [if_neg c] at h ⊢
  by_cases c2:s - d<k/\k<=s
  ·rw [if_pos c2] at h ⊢
   exact congrArg κ (n6 h)
  ·rw [if_neg c2] at h ⊢
   exact congrArg κ (n6 h)
theorem n8 (p:Array Nat)(i j:Nat):(T4 p i j).size=p.size:=mirror_size _ _ _ _
noncomputable def gD (κ:Nat->Nat)(p:Array Nat)(m:Nat):Prop:=∀ i j,i<=j->j<m->gK κ p i<=gK κ p j
include hk in
theorem vA (p:Array Nat):∀ (f m:Nat),m<=aN ans (T5 p f m)/\aN ans (T5 p f m)<=m+f/\(∀ j,m<=j->j<aN ans (T5 p f m)->gK κ p (j - 1)<=gK κ p j) /\
  (aN ans (T5 p f m)<m+f->gK κ p (aN ans (T5 p f m))<gK κ p (aN ans (T5 p f m) - 1))
 | 0,m=>⟨Q0 _,Q0 _,fun j h1 h2=>absurd (show j<m from h2) (by omega),fun h=>absurd (show m<m+0 from h) (by omega)⟩
 | f+1,m=>by
  have e:aN ans (T5 p (f+1) m)=if ans (p.getD m 0) (p.getD (m - 1) 0)=true then m else aN ans (T5 p f (m+1)):=by
   show aN ans (if ans (p.getD m 0) (p.getD (m - 1) 0)=true then T7 m else T5 p f (m+1))=_
   split<;>rfl
  rw [e,hk]
  by_cases h:κ (p.getD m 0)<κ (p.getD (m - 1) 0)
  ·rw [if_pos (by simpa using h)]
   exact ⟨Q0 _,by omega,fun j h1 h2=>absurd h2 (by omega),fun _=>h⟩
  ·rw [if_neg (by simpa using h)]
   obtain ⟨i1,i2,i3,i4⟩:=vA p f (m+1)
   refine ⟨by omega,by omega,fun j h1 h2=>?_,fun h2=>i4 (by omega)⟩
   by_cases hj:j=m
   ·subst hj;exact Up.mp h
   ·exact i3 j (by omega) h2
theorem BP {p:Array Nat}{m:Nat}(h:∀ j,1<=j->j<m->gK κ p (j - 1)<=gK κ p j):gD κ p m:=by
 intro i j hij hj
 induction j with
 | zero=>
  have:i=0:=by omega
  subst this;exact Q0 _
 | succ j ih=>
  by_cases e:i=j+1
  ·subst e;exact Q0 _
  ·exact SR (ih (by omega) (by omega)) (h (j+1) (by omega) hj)
structure Falls (κ:Nat->Nat)(p:Array Nat)(n q:Nat):Prop where
 fall:∀ i j,i<=j->j<n->gK κ p j<=gK κ p i
 alike:∀ k,n - 1 - q<=k->k<n->gK κ p k=gK κ p (n - 1)
 qn:q<n
theorem Falls.rev {p:Array Nat}{n q:Nat}(F:Falls κ p n q)(hn:n<=p.size):∀ k,gK κ (T4 p (n - (q+1)) n) k=gK κ p k:=fun k=>by
 rw [kU hn]
 split
 ·rename_i c
  have:=F.qn
  rw [F.alike (n - (q+1)+n - 1 - k) (by omega) (by omega),F.alike k (by omega) c.2]
 ·rfl
theorem Falls.same {p p':Array Nat}{n q:Nat}(F:Falls κ p n q)(h:∀ k,gK κ p' k=gK κ p k):Falls κ p' n q:=
 ⟨fun i j h1 h2=>by rw [h,h];exact F.fall i j h1 h2,fun k h1 h2=>by rw [h,h];exact F.alike k h1 h2,F.qn⟩
include hk in
theorem qL:∀ (f:Nat)(p:Array Nat)(n q:Nat),1<=n->n+f<=p.size->Falls κ p n q->
  ∃ p' n' q',aN ans (TB f p n q)=(p',n',q')/\p'.size=p.size/\n<=n'/\n'<=n+f/\Falls κ p' n' q'
 | 0,p,n,q,_,_,F=>⟨p,n,q,rfl,rfl,Q0 _,Q0 _,F⟩
 | f+1,p,n,q,h1,hs,F=>by
  have hqn:=F.qn
  by_cases h:κ (p.getD n 0)<κ (p.getD (n - 1) 0)
  ·have h':gK κ p n<gK κ p (n - 1):=h
   have grow:∀ p':Array Nat,(∀ k,gK κ p' k=gK κ p k)->Falls κ p' (n+1) 0:=fun p' hp=>⟨fun i j hi hj=>by
     rw [hp,hp]
     by_cases e:j=n
     ·subst j
      by_cases e2:i=n
      ·subst i;exact Q0 _
      ·have:=F.fall i (n - 1) (by omega) (by omega)
       omega
     ·exact F.fall i j hi (by omega),fun k hk1 hk2=>by
     have:k=n:=by omega
     subst this
     simp,by omega⟩
   by_cases hq:q>0
   ·have e:aN ans (TB (f+1) p n q)=aN ans (TB f (T4 p (n - (q+1)) n) (n+1) 0):=by
     show aN ans (if ans (p.getD n 0) (p.getD (n - 1) 0)=true then (if q>0 then TB f (T4 p (n - (q+1)) n) (n+1) 0 else TB f p (n+1) 0) else _)=_
     rw [hk,if_pos (by simpa using h),if_pos hq]
    obtain ⟨p',n',q',r1,r2,r3,r4,r5⟩:=qL f (T4 p (n - (q+1)) n) (n+1) 0 (by omega) (by rw [n8];omega) (grow _ (F.rev (by omega)))
    exact ⟨p',n',q',e.trans r1,r2.trans (n8 _ _ _),by omega,by omega,r5⟩
   ·have e:aN ans (TB (f+1) p n q)=aN ans (TB f p (n+1) 0):=by
     show aN ans (if ans (p.getD n 0) (p.getD (n - 1) 0)=true then (if q>0 then TB f (T4 p (n - (q+1)) n) (n+1) 0 else TB f p (n+1) 0) else _)=_
     rw [hk,if_pos (by simpa using h),if_neg hq]
    obtain ⟨p',n',q',r1,r2,r3,r4,r5⟩:=qL f p (n+1) 0 (by omega) (by omega) (grow p fun _=>rfl)
    exact ⟨p',n',q',e.trans r1,r2,by omega,by omega,r5⟩
  ·by_cases h2:κ (p.getD (n - 1) 0)<κ (p.getD n 0)
   ·have e:aN ans (TB (f+1) p n q)=(p,n,q):=by
     show aN ans (if ans (p.getD n 0) (p.getD (n - 1) 0)=true then _ else Wx (p.getD (n - 1) 0) (p.getD n 0) fun d=>if d=true then T7 (p,n,q) else TB f p (n+1) (q+1))=_
     rw [hk,if_neg (by simpa using h)]
     show aN ans (if ans (p.getD (n - 1) 0) (p.getD n 0)=true then T7 (p,n,q) else TB f p (n+1) (q+1))=_
     rw [hk,if_pos (by simpa using h2)]
     rfl
    exact ⟨p,n,q,e,rfl,Q0 _,by omega,F⟩
   ·have e:aN ans (TB (f+1) p n q)=aN ans (TB f p (n+1) (q+1)):=by
     show aN ans (if ans (p.getD n 0) (p.getD (n - 1) 0)=true then _ else Wx (p.getD (n - 1) 0) (p.getD n 0) fun d=>if d=true then T7 (p,n,q) else TB f p (n+1) (q+1))=_
     rw [hk,if_neg (by simpa using h)]
     show aN ans (if ans (p.getD (n - 1) 0) (p.getD n 0)=true then T7 (p,n,q) else TB f p (n+1) (q+1))=_
     rw [hk,if_neg (by simpa using h2)]
    have heq:gK κ p n=gK κ p (n - 1):=by
     have a1:¬ gK κ p n<gK κ p (n - 1):=h
     have a2:¬ gK κ p (n - 1)<gK κ p n:=h2
     omega
    have G:Falls κ p (n+1) (q+1):=⟨fun i j hi hj=>by
      by_cases e:j=n
      ·subst j
       by_cases e2:i=n
       ·subst i;exact Q0 _
       ·rw [heq];exact F.fall i (n - 1) (by omega) (by omega)
      ·exact F.fall i j hi (by omega),fun k hk1 hk2=>by
      have e3:n+1 - 1=n:=by omega
      rw [e3]
      by_cases e:k=n
      ·rw [e]
      ·rw [heq];exact F.alike k (by omega) (by omega),by omega⟩
    obtain ⟨p',n',q',r1,r2,r3,r4,r5⟩:=qL f p (n+1) (q+1) (by omega) (by omega) G
    exact ⟨p',n',q',e.trans r1,r2,by omega,by omega,r5⟩
include hk in
theorem BQ {p:Array Nat}{n N q:Nat}(h1:1<=n)(hn:n<=N)(hs:p.size=N)(F:Falls κ p n q) :
  ∃ m p',aN ans (V5 n N p)=(m,p')/\p'.size=N/\1<=m/\m<=N/\gD κ p' m:=by
 have up:∀ j,1<=j->j<n->gK κ (T4 p 0 n) (j - 1)<=gK κ (T4 p 0 n) j:=fun j a b=>by
  rw [kU (by omega),kU (by omega),if_pos ⟨by omega,by omega⟩,if_pos ⟨by omega,by omega⟩]
  exact F.fall _ _ (by omega) (by omega)
 obtain ⟨a1,a2,a3,_⟩:=vA hk (T4 p 0 n) (N - n) n
 refine ⟨aN ans (T5 (T4 p 0 n) (N - n) n),T4 p 0 n,?_,by rw [n8,hs],?_,?_,BP fun j h1 h2=>?_⟩
 ·unfold V5
  rw [mN]
  rfl
 ·omega
 ·omega
 ·by_cases h:j<n
  ·exact up j h1 h
  ·exact a3 j (by omega) h2
include hk in
theorem BR {p:Array Nat}{n N:Nat}(h1:1<=n)(hn:n<N)(hs:p.size=N)(hall:∀ i j,i<=j->j<n->gK κ p j<=gK κ p i)(hlt:gK κ p n<gK κ p (n - 1)) :
  ∃ m p',aN ans (Uv n N p)=(m,p')/\p'.size=N/\1<=m/\m<=N/\gD κ p' m:=by
 have F:Falls κ p (n+1) 0:=⟨fun i j hi hj=>by
   by_cases e:j=n
   ·subst j
    by_cases e2:i=n
    ·subst i;exact Q0 _
    ·have:=hall i (n - 1) (by omega) (by omega)
     omega
   ·exact hall i j hi (by omega),fun k a b=>by
   have:k=n:=by omega
   subst this
   simp,by omega⟩
 obtain ⟨p',n',q',r1,r2,r3,r4,r5⟩:=qL hk (N - (n+1)) p (n+1) 0 (by omega) (by omega) F
 have e:aN ans (Uv n N p)=aN ans (if q'>0 then V5 n' N (T4 p' (n' - (q'+1)) n') else V5 n' N p'):=by
  unfold Uv
  rw [mN,r1]
 rw [e]
 split
 ·exact BQ hk (by omega) (by omega) (by rw [n8,r2,hs]) (r5.same (r5.rev (by omega)))
 ·exact BQ hk (by omega) (by omega) (r2.trans hs) r5
include hk in
theorem Lr {p:Array Nat}{N:Nat}(h1:1<=N)(hs:p.size=N):∃ m p',aN ans (Zf N p)=(m,p')/\p'.size=N/\1<=m/\m<=N/\gD κ p' m:=by
 obtain ⟨a1,a2,a3,a4⟩:=vA hk p (N - 1) 1
 have e:aN ans (Zf N p)=aN ans (if (aN ans (T5 p (N - 1) 1) == N)=true then T7 (aN ans (T5 p (N - 1) 1),p) else if aN ans (T5 p (N - 1) 1)>1 then Wx (p.getD 0 0) (p.getD (aN ans (T5 p (N - 1) 1) - 1) 0) (fun c=>if c=true then T7 (aN ans (T5 p (N - 1) 1),p) else Uv (aN ans (T5 p (N - 1) 1)) N (T4 p 0 (aN ans (T5 p (N - 1) 1)))) else Uv (aN ans (T5 p (N - 1) 1)) N p):=by
  unfold Zf
  rw [mN]
 rw [e]
 generalize aN ans (T5 p (N - 1) 1)=n at *
 have up:=BP (κ:=κ) (p:=p) (m:=n) a3
 split
 ·exact ⟨n,p,rfl,hs,a1,by omega,up⟩
 ·rename_i hne
  have hne:n≠N:=by simpa using hne
  have hlt:=a4 (by omega)
  split
  ·rename_i hg
   show ∃ m p',aN ans (if ans (p.getD 0 0) (p.getD (n - 1) 0)=true then T7 (n,p) else Uv n N (T4 p 0 n))=(m,p')/\_
   rw [hk]
   by_cases h:κ (p.getD 0 0)<κ (p.getD (n - 1) 0)
   ·rw [if_pos (by simpa using h)]
    exact ⟨n,p,rfl,hs,a1,by omega,up⟩
   ·rw [if_neg (by simpa using h)]
    have h':¬ gK κ p 0<gK κ p (n - 1):=h
    have all:∀ k,k<n->gK κ p k=gK κ p 0:=fun k hkn=>by
     have u1:=up 0 k (Su _) hkn
     have u2:=up k (n - 1) (by omega) (by omega)
     omega
    refine BR hk a1 (by omega) (by rw [n8,hs]) (fun i j hi hj=>?_) ?_
    ·rw [kU (by omega),kU (by omega),if_pos ⟨by omega,by omega⟩,if_pos ⟨by omega,by omega⟩,all (0+n - 1 - j) (by omega),all (0+n - 1 - i) (by omega)]
     exact Q0 _
    ·rw [kU (by omega),kU (by omega),if_neg (by omega),if_pos ⟨by omega,by omega⟩,all (0+n - 1 - (n - 1)) (by omega),<- all (n - 1) (by omega)]
     exact hlt
  ·rename_i hg
   refine BR hk a1 (by omega) hs (fun i j hi hj=>?_) hlt
   have:i=j:=by omega
   subst this
   exact Q0 _
include hk in
theorem vB {p:Array Nat}{k:Nat}(S:gD κ p k):∀ (f l r:Nat),r - l<=f->l<=r->r<=k->(∀ j,j<l->gK κ p j<=gK κ p k)->(∀ j,r<=j->j<k->gK κ p k<gK κ p j)->
  aN ans (S1 p k f l r)<=k/\(∀ j,j<aN ans (S1 p k f l r)->gK κ p j<=gK κ p k)/\∀ j,aN ans (S1 p k f l r)<=j->j<k->gK κ p k<gK κ p j
 | 0,l,r,h1,h2,h3,lo,hi=>by
  have:l=r:=by omega
  subst this
  exact ⟨h3,lo,hi⟩
 | f+1,l,r,h1,h2,h3,lo,hi=>by
  by_cases h:l >= r
  ·have e:aN ans (S1 p k (f+1) l r)=l:=by
    show aN ans (if l >= r then T7 l else _)=_
    rw [if_pos h];rfl
   have:l=r:=by omega
   subst this
   rw [e]
   exact ⟨h3,lo,hi⟩
  ·by_cases c:κ (p.getD k 0)<κ (p.getD ((l+r) / 2) 0)
   ·have e:aN ans (S1 p k (f+1) l r)=aN ans (S1 p k f l ((l+r) / 2)):=by
     show aN ans (if l >= r then T7 l else Wx (p.getD k 0) (p.getD ((l+r) / 2) 0) fun c=>if c=true then S1 p k f l ((l+r) / 2) else S1 p k f ((l+r) / 2+1) r)=_
     rw [if_neg h]
     show aN ans (if ans (p.getD k 0) (p.getD ((l+r) / 2) 0)=true then S1 p k f l ((l+r) / 2) else S1 p k f ((l+r) / 2+1) r)=_
     rw [hk,if_pos (by simpa using c)]
    rw [e]
    refine vB S f l ((l+r) / 2) (by omega) (by omega) (by omega) lo fun j hj hjk=>?_
    have:=S ((l+r) / 2) j hj hjk
    have c':gK κ p k<gK κ p ((l+r) / 2):=c
    omega
   ·have e:aN ans (S1 p k (f+1) l r)=aN ans (S1 p k f ((l+r) / 2+1) r):=by
     show aN ans (if l >= r then T7 l else Wx (p.getD k 0) (p.getD ((l+r) / 2) 0) fun c=>if c=true then S1 p k f l ((l+r) / 2) else S1 p k f ((l+r) / 2+1) r)=_
     rw [if_neg h]
     show aN ans (if ans (p.getD k 0) (p.getD ((l+r) / 2) 0)=true then S1 p k f l ((l+r) / 2) else S1 p k f ((l+r) / 2+1) r)=_
     rw [hk,if_neg (by simpa using c)]
    rw [e]
    refine vB S f ((l+r) / 2+1) r (by omega) (by omega) h3 (fun j hj=>?_) hi
    have c':¬ gK κ p k<gK κ p ((l+r) / 2):=c
    have:=S j ((l+r) / 2) (by omega) (by omega)
    omega
theorem Ls {p:Array Nat}{k l:Nat}(hs:k<p.size)(hl:l<=k)(S:gD κ p k)(lo:∀ j,j<l->gK κ p j<=gK κ p k)(hi:∀ j,l<=j->j<k->gK κ p k<gK κ p j):gD κ (bubble p k (k - l)) (k+1):=by
 intro i j hij hj
 rw [BO hs (by omega),BO hs (by omega)]
 have e:k - (k - l)=l:=by omega
 rw [e]
 repeat' split
 all_goals first
  | exact Q0 _
  | (exfalso;omega)
  | (exact Vn (hi _ (by omega) (by omega)))
  | (exact lo _ (by omega))
  | (exact S _ _ (by omega) (by omega))
include hk in
theorem BS {N:Nat}:∀ (f:Nat)(p:Array Nat)(k:Nat),p.size=N->k+f=N->gD κ p k->gD κ (aN ans (XD f p k)) N
 | 0,p,k,hs,h,S=>by
  have:k=N:=by omega
  subst this
  exact S
 | f+1,p,k,hs,h,S=>by
  have e:aN ans (XD (f+1) p k)=aN ans (XD f (bubble p k (k - aN ans (S1 p k k 0 k))) (k+1)):=by
   show aN ans ((S1 p k k 0 k).bind fun l=>XD f (bubble p k (k - l)) (k+1))=_
   rw [mN]
  rw [e]
  obtain ⟨a,b,c⟩:=vB hk S k 0 k (by omega) (by omega) (Q0 _) (fun j hj=>absurd hj (by omega)) (fun j h1 h2=>absurd h2 (by omega))
  exact BS f _ (k+1) (by rw [bubble_size,hs]) (by omega) (Ls (by omega) a S b c)
include hk in
theorem Lu {N:Nat}(h1:1<=N):gD κ (aN ans (XC N)) N:=by
 obtain ⟨m,p',e,hs,hm1,hm,S⟩:=Lr hk (p:=(Se N).toArray) h1 (by simp)
 have e2:aN ans (XC N)=aN ans (if m<N then XD (N - max m 1) p' (max m 1) else T7 p'):=by
  unfold XC
  rw [mN,e]
 rw [e2]
 split
 ·have:max m 1=m:=by omega
  rw [this]
  exact BS hk (N - m) p' m hs (by omega) S
 ·have:m=N:=by omega
  subst this
  exact S
end
section
variable {α:Type}{lt:α->α->Bool}(irr:∀ a,lt a a=false)(tr:∀ a b c,lt a b=true->lt b c=true->lt a c=true)(nt:∀ a b c,lt a b=true->lt a c=true\/lt c b=true)
theorem vC {p q:α->Bool}:∀ {l:List α},(∀ a∈l,p a=true->q a=true)->l.countP p<=l.countP q
 | [],_=>Q0 _
 | a::l,h=>by
  have ih:=vC (l:=l) fun b hb=>h b (Rm _ hb)
  rw [UN,UN]
  have:=h a (Ru ..)
  cases hp:p a<;>cases hq:q a<;>simp_all<;>omega
theorem BU {p q:α->Bool}:∀ {l:List α}{b:α},(∀ a∈l,p a=true->q a=true)->b∈l->p b=false->q b=true->l.countP p<l.countP q
 | a::l,b,h,hb,h1,h2=>by
  rw [UN,UN]
  have hle:=vC (l:=l) fun c hc=>h c (Rm _ hc)
  rcases RD.mp hb with rfl|hb
  ·simp only [h1,h2,Q3,if_false,if_true];omega
  ·have ih:=BU (l:=l) (fun c hc=>h c (Rm _ hc)) hb h1 h2
   have:=h a (Ru ..)
   cases hp:p a<;>cases hq:q a<;>simp_all<;>omega
include irr tr nt in
theorem Lv {l:List α}{a b:α}(ha:a∈l):lt a b=decide (l.countP (fun c=>lt c a)<l.countP (fun c=>lt c b)):=by
 cases h:lt a b with
 | true=>
  have:=BU (p:=fun c=>lt c a) (q:=fun c=>lt c b) (l:=l) (fun c _ hc=>tr _ _ _ hc h) ha (irr a) h
  simpa using this
 | false=>
  have:=vC (p:=fun c=>lt c b) (q:=fun c=>lt c a) (l:=l) fun c _ hc=>by
   rcases nt c b a hc with z|z
   ·exact z
   ·rw [h] at z;cases z
  simpa using this
include irr tr nt in
theorem BV (d:α)(xs:List α){n:Nat}(h0:1<=n):(bB (fun i j=>lt (xs.getD i d) (xs.getD j d)) n).Pairwise fun i j=>lt (xs.getD j d) (xs.getD i d)=false:=by
 have hk:∀ i j,lt (xs.getD i d) (xs.getD j d)=decide ((d::xs).countP (fun c=>lt c (xs.getD i d))<(d::xs).countP (fun c=>lt c (xs.getD j d))):=fun i j=>by
  refine Lv irr tr nt ?_
  by_cases hi:i<xs.length
  ·have:xs.getD i d=xs[i]:=by simp [RS,hi]
   rw [this]
   exact Rm _ (To hi)
  ·have:xs.getD i d=d:=by simp [RS,R8 (Up.mp hi)]
   rw [this]
   exact Ru ..
 have S:=Lu (κ:=fun i=>(d::xs).countP fun c=>lt c (xs.getD i d)) hk h0 (N:=n)
 have hp:=qG (fun i j=>lt (xs.getD i d) (xs.getD j d)) (n:=n) h0
 have hl:(bB (fun i j=>lt (xs.getD i d) (xs.getD j d)) n).length=n:=by
  have:=hp.length_eq
  simpa using this
 rw [RB]
 intro i j hi hj hij
 rw [hk]
 have s:=S i j (by omega) (by omega)
 have e:∀ (a:Array Nat)(k:Nat)(hk:k<a.toList.length),a.getD k 0=a.toList[k]:=fun a k hk=>by
  have hk':k<a.size:=by simpa using hk
  simp [Ua,hk']
 unfold gK at s
 rw [e _ i hi,e _ j hj] at s
 simp only [decide_eq_false_iff_not,Up]
 exact s
end
end L3
namespace L3
open PySem L2 PySem.W PyProof.Rows
theorem BW:Ord1 HT.lexLt:=⟨n4,fun _ _ _=>n5,fun a b h1 h2=>Classical.byContradiction fun hn=>by
 have:=BN hn
 rw [h1,h2] at this
 cases this⟩
section
variable {X:Cx}{a2j:List (Addr×Td)}{σ:L2.St}{H:Hp}{s:QM}
end
end L3
namespace L3
open PySem L2
section
variable {X:Cx}{a b c:Q1}{ma mb mc:ME}{pos:Ta}
noncomputable def gG (f g:D->D->Hm->Option (D×Hm))(a b c:ME):ME:=fun ρ μ=>(a ρ μ).bind fun p=>(b ρ p.2).bind fun q=>(f p.1 q.1 q.2).bind fun r=>match r.1 with
 | .bl true=>(c ρ r.2).bind fun t=>g q.1 t.1 t.2
 | .bl false=>some (.bl false,r.2)
 | _=>none
theorem BX {f g:D->D->Hm->Option (D×Hm)}{r r':R2}{K:QH}(hf:bV K f r)(hg:bV K g r'):∀ σ H Q,tM K (gG f g ma mb mc) σ H Q->sO r r' (tM K ma) (tM K mb) (tM K mc) σ H Q:=by
 rintro σ H Q ⟨π,ρ,μ,d,μ',R,E,hm,k⟩
 obtain ⟨⟨x,μ1⟩,h1,hm⟩:=QF.mp hm
 obtain ⟨⟨y,μ2⟩,h2,hm⟩:=QF.mp hm
 obtain ⟨⟨z,μ3⟩,h3,hm⟩:=QF.mp hm
 refine ⟨π,ρ,μ,x,μ1,R,E,h1,fun π1 v1 H1 e1 R1 i1=>⟨π1,ρ,μ1,y,μ2,R1,E.mono e1,h2,fun π2 v2 H2 e2 R2 i2=>?_⟩⟩
 refine hf π2 H2 μ2 x y z μ3 v1 v2 _ R2 (i1.mono e2) i2 h3 fun π3 v3 H3 e3 R3 i3=>?_
 cases z with
 | bl bb=>
  cases i3
  refine ⟨bb,rfl,?_⟩
  cases bb with
  | true=>
   refine j8 ?_
   obtain ⟨⟨t,μ4⟩,h4,hm⟩:=QF.mp hm
   exact ⟨π3,ρ,μ3,t,μ4,R3,((E.mono e1).mono e2).mono e3,h4,fun π4 v4 H4 e4 R4 i4=>hg π4 H4 μ4 y t d μ' v2 v4 Q R4 ((i2.mono e3).mono e4) i4 hm (k.after (((e1.trans e2).trans e3).trans e4))⟩
  | false=>
   refine j7 ?_
   cases hm
   exact k π3 _ H3 ((e1.trans e2).trans e3) R3 (.bl false)
 | _=>cases hm
noncomputable def iO:U9->Option (Int->Int->Bool)
 | .Lt=>some fun i j=>decide (i<j)
 | .LtE=>some fun i j=>decide (i<=j)
 | .Gt=>some fun i j=>decide (j<i)
 | .GtE=>some fun i j=>decide (j<=i)
 | _=>none
theorem mO {op:U9}{p:Int->Int->Bool}(h:iO op=some p):OpR X (R6 op) (eD fun i j=>.bl (p i j))/\(op=.Lt\/op=.LtE\/op=.Gt\/op=.GtE):=by
 cases op<;>first|(cases h;first|exact ⟨sJ,by simp⟩|exact ⟨sL,by simp⟩|exact ⟨sM,by simp⟩|exact ⟨sN,by simp⟩)|cases h
theorem BY {op op':U9}(h':op'=.Lt\/op'=.LtE\/op'=.Gt\/op'=.GtE):a1b [op,op'] [b,c]=false:=by
 show UG op' c=false
 rcases h' with rfl|rfl|rfl|rfl<;>exact bX _
theorem Lx {op op':U9}{p q:Int->Int->Bool}(h:iO op=some p)(h':iO op'=some q)(ha:QE X a ma)(hb:QE X b mb)(hc:QE X c mc):QE X (.Compare a [op,op'] [b,c] pos) (gG (d7 p) (d7 q) ma mb mc):=
 ⟨bT (Gh (mO h).1 (mO h').1 ha.h hb.h hc.h (BY (mO (X:=X) h').2)) (BX e8 e8)⟩
theorem Ly {op op':U9}{p q:Int->Int->Bool}(h:iO op=some p)(h':iO op'=some q)(ha:QE X a ma)(hb:QE X b mb)(hc:QE X c mc):QT X (.Compare a [op,op'] [b,c] pos) (a8 (gG (d7 p) (d7 q) ma mb mc)):=
 ⟨pM (Gi (mO h).1 (mO h').1 ha.h hb.h hc.h (BY (mO (X:=X) h').2)) fun σ H Q h=>BX e8 e8 σ H _ (Aq σ H Q h)⟩
noncomputable def qM (neg:Bool):D->D->Hm->Option (D×Hm)
 | .bl b,.bl c,μ=>some (.bl (if neg then !(b == c) else b == c),μ)
 | .int _,.bl _,μ=>some (.bl neg,μ)
 | _,_,_=>none
noncomputable def gH (neg:Bool):D->D->Hm->Option (D×Hm):=fun x y μ=>match y with
 | .bl _=>qM neg x y μ
 | _=>f6 neg x y μ
noncomputable def vD (neg:Bool):R2:=fun x y H Q=>∃ c,y=.bl c/\((∃ b,x=.bl b/\Q (.bl (if neg then !(b == c) else b == c)) H)\/((∃ i,x=.int i)/\Q (.bl neg) H))
theorem qN {K:QH}{neg:Bool}:bV K (qM neg) (vD neg):=by
 intro π H μ x y d μ' vx vy Q R ix iy hm k
 unfold qM at hm
 split at hm
 ·cases hm;cases ix;cases iy
  exact ⟨_,rfl,.inl ⟨_,rfl,k π _ H .refl R (.bl _)⟩⟩
 ·cases hm;cases ix;cases iy
  exact ⟨_,rfl,.inr ⟨⟨_,rfl⟩,k π _ H .refl R (.bl _)⟩⟩
 ·cases hm
theorem BZ:OpR X (R6 .Is) (vD false):=by
 intro a2j s σ H x y v u Q I rx ry h
 obtain ⟨c,rfl,h⟩:=h
 cases ry
 rcases h with ⟨b,rfl,q⟩|⟨⟨i,rfl⟩,q⟩
 ·cases rx
  exact QX (jX I q (by cases b<;>cases c<;>rfl))
 ·obtain ⟨t,rfl⟩:=rx
  exact QX (jX I q rfl)
theorem B0:OpR X (R6 .IsNot) (vD true):=by
 intro a2j s σ H x y v u Q I rx ry h
 obtain ⟨c,rfl,h⟩:=h
 cases ry
 rcases h with ⟨b,rfl,q⟩|⟨⟨i,rfl⟩,q⟩
 ·cases rx
  exact QX (jX I q (by cases b<;>cases c<;>rfl))
 ·obtain ⟨t,rfl⟩:=rx
  exact QX (jX I q rfl)
theorem qO {neg:Bool}(x y:D)(μ:Hm)(r:D×Hm)(h:gH neg x y μ=some r):qM neg x y μ=some r\/f6 neg x y μ=some r:=by
 unfold gH at h
 split at h
 ·exact .inl h
 ·exact .inr h
theorem Lz (ha:QE X a ma)(hb:QE X b mb):QE X (.Compare a [.Is] [b] pos) (aB (gH false) ma mb):=i9 ⟨cZ BZ qN ha.h hb.h (bX _)⟩ (KA ha hb) (eA qO)
theorem LA (ha:QE X a ma)(hb:QE X b mb):QE X (.Compare a [.IsNot] [b] pos) (aB (gH true) ma mb):=i9 ⟨cZ B0 qN ha.h hb.h (bX _)⟩ (KG ha hb) (eA qO)
theorem LB (ha:QE X a ma)(hb:QE X b mb):QT X (.Compare a [.Is] [b] pos) (a8 (aB (gH false) ma mb)):=lZ ⟨c3 BZ qN ha.h hb.h (bX _)⟩ (KH ha hb) (l8 (eA qO))
theorem LC (ha:QE X a ma)(hb:QE X b mb):QT X (.Compare a [.IsNot] [b] pos) (a8 (aB (gH true) ma mb)):=lZ ⟨c3 B0 qN ha.h hb.h (bX _)⟩ (KI ha hb) (l8 (eA qO))
end
section
variable {X:Cx}
end
section
variable {X:Cx}{e:Q1}{te:TE}{lo hi:Option Q1}{st:Q1}{tl th tt:TO}{pos p2:Ta}
end
section
variable {X:Cx}{a2j:List (Addr×Td)}{σ:St}{H:Hp}{s:QM}{h':Si}
end
structure QJT (X:Cx)(e:Q1)(m:MI):Prop where
 h:∀ es k p,PI X (.Tuple es k p) e (iG X.K m)
theorem QJ.t {X:Cx}{e:Q1}{m:MI}(h:QJ X e m):QJT X e m:=⟨fun es k p=>h.h _⟩
section
variable {X:Cx}{pos:Ta}
theorem vE {tg iter:Q1}{mi:MI}{g:MG}{mb:MS}{body:List Stmt}(hi:PI X tg iter (iG X.K mi))(hg:QG X tg g)(hb:QB X body mb)(hp:a1g (Rl X.prog X.w) X.A X.env X.xe)(hc:X.calm=true)(hs:d9 iter=true) :
  QS X (.For tg iter body [] pos) (cT mi g mb):=⟨fE (F5 hp hc hi hg.h hb.h (by intro z;cases iter<;>first|rfl|cases hs)) (by
 rintro E σ H ⟨π,ρ,μ,fl,ρ',μ',R,EN,hm,k⟩
 obtain ⟨⟨src,n,μ1⟩,h1,hm⟩:=QF.mp hm
 refine ⟨π,ρ,μ,src,n,μ1,R,EN,h1,fun π1 H1 J e1 R1 W=>?_⟩
 have kk:lH X.K E π1 μ1.length H1 fl ρ' μ':=by
  cases fl with
  | nx=>exact fun π3 σ3 H3 e3 R3 E3=>k π3 σ3 H3 (e1.trans e3) R3 E3
  | bk=>exact fun π3 σ3 H3 e3 R3 E3=>k π3 σ3 H3 (e1.trans e3) R3 E3
  | ct=>exact fun π3 σ3 H3 e3 R3 E3=>k π3 σ3 H3 (e1.trans e3) R3 E3
  | rt d=>exact KC.after k e1
 exact IW W kk .refl R1 (EN.mono e1) hm)⟩
theorem B1 {st:Stmt}{m m1 m2:MS}(h1:QS X st m1)(h2:QS X st m2)(h:∀ ρ μ r,m ρ μ=some r->m1 ρ μ=some r\/m2 ρ μ=some r):QS X st m:=⟨fun a2j s σ H D I q=>by
 obtain ⟨π,ρ,μ,fl,ρ',μ',R,E,hm,k⟩:=q
 rcases h ρ μ _ hm with z|z
 ·exact h1.h a2j s σ H D I ⟨π,ρ,μ,fl,ρ',μ',R,E,z,k⟩
 ·exact h2.h a2j s σ H D I ⟨π,ρ,μ,fl,ρ',μ',R,E,z,k⟩⟩
noncomputable def iP (put:D->D->D->Hm->Option Hm)(o i v:ME):MS:=fun ρ μ=>(v ρ μ).bind fun p=>(o ρ p.2).bind fun q=>(i ρ q.2).bind fun r=>(put q.1 r.1 p.1 r.2).map fun μ'=>(.nx,ρ,μ')
noncomputable def n9:D->D->D->Hm->Option Hm
 | .loc a,.int i,d,μ=>match μ[a]? with
  | some (.lst xs)=>(g7 xs.length i).map fun j=>μ.set a (.lst (xs.set j d))
  | _=>none
 | _,_,_,_=>none
noncomputable def oA:D->D->D->Hm->Option Hm
 | .loc a,k,d,μ=>match μ[a]? with
  | some (.dK kvs)=>(iF k).bind fun kk=>if kvs.length<Q6 then some (μ.set a (.dK (nS kvs kk d))) else none
  | _=>none
 | _,_,_,_=>none
noncomputable def kW:D->D->D->Hm->Option Hm
 | .loc a,y,d,μ=>match μ[a]? with
  | some (.dT kvs)=>(bZ y).bind fun k=>if kvs.length<Q6 then some (μ.set a (.dT (cU kvs k d))) else none
  | _=>none
 | _,_,_,_=>none
noncomputable def mP:D->D->D->Hm->Option Hm:=fun o i d μ=>match o with
 | .loc a=>match μ[a]? with
  | some (.dK _)=>oA o i d μ
  | some (.dT _)=>kW o i d μ
  | _=>n9 o i d μ
 | _=>none
noncomputable def eC:=iP mP
theorem B2 {K:QH}{π:Nat->Addr}{n:Nat}{H:Hp}:∀ {vs:List V}{ds:List D}(j:Nat){v:V}{d:D},IsDs K π n H vs ds->IsD K π n H v d->IsDs K π n H (vs.set j v) (ds.set j d)
 | _,_,j,_,_,.nil,h=>by simp;exact .nil
 | _,_,0,_,_,.cons _ t,h=>.cons h t
 | _,_,j+1,_,_,.cons h0 t,h=>.cons h0 (B2 j t h)
noncomputable def LD (td ty tv:TE):TS:=fun D σ H=>tv σ H fun v H1=>td σ H1 fun x H2=>ty σ H2 fun y H3=>zW x y v H3 fun H4=>D.nx σ H4
open PyProof.Rows in
theorem LF {o i value:Q1}{pos':Ta}{td ty tv:TE}(ho:PE X o td)(hi:PE X i ty)(hv:PE X value tv)(hs:Vo value (some (.Subscript o i pos')) pos.line X.env=pure false):PS X (.Assign [.Subscript o i pos'] value pos) (LD td ty tv):=by
 intro a2j s σ H D I h
 refine WB (aJ (hv a2j s σ H _ I h) fun r s1 ⟨v,H1,I1,rv,q1⟩=>aJ (ho a2j s1 σ H1 _ I1 q1) fun u s2 ⟨x,H2,I2,rx,q2⟩=>aJ (hi a2j s2 σ H2 _ I2 q2) fun iv s3 ⟨y,H3,I3,ry,q3⟩=>?_) hs
 exact aJ (Hc a2j s3 σ H3 x y v u iv r _ I3 rx ry rv q3) fun _ s4 ⟨H4,I4,q4⟩=>⟨σ,H4,I4,q4⟩
theorem LG {o i e:Q1}{mo mi me:ME}{tpos:Ta}(ho:QE X o mo)(hi:QE X i mi)(he:QE X e me)(h:fX e=true):QS X (.Assign [.Subscript o i tpos] e pos) (iP n9 mo mi me):=
 ⟨fE (LF ho.h hi.h he.h (nW h)) (by
 rintro E σ H ⟨π,ρ,μ,fl,ρ',μ',R,EN,hm,k⟩
 obtain ⟨⟨x,μ1⟩,h1,hm⟩:=QF.mp hm
 obtain ⟨⟨y,μ2⟩,h2,hm⟩:=QF.mp hm
 obtain ⟨⟨z,μ3⟩,h3,hm⟩:=QF.mp hm
 obtain ⟨μ4,h4,hm⟩:=QR.mp hm
 cases hm
 refine ⟨π,ρ,μ,x,μ1,R,EN,h1,fun π1 v1 H1 e1 R1 i1=>⟨π1,ρ,μ1,y,μ2,R1,EN.mono e1,h2,fun π2 v2 H2 e2 R2 i2=>⟨π2,ρ,μ2,z,μ3,R2,(EN.mono e1).mono e2,h3,fun π3 v3 H3 e3 R3 i3=>?_⟩⟩⟩
 dsimp only at h4
 cases y with
 | loc a=>
  cases z with
  | int i=>
   simp only [n9] at h4
   split at h4
   ·rename_i xs hx
    obtain ⟨j,h5,h6⟩:=QR.mp h4
    subst h6
    obtain ⟨vs,h7,h8⟩:=R3.lst _ xs hx
    have i2':=i2.mono e3
    cases i2'
    cases i3
    have hlt:=(QN.mp hx).1
    have iv:=(i1.mono e2).mono e3
    refine ⟨_,vs,i,j,rfl,rfl,h7,by rw [h8.length];exact h5,?_⟩
    obtain ⟨e4,R4⟩:=R3.put (c:=.lst (xs.set j x)) (o:=.lst (vs.set j v1)) hlt h7 (.inl ⟨vs,rfl⟩) (B2 j h8 iv)
    exact k π3 σ _ (((e1.trans e2).trans e3).trans e4) R4 ((((EN.mono e1).mono e2).mono e3).mono e4)
   ·cases h4
  | _=>simp [n9] at h4
 | _=>simp [n9] at h4)⟩
theorem LH {kk:Nat}(hr:Room kk X.A){o i e:Q1}{mo mi me:ME}{tpos:Ta}(ho:QE X o mo)(hi:QE X i mi)(he:QE X e me)(h:fX e=true):QS X (.Assign [.Subscript o i tpos] e pos) (iP oA mo mi me):=
 ⟨fE (GO (Ah hr) ho.h hi.h he.h (nW h)) (by
 rintro E σ H ⟨π,ρ,μ,fl,ρ',μ',R,EN,hm,k⟩
 obtain ⟨⟨x,μ1⟩,h1,hm⟩:=QF.mp hm
 obtain ⟨⟨y,μ2⟩,h2,hm⟩:=QF.mp hm
 obtain ⟨⟨z,μ3⟩,h3,hm⟩:=QF.mp hm
 obtain ⟨μ4,h4,hm⟩:=QR.mp hm
 cases hm
 refine ⟨π,ρ,μ,x,μ1,R,EN,h1,fun π1 v1 H1 e1 R1 i1=>⟨π1,ρ,μ1,y,μ2,R1,EN.mono e1,h2,fun π2 v2 H2 e2 R2 i2=>⟨π2,ρ,μ2,z,μ3,R2,(EN.mono e1).mono e2,h3,fun π3 v3 H3 e3 R3 i3=>?_⟩⟩⟩
 dsimp only at h4
 cases y with
 | loc a=>
  simp only [oA] at h4
  split at h4
  ·rename_i kvs hx
   obtain ⟨kk,h5,h6⟩:=QF.mp h4
   split at h6
   ·rename_i hl
    cases h6
    obtain ⟨vs,h7,h8,h9⟩:=R3.dK _ kvs hx
    have i2':=i2.mono e3
    cases i2'
    have hk:=uB i3 h5
    subst hk
    have hlt:=(QN.mp hx).1
    have iv:=(i1.mono e2).mono e3
    have hks:=IsKs.of h8 h9
    refine ⟨_,_,rfl,DPut.k h7 (by rw [hks.length];exact hl),?_⟩
    obtain ⟨e4,R4⟩:=R3.put (c:=.dK (nS kvs kk x)) (o:=.dK (cR vs kk v1)) hlt h7 (.inr (.inl ⟨vs,rfl⟩)) (hks.put iv kk).maps
    exact k π3 σ _ (((e1.trans e2).trans e3).trans e4) R4 ((((EN.mono e1).mono e2).mono e3).mono e4)
   ·cases h6
  ·cases h4
 | _=>simp [oA] at h4)⟩
theorem B3 {f f1 f2:D->D->D->Hm->Option Hm}{mo mi me:ME}(h:∀ x y z μ r,f x y z μ=some r->f1 x y z μ=some r\/f2 x y z μ=some r):∀ ρ μ r,iP f mo mi me ρ μ=some r->iP f1 mo mi me ρ μ=some r\/iP f2 mo mi me ρ μ=some r:=by
 intro ρ μ r hm
 obtain ⟨p,h1,hm⟩:=QF.mp hm
 obtain ⟨q,h2,hm⟩:=QF.mp hm
 obtain ⟨t,h3,hm⟩:=QF.mp hm
 obtain ⟨μ',h4,hm⟩:=QR.mp hm
 rcases h _ _ _ _ _ h4 with z|z
 ·exact .inl (QF.mpr ⟨p,h1,QF.mpr ⟨q,h2,QF.mpr ⟨t,h3,QR.mpr ⟨μ',z,hm⟩⟩⟩⟩)
 ·exact .inr (QF.mpr ⟨p,h1,QF.mpr ⟨q,h2,QF.mpr ⟨t,h3,QR.mpr ⟨μ',z,hm⟩⟩⟩⟩)
theorem B4 {st:Stmt}{i:Nat}:QS X st (bK i bG):=⟨fun a2j s σ H D I q=>by
 obtain ⟨π,ρ,μ,fl,ρ',μ',R,E,hm,k⟩:=q
 cases hm⟩
end
end L3
namespace L3
open PySem L2
noncomputable def B5 {α:Type}(xs:List α)(k:Nat)(d:α):List α:=xs.take k++d::xs.drop k
theorem Vals.ins {xs:List V}{us:List QL}(h:Vals xs us)(k:Nat){v:V}{u:QL}(r:RelV v u):Vals (B5 xs k v) (B5 us k u):=(h.take k).append (.cons r (h.drop k))
section
variable {X:Cx}
end
section
variable {X:Cx}
end
noncomputable def vF:List D->Option (List Str)
 | []=>some []
 | .str x::r=>(vF r).map (x::·)
 | _=>none
noncomputable def gJ (f:D->List D->Hm->Option (D×Hm))(mo:ME)(ms:MA):ME:=fun ρ μ=>(mo ρ μ).bind fun p=>match p.1 with
 | .str x=>(ms ρ p.2).bind fun q=>f (.str x) q.1 q.2
 | _=>none
section
variable {X:Cx}{e o:Q1}{mo:ME}{apos cpos:Ta}{es:List Q1}{ms:MA}{n:Nat}
theorem LI {K:QH}{f:D->List D->Hm->Option (D×Hm)}{r:V->List V->Hp->VK->Prop}(hf:cV K f r):∀ σ H Q,tM K (gJ f mo ms) σ H Q->tB K "str" r (tM K mo) (dE K ms) σ H Q:=by
 rintro σ H Q ⟨π,ρ,μ,d,μ',R,E,hm,k⟩
 obtain ⟨⟨x,μ1⟩,h1,hm⟩:=QF.mp hm
 cases x with
 | str z=>
  obtain ⟨⟨xs,μ2⟩,h2,hm⟩:=QF.mp hm
  refine ⟨π,ρ,μ,_,μ1,R,E,h1,fun π1 v1 H1 e1 R1 i1=>?_⟩
  cases i1
  refine ⟨rfl,π1,ρ,μ1,xs,μ2,R1,E.mono e1,h2,fun π2 vs H2 e2 R2 i2=>?_⟩
  exact hf π2 H2 μ2 _ xs d μ' _ vs Q R2 (.str _) i2 hm (k.after (e1.trans e2))
 | _=>cases hm
theorem LJ {f:D->List D->Hm->Option (D×Hm)}{r:V->List V->Hp->VK->Prop}{name:Str}{id:String}(slot:a0F "str" name id) (hty:Xh (.builtin id)=pure (.type "method_descriptor")) (hm:dD X id r)(hf:cV X.K f r)
  (ho:QE X o mo)(ha:QA X (e::es) ms n)(hs:iH o=true)(hl:(apos.endLine == cpos.line)=true)(hn:(e::es).length<30):QE X (.Call (.Attribute o name apos) (e::es) [] cpos) (gJ f mo ms):=by
 have hst:=ha.s
 have hst':=hst
 rw [Sa,Q7] at hst'
 exact ⟨bT (z8 PySem.F.plainAttrs_str slot hty hm ho.h ha.h (iI hs) (uM hst hn) hl (eQ hst'.1) (i8 hst'.2)) (LI hf)⟩
end
theorem B6:∀ {ds:List D}{k:List Str},vF ds=some k->ds=k.map D.str
 | [],k,h=>by cases h;rfl
 | d::ds,k,h=>by
  cases d with
  | str i=>
   obtain ⟨k',h1,h2⟩:=QR.mp h
   subst h2
   rw [B6 h1];rfl
  | _=>cases h
theorem strs_of' {K:QH}{π:Nat->Addr}{n:Nat}{H:Hp}:∀ {vs:List V}{k:List Str},IsDs K π n H vs (k.map D.str)->vs=k.map V.str
 | _,[],h=>by cases h;rfl
 | _,i::k,h=>by
  cases h with
  | cons h t=>cases h;rw [strs_of' t];rfl
noncomputable def gM (is:List Int):List Int:=is.mergeSort fun a b=>decide (a<=b)
theorem LK {is ns:List Int}(hp:ns.Perm is)(hs:ns.Pairwise (·<=·)):ns=gM is:=by
 have h1:(gM is).Perm is:=Y7 _ _
 have h2:(gM is).Pairwise (·<=·):=by
  have:=Yt (le:=fun a b:Int=>decide (a<=b)) (fun a b c h1 h2=>by simp only [decide_eq_true_eq] at *;omega) (fun a b=>by simp only [UZ,decide_eq_true_eq];omega) is
  exact this.imp fun h=>by simpa using h
 exact VR (le:=fun a b:Int=>a<=b) (fun a b _ _ h1 h2=>by omega) hs h2 (hp.trans h1.symm)
noncomputable def vG:MF:=fun ds μ=>match ds with
 | [x]=>(mG μ x).bind fun xs=>(qA xs).bind fun is=>if is.length<64 then some (.loc μ.length,μ++[.lst ((gM is).map D.int)]) else none
 | _=>none
noncomputable def vH (K:QH):List V->Hp->VK->Prop:=fun xs H Q=>∃ (p:Addr)(is:List Int),xs=[.ref p]/\SqL K H p (is.map V.int)/\is.length<64/\∀ l,H l=none->Q (.ref l) (aE H l (.lst ((gM is).map V.int)))
theorem LL {K:QH}:cH K vG (vH K):=by
 intro π H μ xs d μ' vs Q R i hm k
 unfold vG at hm
 split at hm
 ·obtain ⟨ys,h1,hm⟩:=QF.mp hm
  obtain ⟨is,h2,hm⟩:=QF.mp hm
  split at hm
  ·rename_i hb
   cases hm
   cases i with
   | cons i t=>
    cases t
    obtain ⟨p,ws,rfl,q,hd⟩:=uX R i h1
    rw [uW h2] at hd
    have:=ints_of' hd
    subst this
    refine ⟨p,is,rfl,q,hb,fun l hl=>?_⟩
    obtain ⟨e2,R2,_⟩:=R.alloc (c:=.lst ((gM is).map D.int)) (o:=.lst ((gM is).map V.int)) hl (qJ _)
    exact k _ _ _ e2 R2 eG
  ·cases hm
 ·cases hm
theorem call_sortI {X:Cx}:CallR X (.builtin "sorted") (vH X.K):=by
 intro a2j s σ H xs us Q I r h
 obtain ⟨p,is,rfl,hq,h64,k⟩:=h
 obtain ⟨u,rfl,ru⟩:=dC r
 cases ru
 obtain ⟨its,rv,pl,hz⟩:=I.list hq
 have hlen:=rv.length
 rw [QY] at hlen
 refine a1v pl.isList (sW rv) (by omega) fun out ns' a1 a2 a3=>?_
 obtain ⟨e,he⟩:=VE s.heap its out
 have hn:H (s.heap.objs.size+1)=none:=I.hok.fresh (VG _)
 have e1:ns'=gM is:=LK a2 a3
 subst e1
 refine ⟨.ref (s.heap.objs.size+1),_,I.laid (t':=s.toks) (a:=s.heap.objs.size+1) (o:=.lst ((gM is).map V.int)) (fun b ob z=>Vq z) (VG _) ?_,rfl,k _ hn⟩
 have hl2:(gM is).length<=Q6:=by
  have:=a2.length_eq
  have h5:=Sn
  omega
 refine ⟨by rw [QY];exact hl2,out.toList,e,tD a1,?_⟩
 rw [he]
noncomputable def vJ:MF:=fun ds μ=>match ds with
 | [x]=>(mG μ x).bind fun xs=>(vF xs).bind fun ss=>if 2<=ss.length/\ss.Nodup then some (.loc μ.length,μ++[.lst ((f9 ss).map D.str)]) else none
 | _=>none
theorem B7 {K:QH}{π:Nat->Addr}{n:Nat}{H:Hp}:∀ (k:List Str),IsDs K π n H (k.map V.str) (k.map D.str)
 | []=>.nil
 | x::k=>.cons (.str x) (B7 k)
theorem LM {K:QH}:cH K vJ (u9 K):=by
 intro π H μ xs d μ' vs Q R i hm k
 unfold vJ at hm
 split at hm
 ·obtain ⟨ys,h1,hm⟩:=QF.mp hm
  obtain ⟨ss,h2,hm⟩:=QF.mp hm
  split at hm
  ·rename_i hb
   cases hm
   cases i with
   | cons i t=>
    cases t
    obtain ⟨p,ws,rfl,q,hd⟩:=uX R i h1
    rw [B6 h2] at hd
    have:=strs_of' hd
    subst this
    refine ⟨p,ss,rfl,q,hb.1,hb.2,fun l hl=>?_⟩
    obtain ⟨e2,R2,_⟩:=R.alloc (c:=.lst ((f9 ss).map D.str)) (o:=.lst ((f9 ss).map V.str)) hl (B7 _)
    exact k _ _ _ e2 R2 eG
  ·cases hm
 ·cases hm
noncomputable def vK:MF:=fun ds μ=>match vG ds μ with
 | some r=>some r
 | none=>vJ ds μ
theorem LN {K:QH}:cH K vK (fun xs H Q=>vH K xs H Q\/u9 K xs H Q):=by
 intro π H μ xs d μ' vs Q R i hm k
 unfold vK at hm
 split at hm
 ·rename_i r hr
  cases hm
  exact .inl (LL π H μ xs d μ' vs Q R i hr k)
 ·exact .inr (LM π H μ xs d μ' vs Q R i hm k)
end L3
namespace L3
open PySem L2
section
variable {prog:Rk}{w:RG}{A:Rw}{E:QL->QM->Prop}{s:QM}{r:Addr}{Q:Bool->QM->Prop}
theorem LO:Xi (.type "list_reverseiterator") "__len__" = pure none:=by rw [Yl,WM];kernel_rfl
theorem LP:Xi (.type "list_reverseiterator") "__length_hint__" = pure (some (.builtin "list_reverseiterator.__length_hint__")):=by rw [Yl,WM];kernel_rfl
theorem LQ (hT:s.TypeIs (.ref r) "list_reverseiterator") (h:Q false s):Ri (Rl prog w) A (WS (.ref r)) Q E s:=by
 unfold WS
 refine QK (Va hT LO ?_)
 dsimp only
 refine UD (fun hab=>absurd hab (by decide +kernel)) (fun _=>?_)
 refine UD (fun hab=>absurd hab (by decide)) (fun _=>?_)
 refine QK (Va hT LP ?_)
 generalize aW:("list_reverseiterator.__length_hint__":String)=id0
 wp_delta
 rw [show splitId id0=some ("list_reverseiterator","__length_hint__") from by subst aW;decide +kernel]
 subst aW
 refine QK (UW (T:="list_reverseiterator") (b:=true) hT (by rw [isSubtype_type];kernel_rfl) ?_)
 refine UD (fun hab=>absurd hab (by decide)) (fun _=>?_)
 refine UD (fun _=>?_) (fun hab=>absurd (by decide +kernel) hab)
 refine UD (fun hab=>absurd hab (by decide +kernel)) (fun _=>?_)
 exact QX h
end
section
variable {prog:Rk}{w:RG}{A:Rw}{E:QL->QM->Prop}{s:QM}{p a:Addr}{its:Array QL}
theorem LR {R:X7->QM->Prop}(hh:A.handled=none)(hit:s.heap.IsRevIter p a ((its.size:Int) - 1))(hl:s.heap.IsList a its)(hap:a≠p)(S:Addr)(hSr:S≠p)(hSd:S≠a)(res:QL)(c₀:Nat)(hS:s.heap.get? S=some { cls:=.type "list",data:=.seq #[] c₀ })
  (hR:∀ h' tk acc' c',(∀ b o,b≠S->b≠p->s.heap.get? b=some o->h'.get? b=some o)->h'.get? S=some { cls:=.type "list",dict:=none,data:=.seq acc' c',slots:=#[] }->ItemsOf (fun i v=>its[its.size - 1 - i]? = some v) acc' its.size->R (.ok (.ret res)) { s with heap:=h',toks:=tk }) (hn:its.size<=Q6) :
  Ri (Rl prog w) A.in1 (S4 (.ref S) (.ref p) res)
   (fun fin s'=>match fin with|.done f=>R (.ok f) s'|.again c'=>c'.quiet=true/\Vz (Rl prog w) A c' R s') (fun e s'=>R (.error e) s') s:=by
 have hSf:S∉[p,a]:=by simp only [RD,List.not_mem_nil,or_false,not_or];exact ⟨hSr,hSd⟩
 have W:=Walks.listRev (prog:=prog) (w:=w) (A:=A.in1) hh p a hap its
 have key:∀ (h:Si)(c₁ tk:Nat),h.IsRevIter p a ((its.size:Int) - 1)->h.IsList a its->(∀ b o,b≠S->s.heap.get? b=some o->h.get? b=some o)->
   h.get? S=some { cls:=.type "list",data:=.seq #[] c₁ }->Vz (Rl prog w) A (.builtin "list.extend.loop" ⟨[.ref S,.ref p,res],[]⟩) R { s with heap:=h,toks:=tk }:=by
  intro h c₁ tk hst hst2 hk hS₁
  refine codeAny_extend_loopS W.toS hn S hSf res its.size 0 _ #[] c₁ rfl (Su _) ⟨Su _,by simpa using hst,hst2⟩ hS₁ (ItemsOf.nil _) fun s' acc' c' hm hS' hacc=>?_
  rw [Moved.eq_with hm]
  refine hR s'.heap s'.toks acc' c' (fun b o hb hbp e=>hm.heap b o (fun hmem=>?_) (hk b o hb e)) hS' hacc
  rcases RD.mp hmem with e'|hmem
  ·exact hb e'
  ·exact hbp (RQ.mp hmem)
 unfold S4
 refine QK (Wz (T:="list_reverseiterator") hit.typeIs ?_)
 have h1:UC (.ref S) (.ref p)=false:=by simp [UC,hSr]
 have h2:(Tu "list_reverseiterator" == Tu "list")=false:=by decide +kernel
 have h3:(Tu "list_reverseiterator" == Tu "tuple")=false:=by decide +kernel
 simp only [h1,h2,h3,Yj,Q3,if_false]
 refine QK (wpAny_pyIter_revIter hit ?_)
 refine QK (RP (LQ hit.typeIs ?_))
 refine UD (fun hab=>absurd hab (by decide +kernel)) (fun _=>QX ⟨U5 PySem.F.plain_extend_loop _,?_⟩)
 exact key _ c₀ s.toks hit hl (fun b o _ e=>e) hS
theorem LS {R:X7->QM->Prop}(hh:A.handled=none)(hit:s.heap.IsRevIter p a ((its.size:Int) - 1))(hl:s.heap.IsList a its)(hap:a≠p)(S:Addr)(hSr:S≠p)(hSd:S≠a)(hS:s.heap.get? S=some { cls:=.type "list",data:=.seq #[] })
  (hR:∀ h' tk acc' c',(∀ b o,b≠S->b≠p->s.heap.get? b=some o->h'.get? b=some o)->h'.get? S=some { cls:=.type "list",dict:=none,data:=.seq acc' c',slots:=#[] }->ItemsOf (fun i v=>its[its.size - 1 - i]? = some v) acc' its.size->R (.ok (.ret .none)) { s with heap:=h',toks:=tk }) (hn:its.size<=Q6) :
  Ri (Rl prog w) A.in1 (Builtin.«list.__init__» ⟨[.ref S,.ref p],[]⟩)
   (fun fin s'=>match fin with|.done f=>R (.ok f) s'|.again c'=>c'.quiet=true/\Vz (Rl prog w) A c' R s') (fun e s'=>R (.error e) s') s:=by
 show Ri _ _ (do let old <- Xd (.ref S);a1N (.ref S) (fun _=>#[]);letGo old.toList.reverse;S4 (.ref S) (.ref p) .none) _ _ s
 refine QK ?_
 unfold Xd
 refine QK (wpAny_seqItems hS rfl (QX ?_))
 show Ri _ _ (a1a S (fun _=>#[]) >>= fun _=>letGo (#[]:Array QL).toList.reverse >>= fun _=>S4 (.ref S) (.ref p) .none) _ _ s
 refine QK (WE hS rfl ?_)
 have hS₂:=SO (RW (fun _=>(#[]:Array QL))) hS rfl
 have oth:∀ b o,b≠S->s.heap.get? b=some o->(s.heap.update S (RW (fun _=>(#[]:Array QL)))).get? b=some o:=
  fun b o hb e=>(Sg _ _ (Sw hb)).trans e
 refine QK (Z6 ?_)
 refine LR hh (hit.at fun o e=>oth p o (Sw hSr) e) (let ⟨o,ho,x⟩:=hl;⟨o,oth a o (Sw hSd) ho,x⟩) hap S hSr hSd .none _ hS₂ (fun h' tk acc' c' hk hS' hacc=>?_) hn
 exact hR h' tk acc' c' (fun b o hb hb2 e=>hk b o hb hb2 (oth b o hb e)) hS' hacc
theorem LU {Q:QL->QM->Prop}(hh:A.handled=none)(hit:s.heap.IsRevIter p a ((its.size:Int) - 1))(hl:s.heap.IsList a its)(hap:a≠p)(hn:its.size<=Q6)
  (hQ:∀ h' tk acc' c',(∀ b o,b≠p->s.heap.get? b=some o->h'.get? b=some o)->h'.get? s.heap.objs.size=some { cls:=.type "list",dict:=none,data:=.seq acc' c',slots:=#[] }->ItemsOf (fun i v=>its[its.size - 1 - i]? = some v) acc' its.size->Q (.ref s.heap.objs.size) { s with heap:=h',toks:=tk }) :
  Ri (Rl prog w) A (call (.type "list") [.ref p]) Q E s:=by
 refine YB (Q₁:=fun obj s₁=>obj=.ref s.heap.objs.size/\s₁ = { s with heap:=s.heap.push { cls:=.type "list",data:=.seq #[] } }) PySem.F.called_list (PySem.F.typeCall_list_1 _) PySem.F.entry_list_init
  (code_list_new _ ⟨rfl,rfl⟩) fun obj s₁ h₁=>?_
 obtain ⟨rfl,rfl⟩:=h₁
 have hS:(s.heap.push { cls:=.type "list",data:=.seq #[] }).get? s.heap.objs.size=some { cls:=.type "list",data:=.seq #[] }:=Rj _ rfl
 have hp:p<s.heap.objs.size:=let ⟨o,ho,_⟩:=hit;Q4 ho
 have ha:a<s.heap.objs.size:=let ⟨o,ho,_⟩:=hl;Q4 ho
 refine ⟨⟨_,hS,rfl⟩,PySem.F.args_list_init_2 _ _,LS (A:=A.in1) hh (hit.at fun o e=>QU _ e) (let ⟨o,ho,x⟩:=hl;⟨o,QU _ ho,x⟩) hap _ (S7 hp) (S7 ha) hS (fun h' tk acc' c' hk hS' hacc=>?_) hn⟩
 exact ⟨rfl,hQ h' tk acc' c' (fun b o hb e=>hk b o (Ro (Q4 e)) hb (QU _ e)) hS' hacc⟩
end
noncomputable def B8 (K:QH):List V->Hp->VK->Prop:=fun xs H Q=>∃ (p:Addr)(ys:List V),xs=[.ref p]/\SqL K H p ys/\∀ l,H l=none->Q (.ref l) (aE H l (.lst ys.reverse))
theorem B9:∀ {ys:List V}{its:List QL},Vals ys its->Vals ys.reverse its.reverse
 | _,_,.nil=>.nil
 | _,_,.cons h t=>by
  rw [Ux,Ux]
  exact (B9 t).append (.cons h .nil)
theorem LV {X:Cx}{e:Q1}{t:TA}{p p2 pos pos2:Ta}(hc:X.calm=true)(hg:Gl X "list") (hm:X.mg "list" = none) (hg2:Gl X "reversed") (hm2:X.mg "reversed" = none) (ha:PA X [e] t)(hs:RK [e] X.env=(false,eval e X.env)::RK [] X.env) :
  PE X (.Call (.Name "list" p) [.Call (.Name "reversed" p2) [e] [] pos2] [] pos) (o9 (B8 X.K) t):=by
 intro a2j s σ H Q I h
 refine Tr (gX I hg hm Vi ?_ (by decide) (by decide))
 refine S3 ?_ rfl rfl
 show Ri _ _ (spliced ((false,eval (.Call (.Name "reversed" p2) [e] [] pos2) X.env)::Uk pos (RK [] X.env))) _ _ s
 refine VS (Tr (gX I hg2 hm2 ZD ?_ (by decide) (by decide)))
 refine S3 (aJ (ha pos2 a2j s σ H _ I h) fun us s1 ⟨vs,H1,I1,r1,q1⟩=>?_) hs rfl
 obtain ⟨q,ys,rfl,hq,k⟩:=q1
 obtain ⟨u,rfl,ru⟩:=dC r1
 cases ru
 obtain ⟨its,r',pl,hz⟩:=I1.list hq
 have hlen:=r'.length
 have hl:=pl.isList
 have hq1:q<s1.heap.objs.size:=let ⟨o,ho,_⟩:=hl;Q4 ho
 refine call_reversed_list hl ?_
 refine V0 ?_
 refine LU (I1.ok.hd hc) (p:=s1.heap.objs.size) (a:=q) (its:=its.toArray) ⟨_,Rj _ rfl,rfl,rfl⟩ (let ⟨o,ho,x⟩:=hl;⟨o,QU _ ho,x⟩) (Ro hq1) (by simp only [QZ]<;>omega) fun h' tk acc' c' kp hS hacc=>?_
 have hac:acc'.toList=its.reverse:=by
  refine T6 fun i=>?_
  have hn:acc'.size=its.length:=by simpa using hacc.1
  by_cases hi:i<its.length
  ·have h1:=hacc.2 i acc'[i] (UQ (by omega))
   rw [Sx,UQ (by omega),<- h1,SA hi,QZ,RU]
  ·rw [R8 (by rw [TJ];omega),R8 (by rw [SF];omega)]
 have hsz:(s1.heap.push (revObj q ((its.toArray.size:Int) - 1))).objs.size=s1.heap.objs.size+1:=by simp [Heap.push]
 rw [hsz] at hS ⊢
 refine ⟨.ref (s1.heap.objs.size+1),_,I1.laid (t':=tk) (a:=s1.heap.objs.size+1) (o:=.lst ys.reverse) (fun b o e=>kp b o (Ro (Q4 e)) (QU _ e)) (by omega) ⟨by rw [SF];exact hz,its.reverse,c',B9 r',by rw [<- hac];simpa using hS⟩,rfl,k _ (I1.hok.fresh (by omega))⟩
noncomputable def jB:MF:=fun ds μ=>match ds with
 | [.loc a]=>match μ[a]? with
  | some (.lst xs)=>some (.loc μ.length,μ++[.lst xs.reverse])
  | _=>none
 | _=>none
theorem LW {K:QH}:cH K jB (B8 K):=by
 intro π H μ xs d μ' vs Q R i hm k
 unfold jB at hm
 split at hm
 ·rename_i a
  split at hm
  ·rename_i ys hy
   cases hm
   cases i with
   | cons i t=>
    cases t
    cases i
    obtain ⟨ws,h1,h2⟩:=R.lst a ys hy
    refine ⟨_,ws,rfl,.of h1,fun l hl=>?_⟩
    obtain ⟨e2,R2,_⟩:=R.alloc (c:=.lst ys.reverse) (o:=.lst ws.reverse) hl (Bf h2)
    exact k _ _ _ e2 R2 eG
  ·cases hm
 ·cases hm
theorem LX {X:Cx}{e:Q1}{ms:MA}{n:Nat}{p p2 pos pos2:Ta}(hc:X.calm=true)(hm1:X.mg "list" = none) (hm2:X.mg "reversed" = none) (ha:QA X [e] ms n)(hg1:Gl X "list") (hg2:Gl X "reversed") :
  QE X (.Call (.Name "list" p) [.Call (.Name "reversed" p2) [e] [] pos2] [] pos) (aK jB ms):=by
 have hs:=ha.s
 rw [Sa,Q7] at hs
 exact ⟨bT (LV hc hg1 hm1 hg2 hm2 ha.h (eQ hs.1)) (tL LW)⟩
end L3
namespace L3
open PySem L2
end L3
namespace L3
open PySem L2
noncomputable abbrev aX:=List (List Int×Addr×V)
noncomputable def aQ (ps:aX)(ws:List QL):List (List Int×Addr×QL):=WZ (fun p w=>(p.1,p.2.1,w)) ps ws
theorem qP {P:Rk}{w:RG}:∀ (ps:aX)(ws:List QL),WZ tH ps ws=(aQ ps ws).map (a0A (SN (Tt P w)))
 | [],_=>by simp [aQ]
 | p::ps,[]=>by simp [aQ]
 | p::ps,u::ws=>by
  have ih:=qP (P:=P) (w:=w) ps ws
  unfold aQ at ih ⊢
  rw [RO,RO,Ra,ih]
  rfl
theorem iQ:∀ {ps:aX}{ws:List QL},Vals (ps.map (·.2.2)) ws->(aQ ps ws).map (·.1)=ps.map (·.1)
 | [],_,_=>by simp [aQ]
 | p::ps,_,.cons r t=>by
  have ih:=iQ (ps:=ps) t
  unfold aQ at ih ⊢
  rw [RO,Ra,Ra,ih]
theorem Ca:∀ {ps:aX}{ws:List QL}{x:List Int×Addr×QL},x∈aQ ps ws->∃ p∈ps,p.1=x.1/\p.2.1=x.2.1
 | [],_,x,h=>by simp [aQ] at h
 | p::ps,[],x,h=>by simp [aQ] at h
 | p::ps,u::ws,x,h=>by
  unfold aQ at h
  rw [RO] at h
  rcases RD.mp h with e|h
  ·subst e;exact ⟨p,Ru ..,rfl,rfl⟩
  ·obtain ⟨q,hq,e⟩:=Ca (ps:=ps) (ws:=ws) h
   exact ⟨q,Rm _ hq,e⟩
noncomputable def cB (ps:aX)(k:List Int):Option V:=(ps.find? fun p=>decide (p.1=k)).map (·.2.2)
noncomputable def cO (ps:aX)(k:List Int)(b:Addr)(v:V):aX:=if (cB ps k).isSome then ps.map (fun p=>if p.1=k then (p.1,p.2.1,v) else p) else ps++[(k,b,v)]
theorem iR:∀ {ps:aX}{ws:List QL},Vals (ps.map (·.2.2)) ws->∀ k,RelO (cB ps k) ((UM (aQ ps ws) k).map (·.2))
 | [],_,.nil,k=>by simp [cB,aQ,UM];exact Tg
 | p::ps,_,.cons r t,k=>by
  have ih:=iR (ps:=ps) t k
  unfold cB UM aQ at ih ⊢
  rw [RO,Sq,Sq]
  by_cases e:p.1=k
  ·simp only [e,decide_true]
   exact r
  ·simp only [e,decide_false]
   exact ih
theorem qQ (ps:aX)(k:List Int)(b:Addr)(v:V):(cO ps k b v).length<=ps.length+1:=by
 unfold cO;split<;>simp
theorem Cb {k:List Int}{v:V}{u:QL}(ru:RelV v u):∀ {ps:aX}{ws:List QL},Vals (ps.map (·.2.2)) ws->
  ∃ ws',Vals ((ps.map fun p=>if p.1=k then (p.1,p.2.1,v) else p).map (·.2.2)) ws'/\(aQ ps ws).map (a1Z k u)=aQ (ps.map fun p=>if p.1=k then (p.1,p.2.1,v) else p) ws'
 | [],_,.nil=>⟨[],.nil,by simp [aQ]⟩
 | p::ps,_,.cons (b:=w) r t=>by
  obtain ⟨ws',h1,h2⟩:=Cb ru (ps:=ps) t
  by_cases e:p.1=k
  ·refine ⟨u::ws',?_,?_⟩
   ·rw [Ra,Ra,if_pos e]
    exact .cons ru h1
   ·unfold aQ at h2 ⊢
    rw [RO,Ra,h2,Ra,if_pos e,RO]
    unfold a1Z
    rw [if_pos e]
  ·refine ⟨w::ws',?_,?_⟩
   ·rw [Ra,Ra,if_neg e]
    exact .cons r h1
   ·unfold aQ at h2 ⊢
    rw [RO,Ra,h2,Ra,if_neg e,RO]
    unfold a1Z
    rw [if_neg e]
theorem Cd {k:List Int}{b:Addr}{v:V}{u:QL}:∀ {ps:aX}{ws:List QL},Vals (ps.map (·.2.2)) ws->aQ ps ws++[(k,b,u)]=aQ (ps++[(k,b,v)]) (ws++[u])
 | [],_,.nil=>by simp [aQ]
 | p::ps,_,.cons r t=>by
  have ih:=Cd (k:=k) (b:=b) (v:=v) (u:=u) (ps:=ps) t
  unfold aQ at ih ⊢
  rw [RO,SY,ih,SY,SY,RO]
theorem vL {ps:aX}{ws:List QL}(r:Vals (ps.map (·.2.2)) ws)(k:List Int)(b:Addr){v:V}{u:QL}(ru:RelV v u) :
  ∃ ws',Vals ((cO ps k b v).map (·.2.2)) ws'/\Yv (aQ ps ws) k b u=aQ (cO ps k b v) ws':=by
 have e:=(iR r k).isSome_eq
 rw [U3] at e
 unfold cO Yv
 rw [e]
 by_cases h:(UM (aQ ps ws) k).isSome=true
 ·rw [if_pos h,if_pos h]
  exact Cb ru r
 ·rw [if_neg h,if_neg h]
  refine ⟨ws++[u],?_,Cd r⟩
  rw [Th]
  exact W9 r ru
section
variable {X:Cx}{a2j:List (Addr×Td)}{σ:St}{H:Hp}{s:QM}{a:Addr}{ps:aX}
noncomputable def bW (K:QH)(H:Hp)(ps:aX):Prop:=∀ p∈ps,SqT K H p.2.1 (p.1.map V.int)
theorem eU (I:Inv X a2j σ H s)(e:Rd H a (aH a ps))(hk:bW X.K H ps):(a == RX)=false/\ps.length<=Q6 /\
  ∃ ws,Vals (ps.map (·.2.2)) ws/\s.heap.DictOfH (SN (Tt X.prog X.w)) a (aQ ps ws):=by
 obtain ⟨⟨ws,r,hs,hl,o,es,ep,h1,h2,h3,h4,h5⟩,_⟩:=(show ObjOk X.prog X.w H s.heap a (aH a ps) from e.ok I.hok)
 refine ⟨hs,hl,ws,r,o,es,ep,h1,h2,h3,by rw [h4];exact qP ps ws,fun x hx=>?_,by rw [iQ r];exact h5⟩
 obtain ⟨p,hp,e1,e2⟩:=Ca hx
 rw [<- e1,<- e2]
 exact fG I (hk p hp)
theorem oB {P:Rk}{w:RG}{H':Hp}{h':Si}{ws:List QL}(hs:(a == RX)=false)(hl:ps.length<=Q6)(r:Vals (ps.map (·.2.2)) ws)(d:h'.DictOfH (SN (Tt P w)) a (aQ ps ws)):ObjOk P w H' h' a (aH a ps):=by
 obtain ⟨o,es,ep,h1,h2,h3,h4,_,h5⟩:=d
 refine ⟨⟨ws,r,hs,hl,o,es,ep,h1,h2,h3,by rw [h4,qP (P:=P) (w:=w)],by rw [<- iQ r];exact h5⟩,⟨o,h1⟩,?_⟩
 rintro g1 g2 ⟨ws,r,hs,hl,o,es,ep,h1,h2,h3,h4,h5⟩ hh
 exact ⟨ws,r,hs,hl,o,es,ep,hh o h1,h2,h3,h4,h5⟩
theorem LY (I:Inv X a2j σ H s)(e:Rd H a (aH a ps))(hk:bW X.K H ps):s.TypeIs (.ref a) "dict":=by
 obtain ⟨_,_,ws,_,d⟩:=eU I e hk
 exact d.typeIs
theorem iS {A:Rw}(hu:A.units+1<SK):(SN (Tt X.prog X.w)).room A.in1:=by
 show A.in1.units<SK
 rw [kD];omega
variable {A:Rw}{E:QL->QM->Prop}{b:Addr}{k:List Int}{v:V}
theorem LZ {Q:QL->QM->Prop}(hu:A.units+1<SK)(I:Inv X a2j σ H s)(e:Rd H a (aH a ps))(hk:bW X.K H ps)(hb:SqT X.K H b (k.map V.int))(hv:cB ps k=some v)
  (h:∀ w' s',Inv X a2j σ H s'->RelV v w'->Q w' s'):Ri (Rl X.prog X.w) A (XE (.ref a) (.ref b)) Q E s:=by
 obtain ⟨hs,hl,ws,r,d⟩:=eU I e hk
 obtain ⟨w',hw,rw'⟩:=RelO.some_of (v:=v) (o:=(UM (aQ ps ws) k).map (·.2)) (by rw [<- hv];exact iR r k)
 obtain ⟨p,hp,hp2⟩:=QR.mp hw
 refine a0u (iS hu) (fG I hb) d hp ?_
 rw [hp2]
 exact h w' _ (I.tok _) rw'
theorem L0 {Q:QL->QM->Prop}(hu:A.units+1<SK)(I:Inv X a2j σ H s)(e:Rd H a (aH a ps))(hk:bW X.K H ps)(hb:SqT X.K H b (k.map V.int))
  (h:∀ s',Inv X a2j σ H s'->Q (.bool (cB ps k).isSome) s'):Ri (Rl X.prog X.w) A (R6 .In (.ref b) (.ref a)) Q E s:=by
 obtain ⟨hs,hl,ws,r,d⟩:=eU I e hk
 refine wpAny_in_heap (iS hu) (fG I hb) hs d ?_
 have q:=(iR r k).isSome_eq
 rw [U3] at q
 rw [<- q]
 exact h _ (I.tok _)
theorem L1 {Q:QL->QM->Prop}(hu:A.units+1<SK)(I:Inv X a2j σ H s)(e:Rd H a (aH a ps))(hk:bW X.K H ps)(hb:SqT X.K H b (k.map V.int))
  (h:∀ s',Inv X a2j σ H s'->Q (.bool (!(cB ps k).isSome)) s'):Ri (Rl X.prog X.w) A (R6 .NotIn (.ref b) (.ref a)) Q E s:=by
 obtain ⟨hs,hl,ws,r,d⟩:=eU I e hk
 refine a1u (iS hu) (fG I hb) hs d ?_
 have q:=(iR r k).isSome_eq
 rw [U3] at q
 rw [<- q]
 exact h _ (I.tok _)
theorem L4 {Q:Unit->QM->Prop}{u:QL}(hu:A.units+1<SK)(I:Inv X a2j σ H s)(e:H a=some (aH a ps))(hk:bW X.K H ps)(hb:SqT X.K H b (k.map V.int))(hz:ps.length<Q6)(ru:RelV v u)
  (h:∀ s',Inv X a2j σ (aE H a (aH a (cO ps k b v))) s'->Q () s'):Ri (Rl X.prog X.w) A (setItem (.ref a) (.ref b) u) Q E s:=by
 obtain ⟨hs,hl,ws,r,d⟩:=eU I (.of e) hk
 have hx:(aQ ps ws).length<=Q6:=by
  have:=congrArg RN (iQ r)
  rw [QY,QY] at this
  omega
 refine a0s (hsz:=hx) (iS hu) (fG I hb) d fun h' d' hs'=>h _ ?_
 obtain ⟨ws',r',ex⟩:=vL r k b ru
 rw [ex] at d'
 have he:∃ q,h'.get? a=some q:=let ⟨q,_,_,hq,_⟩:=d';⟨q,hq⟩
 exact jZ I (by rw [e];exact Tg) hs' he (oB hs (by have:=qQ ps k b v;omega) r' d')
end
noncomputable def IsTs (K:QH)(π:Nat->Addr)(n:Nat)(H:Hp):aX->List (List Int×D)->Prop:=Vk fun p q=>p.1=q.1/\SqT K H p.2.1 (p.1.map V.int)/\IsD K π n H p.2.2 q.2
section
variable {K:QH}{π:Nat->Addr}{n:Nat}{H:Hp}{μ:Hm}
theorem L5 {b:Addr}{k:List Int}(h:IsD K π n H (.ref b) (.tup (k.map D.int))):SqT K H b (k.map V.int):=by
 cases h with
 | tup q t=>rw [ints_of' t] at q;exact q
theorem IsTs.of:∀ {ps:aX}{kvs:List (List Int×D)},ps.map (·.1)=kvs.map (·.1)->IsDs K π n H (ps.map fun p=>V.ref p.2.1) (kvs.map fun k=>D.tup (k.1.map D.int))->IsDs K π n H (ps.map (·.2.2)) (kvs.map (·.2))->IsTs K π n H ps kvs
 | [],[],_,_,_=>.nil
 | [],_::_,h,_,_=>by cases h
 | _::_,[],h,_,_=>by cases h
 | p::ps,q::kvs,h,h2,h3=>by
  cases h2 with
  | cons k1 k2=>
   cases h3 with
   | cons v1 v2=>
    rw [Ra,Ra,YY] at h
    refine .cons ⟨h.1,?_,v1⟩ (IsTs.of h.2 k2 v2)
    rw [h.1]
    exact L5 k1
theorem IsTs.keys:∀ {ps:aX}{kvs:List (List Int×D)},IsTs K π n H ps kvs->bW K H ps
 | _,_,.nil=>fun p hp=>nomatch hp
 | _,_,.cons h t=>fun p hp=>by
  rcases RD.mp hp with e|hp
  ·subst e;exact h.2.1
  ·exact IsTs.keys t p hp
theorem IsTs.to:∀ {ps:aX}{kvs:List (List Int×D)},IsTs K π n H ps kvs->ps.map (·.1)=kvs.map (·.1)/\IsDs K π n H (ps.map fun p=>V.ref p.2.1) (kvs.map fun k=>D.tup (k.1.map D.int))/\IsDs K π n H (ps.map (·.2.2)) (kvs.map (·.2))
 | _,_,.nil=>⟨rfl,.nil,.nil⟩
 | _,_,.cons (a:=p) (b:=q) h t=>by
  obtain ⟨h1,h2,h3⟩:=IsTs.to t
  refine ⟨by rw [Ra,Ra,h.1,h1],.cons ?_ h2,.cons h.2.2 h3⟩
  show IsD K π n H (.ref p.2.1) (.tup (q.1.map D.int))
  rw [<- h.1]
  exact .tup h.2.1 (qJ p.1)
theorem IsTs.val (k:List Int):∀ {ps:aX}{kvs:List (List Int×D)},IsTs K π n H ps kvs->(cB ps k=none/\bD kvs k=none)\/∃ v d,cB ps k=some v/\bD kvs k=some d/\IsD K π n H v d
 | _,_,.nil=>.inl ⟨rfl,rfl⟩
 | _,_,.cons (a:=p) (b:=q) h t=>by
  have ih:=IsTs.val k t
  unfold cB bD at ih ⊢
  rw [Sq,Sq,<- h.1]
  by_cases e:p.1=k
  ·simp only [e,decide_true]
   exact .inr ⟨_,_,rfl,rfl,h.2.2⟩
  ·simp only [e,decide_false]
   exact ih
theorem IsTs.put {ps:aX}{kvs:List (List Int×D)}(h:IsTs K π n H ps kvs)(k:List Int){b:Addr}{v:V}{d:D}(hb:SqT K H b (k.map V.int))(hv:IsD K π n H v d):IsTs K π n H (cO ps k b v) (cU kvs k d):=by
 have e:(cB ps k).isSome=(bD kvs k).isSome:=by
  rcases h.val k with ⟨h1,h2⟩|⟨v,d,h1,h2,_⟩<;>rw [h1,h2]<;>rfl
 have repl:∀ {ps:aX}{kvs:List (List Int×D)},IsTs K π n H ps kvs->IsTs K π n H (ps.map fun p=>if p.1=k then (p.1,p.2.1,v) else p) (kvs.map fun p=>if p.1=k then (p.1,d) else p):=by
  intro ps kvs h
  unfold IsTs at h
  induction h with
  | nil=>exact .nil
  | @cons p q ps qs h t ih=>
   rw [Ra,Ra]
   refine .cons ?_ ih
   by_cases z:p.1=k
   ·rw [if_pos z,if_pos (h.1.symm.trans z)]
    exact ⟨h.1,h.2.1,hv⟩
   ·rw [if_neg z,if_neg fun y=>z (h.1.trans y)]
    exact h
 unfold cO cU
 rw [e]
 split
 ·exact repl h
 ·exact W9 h ⟨rfl,hb,hv⟩
theorem dQ {a:Nat}{kvs:List (List Int×D)}(R:Rp K π H μ)(h:μ[a]? = some (.dT kvs)):∃ ps,H (π a)=some (aH (π a) ps)/\IsTs K π μ.length H ps kvs:=by
 obtain ⟨ps,h1,h2,h3,h4⟩:=R.dT a kvs h
 exact ⟨ps,h1,.of h2 h3 h4⟩
theorem qR {a:Nat}{kvs:List (List Int×D)}(R:Rp K π H μ)(h:μ[a]? = some (.dF kvs)):∃ ob ps,H (π a)=some (.frz ob (aH (π a) ps))/\IsTs K π μ.length H ps kvs:=by
 obtain ⟨ob,ps,h1,h2,h3,h4⟩:=R.dF a kvs h
 exact ⟨ob,ps,h1,.of h2 h3 h4⟩
theorem iT {v:V}{x:D}{k:List Int}(h:IsD K π n H v x)(e:bZ x=some k):∃ b,v=.ref b/\SqT K H b (k.map V.int):=by
 have:=Bs e
 subst this
 cases h with
 | tup q t=>rw [ints_of' t] at q;exact ⟨_,rfl,q⟩
end
noncomputable def kX:ME:=fun _ μ=>some (.loc μ.length,μ++[.dT []])
section
variable {X:Cx}{pos:Ta}
theorem Ce {P:Rk}{w:RG}{H:Hp}(h:Si)(hb:RX<h.objs.size):ObjOk P w H (h.push { cls:=.type "dict",data:=.dict #[] }) h.objs.size (aH h.objs.size []):=
 oB (ws:=[]) (beq_eq_false_iff_ne.mpr (Sw (Ro hb))) (Su _) .nil (a1M h)
noncomputable def L6:TE:=fun _ H Q=>∀ p,H p=none->Q (.ref p) (aE H p (aH p []))
theorem L7:PE X (.Dict [] [] pos) L6:=fun a2j s σ H Q I h=>
 wpAny_Dict_empty ⟨.ref s.heap.objs.size,_,I.laid (a:=s.heap.objs.size) (o:=aH s.heap.objs.size []) (t':=s.toks) (fun _ _ q=>QU _ q) (Q0 _) (Ce s.heap I.big),rfl,h _ (I.hok.fresh (Q0 _))⟩
theorem L8:QE X (.Dict [] [] pos) kX:=⟨bT L7 (by
 rintro σ H Q ⟨π,ρ,μ,d,μ',R,E,hm,k⟩ p hp
 cases hm
 obtain ⟨e1,R1,q1⟩:=R.alloc (c:=.dT []) (o:=aH p []) hp ⟨[],rfl,rfl,.nil,.nil⟩
 exact k _ _ _ e1 R1 eG)⟩
end
noncomputable def kY:D->D->Hm->Option (D×Hm)
 | .loc a,y,μ=>match μ[a]? with
  | some (.dT kvs)=>(bZ y).bind fun k=>(bD kvs k).map fun d=>(d,μ)
  | some (.dF kvs)=>(bZ y).bind fun k=>(bD kvs k).map fun d=>(d,μ)
  | _=>none
 | _,_,_=>none
section
variable {X:Cx}{a b e:Q1}{ma mb me:ME}{pos tpos:Ta}{td ty tv:TE}
noncomputable def Cf (K:QH):R2:=fun x y H Q=>∃ a b ps k v,x=.ref a/\y=.ref b/\Rd H a (aH a ps)/\bW K H ps/\SqT K H b (k.map V.int)/\cB ps k=some v/\Q v H
theorem L9 (hu:X.A.units+1<SK)(ho:PE X a td)(hi:PE X b ty)(hs:pI b):PE X (.Subscript a b pos) (fun σ H Q=>td σ H fun x H1=>ty σ H1 fun y H2=>Cf X.K x y H2 Q):=by
 intro a2j s σ H Q I h
 refine zO Xr.lookup hs (aJ (ho a2j s σ H _ I h) fun u s1 ⟨x,H1,I1,rx,q1⟩=>aJ (hi a2j s1 σ H1 _ I1 q1) fun iv s2 ⟨y,H2,I2,ry,a,b,ps,k,v,ex,ey,e,hk,hb,hv,q2⟩=>?_)
 subst ex ey
 obtain rfl:u=Q2 a:=rx
 obtain rfl:iv=Q2 b:=ry
 exact ⟨LY I2 e hk,LZ hu I2 e hk hb hv fun w' s3 I3 rw'=>⟨v,H2,I3,rw',q2⟩⟩
theorem Ma {K:QH}:bV K kY (Cf K):=by
 intro π H μ x y d μ' vx vy Q R ix iy hm k
 unfold kY at hm
 split at hm
 ·split at hm
  ·rename_i kvs hc
   obtain ⟨kk,h1,hm⟩:=QF.mp hm
   obtain ⟨d',h2,hm⟩:=QR.mp hm
   cases hm
   cases ix
   obtain ⟨ps,e1,T⟩:=dQ R hc
   obtain ⟨b,rfl,hb⟩:=iT iy h1
   rcases T.val kk with ⟨_,z⟩|⟨v,d2,z1,z2,z3⟩
   ·rw [z] at h2;cases h2
   ·rw [z2] at h2
    cases h2
    exact ⟨_,b,ps,kk,v,rfl,rfl,.of e1,T.keys,hb,z1,k π _ H .refl R z3⟩
  ·rename_i kvs hc
   obtain ⟨kk,h1,hm⟩:=QF.mp hm
   obtain ⟨d',h2,hm⟩:=QR.mp hm
   cases hm
   cases ix
   obtain ⟨ob,ps,e1,T⟩:=qR R hc
   obtain ⟨b,rfl,hb⟩:=iT iy h1
   rcases T.val kk with ⟨_,z⟩|⟨v,d2,z1,z2,z3⟩
   ·rw [z] at h2;cases h2
   ·rw [z2] at h2
    cases h2
    exact ⟨_,b,ps,kk,v,rfl,rfl,.inr ⟨ob,e1⟩,T.keys,hb,z1,k π _ H .refl R z3⟩
  ·cases hm
 ·cases hm
theorem Mb {k:Nat}(hr:Room k X.A)(ha:QE X a ma)(hb:QE X b mb)(h:kL b=true):QE X (.Subscript a b pos) (aB kY ma mb):=⟨bT (L9 (eN hr) ha.h hb.h (uC h)) (lJ Ma)⟩
end
section
variable {X:Cx}{o i e:Q1}{mo mi me:ME}{pos tpos:Ta}{td ty tv:TE}
noncomputable def Mc (K:QH)(td ty tv:TE):TS:=fun D σ H=>tv σ H fun v H1=>td σ H1 fun x H2=>ty σ H2 fun y H3=>∃ a b ps k,x=.ref a/\y=.ref b/\H3 a=some (aH a ps)/\bW K H3 ps/\SqT K H3 b (k.map V.int)/\ps.length<Q6/\D.nx σ (aE H3 a (aH a (cO ps k b v)))
theorem Md (hu:X.A.units+1<SK)(ho:PE X o td)(hi:PE X i ty)(hv:PE X e tv)(hs:Vo e (some (.Subscript o i tpos)) pos.line X.env=pure false) :
  PS X (.Assign [.Subscript o i tpos] e pos) (Mc X.K td ty tv):=by
 intro a2j s σ H D I h
 refine WB (aJ (hv a2j s σ H _ I h) fun r s1 ⟨v,H1,I1,rv,q1⟩=>aJ (ho a2j s1 σ H1 _ I1 q1) fun u s2 ⟨x,H2,I2,rx,q2⟩=>aJ (hi a2j s2 σ H2 _ I2 q2) fun iv s3 ⟨y,H3,I3,ry,a,b,ps,k,ex,ey,e,hk,hb,hz,q3⟩=>?_) hs
 subst ex ey
 obtain rfl:u=Q2 a:=rx
 obtain rfl:iv=Q2 b:=ry
 exact L4 hu I3 e hk hb hz rv fun s4 I4=>⟨σ,_,I4,q3⟩
theorem Me {kk:Nat}(hr:Room kk X.A)(ho:QE X o mo)(hi:QE X i mi)(he:QE X e me)(h:fX e=true):QS X (.Assign [.Subscript o i tpos] e pos) (iP kW mo mi me):=
 ⟨fE (Md (Ah hr) ho.h hi.h he.h (nW h)) (by
 rintro E σ H ⟨π,ρ,μ,fl,ρ',μ',R,EN,hm,k⟩
 obtain ⟨⟨x,μ1⟩,h1,hm⟩:=QF.mp hm
 obtain ⟨⟨y,μ2⟩,h2,hm⟩:=QF.mp hm
 obtain ⟨⟨z,μ3⟩,h3,hm⟩:=QF.mp hm
 obtain ⟨μ4,h4,hm⟩:=QR.mp hm
 cases hm
 refine ⟨π,ρ,μ,x,μ1,R,EN,h1,fun π1 v1 H1 e1 R1 i1=>⟨π1,ρ,μ1,y,μ2,R1,EN.mono e1,h2,fun π2 v2 H2 e2 R2 i2=>⟨π2,ρ,μ2,z,μ3,R2,(EN.mono e1).mono e2,h3,fun π3 v3 H3 e3 R3 i3=>?_⟩⟩⟩
 cases y with
 | loc a=>
  simp only [kW] at h4
  split at h4
  ·rename_i kvs hc
   obtain ⟨kk,h5,h4⟩:=QF.mp h4
   split at h4
   ·rename_i hz
    cases h4
    have i2':=i2.mono e3
    cases i2' with
    | loc hlt=>
     obtain ⟨ps,f1,T⟩:=dQ R3 hc
     obtain ⟨b,rfl,hb⟩:=iT i3 h5
     have hv:=(i1.mono e2).mono e3
     have T':=T.put kk hb hv
     obtain ⟨g1,g2,g3⟩:=T'.to
     have hpl:ps.length<Q6:=by
      have:=congrArg RN (T.to).1
      rw [QY,QY] at this
      omega
     refine ⟨_,b,ps,kk,rfl,rfl,f1,T.keys,hb,hpl,?_⟩
     obtain ⟨e4,R4⟩:=R3.put (c:=.dT (cU kvs kk x)) (o:=aH _ (cO ps kk b v1)) hlt f1 (.inr (.inr ⟨_,rfl⟩)) ⟨_,rfl,g1,g2,g3⟩
     exact k π3 σ _ (((e1.trans e2).trans e3).trans e4) R4 ((((EN.mono e1).mono e2).mono e3).mono e4)
   ·cases h4
  ·cases h4
 | _=>simp [kW] at h4)⟩
end
noncomputable def oC (neg:Bool):D->D->Hm->Option (D×Hm)
 | x,.loc a,μ=>match μ[a]? with
  | some (.dT kvs)=>(bZ x).map fun k=>(.bl (if neg then !(bD kvs k).isSome else (bD kvs k).isSome),μ)
  | some (.dF kvs)=>(bZ x).map fun k=>(.bl (if neg then !(bD kvs k).isSome else (bD kvs k).isSome),μ)
  | _=>none
 | _,_,_=>none
noncomputable def vO (K:QH)(neg:Bool):R2:=fun x y H Q=>∃ a b ps k,x=.ref b/\y=.ref a/\Rd H a (aH a ps)/\bW K H ps/\SqT K H b (k.map V.int)/\Q (.bl (if neg then !(cB ps k).isSome else (cB ps k).isSome)) H
theorem Cg {X:Cx}(hu:X.A.units+1<SK):OpR X (R6 .In) (vO X.K false):=by
 intro a2j s σ H x y v u Q I rx ry h
 obtain ⟨a,b,ps,k,rfl,rfl,e,hk,hb,q⟩:=h
 obtain rfl:v=Q2 b:=rx
 obtain rfl:u=Q2 a:=ry
 exact L0 hu I e hk hb fun s' I'=>⟨.bl _,H,I',rfl,q⟩
theorem Ci {X:Cx}(hu:X.A.units+1<SK):OpR X (R6 .NotIn) (vO X.K true):=by
 intro a2j s σ H x y v u Q I rx ry h
 obtain ⟨a,b,ps,k,rfl,rfl,e,hk,hb,q⟩:=h
 obtain rfl:v=Q2 b:=rx
 obtain rfl:u=Q2 a:=ry
 exact L1 hu I e hk hb fun s' I'=>⟨.bl _,H,I',rfl,q⟩
theorem qS {K:QH}{neg:Bool}:bV K (oC neg) (vO K neg):=by
 intro π H μ x y d μ' vx vy Q R ix iy hm k
 unfold oC at hm
 split at hm
 ·split at hm
  ·rename_i kvs hc
   obtain ⟨kk,h1,hm⟩:=QR.mp hm
   cases hm
   cases iy
   obtain ⟨ps,e1,T⟩:=dQ R hc
   obtain ⟨b,rfl,hb⟩:=iT ix h1
   have e:(cB ps kk).isSome=(bD kvs kk).isSome:=by
    rcases T.val kk with ⟨h1,h2⟩|⟨v,d,h1,h2,_⟩<;>rw [h1,h2]<;>rfl
   refine ⟨_,b,ps,kk,rfl,rfl,.of e1,T.keys,hb,?_⟩
   rw [e]
   exact k π _ H .refl R (.bl _)
  ·rename_i kvs hc
   obtain ⟨kk,h1,hm⟩:=QR.mp hm
   cases hm
   cases iy
   obtain ⟨ob,ps,e1,T⟩:=qR R hc
   obtain ⟨b,rfl,hb⟩:=iT ix h1
   have e:(cB ps kk).isSome=(bD kvs kk).isSome:=by
    rcases T.val kk with ⟨h1,h2⟩|⟨v,d,h1,h2,_⟩<;>rw [h1,h2]<;>rfl
   refine ⟨_,b,ps,kk,rfl,rfl,.inr ⟨ob,e1⟩,T.keys,hb,?_⟩
   rw [e]
   exact k π _ H .refl R (.bl _)
  ·cases hm
 ·cases hm
section
variable {X:Cx}{a b:Q1}{ma mb:ME}{pos:Ta}
end
end L3
namespace L3
open PySem L2
noncomputable def RawD (h:Si)(d:Addr)(es:Array Sj)(ep:Nat):Prop:=∃ z,h.get? d=some z/\z.ExactDict/\z.data=.dict es ep
theorem RawD.ty {s:QM}{d:Addr} {es ep} (g:RawD s.heap d es ep):s.TypeIs (.ref d) "dict":=let ⟨z,g1,g2,_⟩:=g;⟨z,g1,g2.1⟩
theorem RawD.stay {h h':Si}{d:Addr} {es ep} (g:RawD h d es ep)(k:∀ o,h.get? d=some o->h'.get? d=some o):RawD h' d es ep:=let ⟨z,g1,g2⟩:=g;⟨z,k z g1,g2⟩
theorem RawD.lt {h:Si}{d:Addr} {es ep} (g:RawD h d es ep):d<h.objs.size:=let ⟨_,g1,_⟩:=g;Q4 g1
section
variable {P:Rk}{w:RG}{A:Rw}{E:QL->QM->Prop}{s:QM}{d it:Addr}{i ep:Nat}{es:Array Sj}
theorem Cj {Q:QL->QM->Prop}(lo:(d == RX)=false)(g:RawD s.heap d es ep)
  (q:Q (.ref s.heap.objs.size) { s with heap:=s.heap.push { cls:=.type "dict_keyiterator",data:=.fields #[.ref d,.int 0 0,.int es.size 0,.int ep 0] } }):Ri (Rl P w) A (Yy (.ref d)) Q E s:=by
 obtain ⟨z,g1,g2,g3⟩:=id g
 refine a0K g.ty F.slot_dict_iter (SJ F.slot_dict_iter g.ty F.entry_dict_iter ?_ (F.args_dict_iter_1 _))
 unfold Builtin.«dict.__iter__» a1T
 refine QK (QK (S8 g.ty ?_))
 show Ri _ _ (pure (Q2 d)) _ _ _
 refine QX ?_
 show Ri _ _ (TF d >>= _) _ _ _
 unfold TF
 rw [if_neg (fun x=>RR (lo.symm.trans x))]
 refine QK (QX (QK (Sk g1 g3 (QK (Vb g1 g3 (QK (Ti (QX ?_))))))))
 exact ⟨_,rfl,"dict_keyiterator",_,⟨_,Rj _ rfl,rfl⟩,F.slot_dict_keyiterator_next.lookup,by simpa [Vh] using q⟩
theorem qT {Q:Option QL->QM->Prop}(hh:A.handled=none)(j:s.heap.IsKeyIter it d i es.size ep)(g:RawD s.heap d es ep)
  (q1:∀ e h',es[i]? = some e->h'.IsKeyIter it d (i+1) es.size ep->T8 it s.heap h'->Q (some e.key) { s with heap:=h' })
  (q2:es[i]? = none->∀ h',Xp it s.heap h'->Q none { s with heap:=h' }):Ri (Rl P w) A (Wf (.ref it)) Q E s:=by
 obtain ⟨y,j1,j2,j3⟩:=id j
 obtain ⟨z,g1,g2,g3⟩:=id g
 have nm:∀ {Q:String->QM->Prop}{A:Rw}{E:QL->QM->Prop},Q "dict_keyiterator" s->Ri (Rl P w) A (a1s (.ref it)) Q E s:=fun q=>wpAny_typeNameOfWhole_keyiter j.typeIs q
 unfold Wf
 refine QK (Y1 (Ze (name:=Wg "__next__") j.typeIs F.slot_dict_keyiterator_next (SJ F.slot_dict_keyiterator_next j.typeIs F.entry_dict_keyiterator_next ?_ (F.args_dict_keyiterator_next_1 _))))
 refine QK (QX (QK (QK (QK (nm (QX (QK (a1W j1 j3 ?_))))))))
 simp only [show UU "dict_keyiterator" = false by decide,Q3,if_false]
 show Ri _ _ (if (Q2 d == Sm)=true then _ else _) _ _ _
 rw [if_neg (show ¬ (Q2 d == Sm)=true from fun x=>RR x)]
 refine QK (QX (QK (Sk g1 g3 ?_)))
 rw [if_neg (fun x=>by simp at x)]
 refine QK (QX (QK (Vb g1 g3 ?_)))
 rw [if_neg (fun x=>by simp at x)]
 refine QX ?_
 simp only [if_neg (show ¬ ((i:Int)<0) by omega),UB]
 cases he:es[i]? with
 | some e=>
  refine QK (QK (nm (QX (QK (ZO j.typeIs ?_)))))
  show Ri _ _ (Z8 (.ref it) 1 (Vh ((i:Int)+1)) >>= _) _ _ _
  refine QK (Yx j1 j3 (by simp) ?_)
  have j':(s.heap.update it (a0T (·.setIfInBounds 1 (Vh ((i:Int)+1))))).IsKeyIter it d (i+1) es.size ep:=
   ⟨_,SO _ j1 (Obj.isFreed_of_fields (ZJ j3 _)),(Obj.cls_mapFields ..).trans j2,by simp [ZJ j3,Vh]⟩
  generalize hu:s.heap.update it (a0T (·.setIfInBounds 1 (Vh ((i:Int)+1))))=u at j'
  refine QK (RP (QK (ZO (s:={ s with heap:=u }) j'.typeIs ?_)))
  show Ri _ _ (pure e.key) _ _ _
  exact QX (QX ⟨_,rfl,QX (q1 e u he j' (hu ▸ S9 ..))⟩)
 | none=>
  refine QK (QK (nm (QX ?_)))
  show Ri _ _ (Z8 (.ref it) 0 .none >>= _) _ _ _
  refine QK (Yx j1 j3 (by simp) ?_)
  show Ri _ _ (a2a (.type "StopIteration") [] >>= _) _ _ _
  simp only [a2a,newTuple]
  refine QK (QK (Ti ?_ (by size_fits)))
  refine QK (m:=WY _ _) (wpAny_of_eq (a:=Sm) (by first|rfl|(simp only [WY];rfl)) (Ti ?_ (by size_fits)))
  simp only [raiseNew]
  refine QK (wpAny_handled ?_)
  rw [show A.in1.handled=none from hh]
  refine QK (QX (wpAny_throw ?thrown))
  case thrown=>exact QK (UW (T:="StopIteration") (b:=true) ⟨_,Rj _ rfl,rfl⟩ a2e (QX (q2 he _ (((S9 ..).extBut.push _).push _))))
theorem Mf (hh:A.handled=none)(hne:d≠it)(es:Array Sj)(ep:Nat):Walks P w A it [it,d] [it] es.size (fun i v=>∃ e,es[i]? = some e/\v=e.key) (fun i h=>h.IsKeyIter it d i es.size ep/\RawD h d es ep) where
 sub:=fun b hb=>by rw [RQ.mp hb];exact Ru ..
 frame:=fun _ _ _ st k=>⟨st.1.at fun o e=>k it (by simp) o e,st.2.stay fun o e=>k d (by simp) o e⟩
 item:=fun i s Q E hi st q=>qT hh st.1 st.2 (fun e h' he j' sb=>q _ h' s.toks ⟨e,he,rfl⟩ ⟨j',st.2.stay fun o ho=>sb.extBut d o hne ho⟩ fun b o hb ho=>sb.extBut b o (fun z=>hb (by simp [z])) ho) (fun he=>by simp at he;omega)
 done:=fun s Q E st q=>qT hh st.1 st.2 (fun e h' he=>by simp at he) (fun _ h' x=>q h' s.toks fun b o hb ho=>x b o (fun z=>hb (by simp [z])) ho)
 self:=fun _ _ _ _ st q=>Z5 st.1 q
theorem Ck (lo:(d == RX)=false):PySem.W.KdlSrc P w "dict" d d es.size (fun i v=>∃ e,es[i]? = some e/\v=e.key) (fun h=>RawD h d es ep) where
 type:=fun _ g=>g.ty
 there:=fun _ g=>⟨g.lt,g.lt⟩
 keep:=fun _ _ g k=>g.stay fun o e=>k d (.inl rfl) o e
 notList:=by decide
 notTuple:=by decide
 hint:=fun _ _ _ _ g q=>PySem.W.kdl_hint_dict g.ty q
 iter:=fun _ _ hh g=>⟨_,_,(fun _ _ q=>Cj lo g q),Mf hh (Ro g.lt) es ep,⟨⟨_,Rj _ rfl,rfl,rfl⟩,g.stay fun o e=>QU _ e⟩⟩
theorem Mg (lo:(d == RX)=false):a0U P w (Builtin.«dict.__len__» ⟨[.ref d],[]⟩) (fun _ R s=>∃ es ep,RawD s.heap d es ep/\R (.ok (.ret (.int (es.size:Nat) s.toks))) { s with toks:=s.toks+1 }):=
 .of_wp fun A R s ⟨es,ep,⟨z,g1,g2,g3⟩,q⟩=>by
  show Ri _ _ (dictSize d >>= _) _ _ _
  unfold dictSize
  refine QK (QK (Sk g1 g3 (QX ?_)))
  show Ri _ _ (a1P d >>= _) _ _ _
  refine QK (wpAny_pendingCount_other lo (wpAny_ret_mkInt ?_))
  rw [YG];exact q
theorem Mh {Q:QL->QM->Prop}(lo:(d == RX)=false)(g:RawD s.heap d es ep)(hz:es.size<=Q6)(q:Q (.int (es.size:Nat) (s.toks+1)) { s with toks:=s.toks+1+1 }):Ri (Rl P w) A (call (.builtin "len") [.ref d]) Q E s:=
 a1F g.ty F.slot_dict_len (fun Q' q'=>V1 F.slot_dict_len g.ty F.entry_dict_len (F.args_dict_len_1 _) (Mg lo) ⟨es,ep,g,q'⟩) (by omega) (by rw [Sn] at hz;omega) q
end
theorem vP:∀ {ps:aX}{ws:List QL},Vals (ps.map (·.2.2)) ws->(aQ ps ws).map (fun x=>Q2 x.2.1)=ps.map fun p=>Q2 p.2.1
 | [],_,_=>by simp [aQ]
 | p::ps,_,.cons r t=>by
  have ih:=vP (ps:=ps) t
  unfold aQ at ih ⊢
  rw [RO,Ra,Ra,ih]
theorem Cm:∀ ps:aX,Vals (ps.map fun p=>V.ref p.2.1) (ps.map fun p=>Q2 p.2.1)
 | []=>.nil
 | p::ps=>.cons rfl (Cm ps)
section
variable {X:Cx}{a2j:List (Addr×Td)}{σ:St}{H:Hp}{s:QM}{a:Addr}{ps:aX}
theorem jC (I:Inv X a2j σ H s)(e:H a=some (aH a ps))(hk:bW X.K H ps):(a == RX)=false/\ps.length<=Q6/\∃ es ep,RawD s.heap a es ep/\es.toList.map (·.key)=ps.map fun p=>Q2 p.2.1:=by
 obtain ⟨lo,hl,ws,r,z,es,ep,h1,h2,h3,h4,_⟩:=eU I (.of e) hk
 refine ⟨lo,hl,es,ep,⟨z,h1,h2,h3⟩,?_⟩
 rw [h4,RJ,<- vP r]
 rfl
noncomputable def Cn (K:QH):List V->Hp->VK->Prop:=fun xs H Q=>∃ a ps,xs=[V.ref a]/\H a=some (aH a ps)/\bW K H ps/\Q (.int ps.length) H
theorem Mi:CallR X (.builtin "len") (Cn X.K):=by
 intro a2j s σ H xs us Q I r h
 obtain ⟨a,ps,rfl,ha,hk,q⟩:=h
 obtain ⟨u,rfl,ru⟩:=dC r
 cases ru
 obtain ⟨lo,hl,es,ep,g,he⟩:=jC I ha hk
 have hs:es.size=ps.length:=by
  have:=congrArg RN he
  simpa using this
 refine Mh lo g (by omega) ?_
 rw [hs]
 exact ⟨.int ps.length,H,(I.tok _).tok _,⟨_,rfl⟩,q⟩
noncomputable def Co (K:QH):List V->Hp->VK->Prop:=fun xs H Q=>∃ a ps,xs=[V.ref a]/\H a=some (aH a ps)/\bW K H ps/\∀ l,H l=none->Q (.ref l) (aE H l (.lst (ps.map fun p=>V.ref p.2.1)))
theorem Mj (hc:X.calm=true):CallR X (.type "list") (Co X.K):=by
 intro a2j s σ H xs us Q I r h
 obtain ⟨a,ps,rfl,ha,hk,q⟩:=h
 obtain ⟨u,rfl,ru⟩:=dC r
 cases ru
 obtain ⟨lo,hl,es,ep,g,he⟩:=jC I ha hk
 have hs:es.size=ps.length:=by
  have:=congrArg RN he
  simpa using this
 refine PySem.W.kdl_call (Ck lo) (I.ok.hd hc) g (by omega) fun h' tk acc' c' kp hS hacc=>?_
 refine ⟨.ref s.heap.objs.size,_,I.laid (t':=tk) (a:=s.heap.objs.size) (o:=.lst (ps.map fun p=>V.ref p.2.1)) kp (Q0 _) ?_,rfl,q _ (I.hok.fresh (Q0 _))⟩
 refine ⟨by rw [QY];exact hl,acc'.toList,c',?_,by simpa using hS⟩
 have e2:acc'.toList=ps.map fun p=>Q2 p.2.1:=by
  rw [<- he]
  refine T6 fun i=>?_
  rw [RH,Sx,Sx]
  cases hv:acc'[i]? with
  | some v=>
   obtain ⟨e,h1,h2⟩:=hacc.2 i v hv
   rw [h1,h2];rfl
  | none=>
   have:acc'.size<=i:=by simpa using hv
   rw [Wb (by rw [<- hacc.1];exact this)];rfl
 rw [e2]
 exact Cm ps
end
section
variable {X:Cx}{a b o i e:Q1}{ma mb mo mi me:ME}{pos tpos:Ta}{k:Nat}
theorem Ml (hr:Room k X.A)(ha:QE X a ma)(hb:QE X b mb)(h:kL b=true):QE X (.Subscript a b pos) (aB aL ma mb):=
 i9 (i9 (m:=aB (fun x y μ=>match kY x y μ with|some r=>some r|none=>nU x y μ) ma mb) (Mb hr ha hb h) (JQ hr ha hb h) (eA fun x y μ r hm=>by
  split at hm
  ·rename_i z;rw [z];exact .inl hm
  ·exact .inr hm)) (JP ha hb h) (eA fun x y μ r hm=>by
  unfold aL at hm
  split at hm
  ·split at hm
   ·rename_i kvs hc
    refine .inl ?_
    simp only [kY,nU,hc]
    exact hm
   ·rename_i kvs hc
    refine .inl ?_
    simp only [kY,hc]
    rw [hm]
   ·rename_i kvs hc
    refine .inl ?_
    simp only [kY,hc]
    rw [hm]
   ·exact .inr hm
  ·exact .inr hm)
noncomputable def mQ (neg:Bool):D->D->Hm->Option (D×Hm):=fun x y μ=>match oC neg x y μ with
 | some r=>some r
 | none=>mB neg x y μ
theorem qU {neg:Bool}(x y:D)(μ:Hm)(r:D×Hm)(h:mQ neg x y μ=some r):oC neg x y μ=some r\/mB neg x y μ=some r:=by
 unfold mQ at h
 split at h
 ·rename_i z;rw [z];exact .inl h
 ·exact .inr h
theorem Cp {neg:Bool}(x y:D)(μ:Hm)(r:D×Hm)(h:cM neg x y μ=some r):(∃ i j,x=.str i/\y=.str j)\/mQ neg x y μ=some r:=by
 cases y with
 | loc a=>
  refine .inr ?_
  have e:cM neg x (.loc a) μ=(match μ[a]? with
   | some (.dT kvs)=>(bZ x).map fun k=>(D.bl (if neg then !(bD kvs k).isSome else (bD kvs k).isSome),μ)
   | some (.dF kvs)=>(bZ x).map fun k=>(D.bl (if neg then !(bD kvs k).isSome else (bD kvs k).isSome),μ)
   | _=>mB neg x (.loc a) μ):=by cases x<;>rfl
  rw [e] at h
  unfold mQ
  simp only [oC]
  cases hc:μ[a]? with
  | none=>rw [hc] at h;exact h
  | some c=>
   rw [hc] at h
   cases c with
   | dT kvs=>dsimp only at h ⊢;rw [h]
   | dF kvs=>dsimp only at h ⊢;rw [h]
   | _=>exact h
 | str j=>
  cases x with
  | str i=>exact .inl ⟨i,j,rfl,rfl⟩
  | _=>exact .inr h
 | _=>cases x<;>exact .inr h
theorem Cq (x y:D)(μ:Hm)(r:D×Hm)(h:cM false x y μ=some r):t7 x y μ=some r\/mQ false x y μ=some r:=by
 rcases Cp x y μ r h with ⟨i,j,rfl,rfl⟩|z
 ·exact .inl h
 ·exact .inr z
theorem Cr (x y:D)(μ:Hm)(r:D×Hm)(h:cM true x y μ=some r):uL x y μ=some r\/mQ true x y μ=some r:=by
 rcases Cp x y μ r h with ⟨i,j,rfl,rfl⟩|z
 ·exact .inl h
 ·exact .inr z
theorem Mm (hr:Room k X.A)(ha:QE X a ma)(hb:QE X b mb)(h:d9 b=true):QE X (.Compare a [.In] [b] pos) (aB (cM false) ma mb):=
 i9 ⟨cZ yW AJ ha.h hb.h (fA h)⟩ (i9 ⟨cZ (Cg (eN hr)) qS ha.h hb.h (fA h)⟩ ⟨cZ (A9 (qD hr)) qB ha.h hb.h (fA h)⟩ (eA qU)) (eA Cq)
theorem Mn (hr:Room k X.A)(ha:QE X a ma)(hb:QE X b mb)(h:d9 b=true):QE X (.Compare a [.NotIn] [b] pos) (aB (cM true) ma mb):=
 i9 ⟨cZ zX Bb ha.h hb.h (fA h)⟩ (i9 ⟨cZ (Ci (eN hr)) qS ha.h hb.h (fA h)⟩ ⟨cZ (Ba (qD hr)) qB ha.h hb.h (fA h)⟩ (eA qU)) (eA Cr)
theorem Mo (hr:Room k X.A)(ha:QE X a ma)(hb:QE X b mb)(h:d9 b=true):QT X (.Compare a [.In] [b] pos) (a8 (aB (cM false) ma mb)):=
 lZ ⟨c3 yW AJ ha.h hb.h (fA h)⟩ (lZ ⟨c3 (Cg (eN hr)) qS ha.h hb.h (fA h)⟩ ⟨c3 (A9 (qD hr)) qB ha.h hb.h (fA h)⟩ (l8 (eA qU))) (l8 (eA Cq))
theorem Mp (hr:Room k X.A)(ha:QE X a ma)(hb:QE X b mb)(h:d9 b=true):QT X (.Compare a [.NotIn] [b] pos) (a8 (aB (cM true) ma mb)):=
 lZ ⟨c3 zX Bb ha.h hb.h (fA h)⟩ (lZ ⟨c3 (Ci (eN hr)) qS ha.h hb.h (fA h)⟩ ⟨c3 (Ba (qD hr)) qB ha.h hb.h (fA h)⟩ (l8 (eA qU))) (l8 (eA Cr))
noncomputable def qV:D->D->D->Hm->Option Hm:=fun o i d μ=>match kW o i d μ with
 | some r=>some r
 | none=>oA o i d μ
theorem Mq (hr:Room k X.A)(ho:QE X o mo)(hi:QE X i mi)(he:QE X e me)(h:fX e=true):QS X (.Assign [.Subscript o i tpos] e pos) (eC mo mi me):=
 B1 (B1 (m:=iP qV mo mi me) (Me hr ho hi he h) (LH hr ho hi he h) (B3 fun x y z μ r hm=>by
  unfold qV at hm
  split at hm
  ·rename_i q;rw [q];exact .inl hm
  ·exact .inr hm)) (LG ho hi he h) (B3 fun x y z μ r hm=>by
  unfold mP at hm
  split at hm
  ·split at hm
   ·rename_i a kvs hc
    refine .inl ?_
    unfold qV
    simp only [kW,hc]
    exact hm
   ·refine .inl ?_
    unfold qV
    rw [hm]
   ·exact .inr hm
  ·cases hm)
end
end L3
namespace L3
open PySem L2
end L3
namespace L3
open PySem L2
section
variable {P:Rk}{w:RG}{A:Rw}{E:QL->QM->Prop}{s:QM}{a:Addr}
theorem Mr:Xi (.type "tuple") "keys" = pure none:=by rw [Yl,WM];kernel_rfl
theorem Ms {o:Td}{xs:Array QL}{k:Nat}{Q:Option QL->QM->Prop}(g:s.heap.get? a=some o)(g1:o.cls=.type "tuple") (g2:o.data=.seq xs k)(g3:o.dict=none)(hA:A.handled=none)
  (q:∀ h' tk,(∀ b u,s.heap.get? b=some u->h'.get? b=some u)->Q none { s with heap:=h',toks:=tk }):Ri (Rl P w) A (getAttr? (.ref a) "keys") Q E s:=by
 obtain ⟨c,dct,dat,sl⟩:=o
 dsimp only at g1 g2 g3
 subst g1 g2 g3
 obtain ⟨hp,gs,dr,tk,os⟩:=s
 have ty:∀ tk',(⟨hp,gs,dr,tk',os⟩:QM).TypeIs (.ref a) "tuple":=fun _=>⟨_,g,rfl⟩
 have e1:=sub_AttributeError
 have e2:=F.slot_tuple_getattribute.lookup
 have e3:=F.slot_tuple_getattribute.bind (.ref a)
 have e4:=am_tuple_getattr_none
 unfold getAttr? getAttrBy? getAttrBy
 repeat (any_goals (first|assumption|exact ty _|((with_reducible show Ri _ _ (call (a0n "tuple.__getattribute__") _ _) _ _ _);refine Xj F.slot_tuple_getattribute (ty _) am_entry_tuple_getattribute (F.args_tuple_getattribute_2 _ _) (meets_getattribute_miss_tuple a xs k sl "keys" _ Mr (by decide +kernel)) ⟨g,hA,fun h' tk' e ne=>?_⟩)|wp_step))
 obtain ⟨y1,y2,there⟩:=ne.there
 show Ri _ _ (a0z _ _ _ _ none false false) _ _ _
 unfold a0z
 repeat (any_goals (first|assumption|wp_step))
 exact q _ _ ne.of.keeps
end
theorem Ct:entryFor table "dict.update.loop" = some Builtin.«dict.update.loop»:=entryFor_of_tree (by kernel_rfl)
theorem qW:plainId "dict.update.loop" = true:=by decide +kernel
noncomputable def kZ (ps:aX):List (Addr×List Int×Addr×V)->aX
 | []=>ps
 | r::L=>kZ (cO ps r.2.1 r.2.2.1 r.2.2.2) L
section
variable {X:Cx}{a2j:List (Addr×Td)}{σ:St}{A:Rw}{E:QL->QM->Prop}{d:Addr}
theorem Mt {H:Hp}{s:QM}{b:Addr}{k:List Int}{v:V}{u:QL}{ps:aX}{Q:Unit->QM->Prop}(hu:A.units<SK)(I:Inv X a2j σ H s)(e:H d=some (aH d ps))(hk:bW X.K H ps)(hb:SqT X.K H b (k.map V.int))(hz:ps.length<Q6)(ru:RelV v u)
  (h:∀ s',Inv X a2j σ (aE H d (aH d (cO ps k b v))) s'->(∀ c o,c≠d->s.heap.get? c=some o->s'.heap.get? c=some o)->Q () s'):Ri (Rl X.prog X.w) A (dictSet d (.ref b) u) Q E s:=by
 obtain ⟨hs,hl,ws,r,dd⟩:=eU I (.of e) hk
 have hx:(aQ ps ws).length<=Q6:=by
  have:=congrArg RN (iQ r)
  rw [QY,QY] at this
  omega
 refine wpAny_dictSet_heap (hsz:=hx) (show (SN (Tt X.prog X.w)).room A from hu) (fG I hb) dd fun h' d' hs'=>h _ ?_ fun c o hc e=>hs'.extBut c o hc e
 obtain ⟨ws',r',ex⟩:=vL r k b ru
 rw [ex] at d'
 have he:∃ q,h'.get? d=some q:=let ⟨q,_,_,hq,_⟩:=d';⟨q,hq⟩
 exact jZ I (by rw [e];exact Tg) hs' he (oB hs (by have:=qQ ps k b v;omega) r' d')
end
theorem oD {K:QH}{H:Hp}{d b:Addr}{o:HO}{ps:aX}{vs:List V}(e:H d=some (aH d ps))(h:SqT K H b vs):SqT K (aE H d o) b vs:=by
 have ne:∀ {u},H b=some u->(∀ qs,u≠aH d qs)->b≠d:=fun z f y=>by
  rw [y,e] at z
  cases z
  exact f ps rfl
 rcases h with (h|⟨ob,h⟩)|h
 ·exact .inl (.inl (by rw [aS (ne h fun _ z=>by cases z)];exact h))
 ·exact .inl (.inr ⟨ob,by rw [aS (ne h fun _ z=>by cases z)];exact h⟩)
 ·exact .inr h
theorem Mu {K:QH}{H:Hp}{ps:aX}{k:List Int}{b:Addr}{v:V}(h:bW K H ps)(hb:SqT K H b (k.map V.int)):bW K H (cO ps k b v):=by
 intro p hp
 unfold cO at hp
 split at hp
 ·obtain ⟨p',hp',e⟩:=RE.mp hp
  by_cases z:p'.1=k
  ·rw [if_pos z] at e
   subst e
   exact h p' hp'
  ·rw [if_neg z] at e
   subst e
   exact h p' hp'
 ·rcases Sb.mp hp with hp|hp
  ·exact h p hp
  ·rw [RQ.mp hp]
   exact hb
theorem Cu {H:Hp}{d:Addr}{o o':HO}:aE (aE H d o) d o'=aE H d o':=by
 funext b
 unfold aE
 split
 ·rfl
 ·rfl
theorem Mv {P:Rk}{w:RG}{A:Rw}{E:QL->QM->Prop}{s:QM}{p:Addr}{xs:Array QL}{Q:List QL->QM->Prop}(h:a0X s.heap p xs)(q:Q xs.toList s):Ri (Rl P w) A (Xf (.ref p)) Q E s:=by
 obtain ⟨o,g,c,n,dd⟩:=h
 have ty:s.TypeIs (.ref p) "tuple":=⟨o,g,c⟩
 unfold Xf
 refine QK (Wz ty ?_)
 rw [if_pos (by decide)]
 unfold seqItems?
 refine QK (QK (Xg g ?_))
 rw [dd]
 exact QX (QX q)
section
variable {X:Cx}{a2j:List (Addr×Td)}{σ:St}{A:Rw}{d t it:Addr}{ys:List V}{R:X7->QM->Prop}
theorem Mw (hh:A.handled=none)(hu:A.in1.units<SK):∀ (L:List (Addr×List Int×Addr×V))(i:Nat)(ps:aX)(H:Hp)(s:QM),Inv X a2j σ H s->H d=some (aH d ps)->bW X.K H ps->SqT X.K H t ys->ys.drop i=L.map (fun r=>V.ref r.1)->
  (∀ r∈L,SqT X.K H r.1 [.ref r.2.2.1,r.2.2.2]/\SqT X.K H r.2.2.1 (r.2.1.map V.int))->fD X a2j H it->s.heap.IsTupleIter it t i->ps.length+L.length<=Q6->
  (∀ s',Inv X a2j σ (aE H d (aH d (kZ ps L))) s'->R (.ok (.ret .none)) s')->Vz (Rl X.prog X.w) A (.builtin "dict.update.loop" ⟨[.ref d,.ref it,Vh i,.none],[]⟩) R s:=by
 intro L
 induction L with
 | nil=>
  intro i ps H s I e hk hq hd hr hf st hz q
  obtain ⟨its,rv,p,hzz⟩:=I.tuple hq
  obtain ⟨f0,f1,f2,f3,f4,f5⟩:=hf
  have hl:=rv.length
  have hlen:ys.length<=i:=by
   have:=congrArg RN hd
   simp at this
   omega
  refine Vc Ct ?_
  rw [T1 qW _]
  show Ri _ A.in1 (Wf (.ref it) >>= _) _ _ s
  refine QK (Zp hh st (show s.heap.IsTuple t its.toArray from p) (by simp;omega) fun h' eb=>?_)
  have I1:Inv X a2j σ H { s with heap:=h' }:=I.turned (t':=s.toks) (fun b o hb e=>eb b o hb e) f0 f1 f3 f4 f5
  show Ri _ _ (a1U d [] >>= _) _ _ _
  refine QK (QX (QX (q _ ?_)))
  have:aE H d (aH d (kZ ps []))=H:=by
   funext b
   unfold aE
   split
   ·rename_i z;rw [z];exact e.symm
   ·rfl
  rw [this]
  exact I1
 | cons r L ih=>
  intro i ps H s I e hk hq hd hr hf st hz q
  obtain ⟨its,rv,p,hzz⟩:=I.tuple hq
  obtain ⟨f0,f1,f2,f3,f4,f5⟩:=id hf
  have hx:ys[i]? = some (.ref r.1):=by
   have:=congrArg (·[0]?) hd
   simpa using this
  obtain ⟨u,eN,ru⟩:=rv.get hx
  cases ru
  refine Vc Ct ?_
  rw [T1 qW _]
  show Ri _ A.in1 (Wf (.ref it) >>= _) _ _ s
  refine QK (Zd st (show s.heap.IsTuple t its.toArray from p) (x:=.ref r.1) (by simpa using eN) fun h' st' sb=>?_)
  have I1:Inv X a2j σ H { s with heap:=h' }:=I.turned (t':=s.toks) (fun b o hb e=>(sb.2 b hb).trans e) f0 f1 f3 f4 f5
  have hr0:=hr r (Ru ..)
  obtain ⟨its2,rv2,p2,_⟩:=I1.tuple hr0.1
  cases rv2 with
  | cons rk rr=>
   cases rr with
   | cons rw' rr=>
    cases rr
    cases rk
    rename_i w0
    refine QK (RP (QK (wpAny_tryCatch (Mv p2 ?_))))
    have hps:ps.length<Q6:=by
     rw [Rq] at hz
     omega
    refine RP (Mt hu I1 e hk hr0.2 hps rw' fun s' I2 kp=>?_)
    refine QX ⟨U5 qW _,?_⟩
    have aW:it≠d:=fun z=>by
     rw [<- z,f0] at e
     cases e
    have hrest:∀ x∈L,SqT X.K (aE H d (aH d (cO ps r.2.1 r.2.2.1 r.2.2.2))) x.1 [.ref x.2.2.1,x.2.2.2]/\SqT X.K (aE H d (aH d (cO ps r.2.1 r.2.2.1 r.2.2.2))) x.2.2.1 (x.2.1.map V.int):=fun x hx=>
     ⟨oD e (hr x (Rm _ hx)).1,oD e (hr x (Rm _ hx)).2⟩
    have hdr:ys.drop (i+1)=L.map (fun r=>V.ref r.1):=by
     have:=congrArg List.tail hd
     simpa [List.tail_drop] using this
    refine ih (i+1) (cO ps r.2.1 r.2.2.1 r.2.2.2) _ s' I2 b7 (Mu (fun p hp=>oD e (hk p hp)) (oD e hr0.2)) (oD e hq) hdr hrest ⟨by rw [aS aW];exact f0,f1,f2,f3,f4,f5⟩ (st'.at fun o ho=>kp it o aW ho) ?_ fun s'' I''=>q s'' ?_
    ·have:=qQ ps r.2.1 r.2.2.1 r.2.2.2
     rw [Rq] at hz
     omega
    ·rw [Cu] at I''
     exact I''
end
section
variable {X:Cx}
noncomputable def Cv (K:QH):List V->Hp->VK->Prop:=fun xs H Q=>∃ (t:Addr)(L:List (Addr×List Int×Addr×V)),xs=[V.ref t]/\SqT K H t (L.map fun r=>V.ref r.1) /\
 (∀ r∈L,SqT K H r.1 [.ref r.2.2.1,r.2.2.2]/\SqT K H r.2.2.1 (r.2.1.map V.int))/\∀ d,H d=none->Q (.ref d) (aE H d (aH d (kZ [] L)))
theorem Mx (hc:X.calm=true)(hun:X.A.units+64<SK):CallR X (.type "dict") (Cv X.K):=by
 intro a2j s σ H xs us Q I r h
 obtain ⟨t,L,rfl,hq,hr,k⟩:=h
 obtain ⟨u,rfl,ru⟩:=dC r
 cases ru
 have hn:H s.heap.objs.size=none:=I.hok.fresh (Q0 _)
 refine YB (Q₁:=fun obj s₁=>obj=.ref s.heap.objs.size/\s₁ = { s with heap:=s.heap.push { cls:=.type "dict",data:=.dict #[] } }) F.kt_called_dict (F.kt_typeCall_dict_1 _) F.entry_dict_init (a1c _ ⟨rfl,rfl⟩) ?_
 rintro obj s₁ ⟨rfl,rfl⟩
 have I0:Inv X a2j σ (aE H s.heap.objs.size (aH s.heap.objs.size [])) { s with heap:=s.heap.push { cls:=.type "dict",data:=.dict #[] } }:=I.laid (a:=s.heap.objs.size) (o:=aH s.heap.objs.size []) (t':=s.toks) (fun _ _ q=>QU _ q) (Q0 _) (Ce s.heap I.big)
 have ty:({ s with heap:=s.heap.push { cls:=.type "dict",data:=.dict #[] } }:QM).TypeIs (.ref s.heap.objs.size) "dict":=⟨_,Rj _ rfl,rfl⟩
 refine ⟨ty,F.args_dict_init_2 _ _,?_⟩
 unfold Builtin.«dict.__init__»
 refine QK ?_
 unfold W4
 refine QK (S8 ty ?_)
 show Ri _ _ (pure (s.heap.objs.size,[Q2 t])) _ _ _
 refine QX ?_
 show Ri _ _ (UL "dict.__init__" s.heap.objs.size (.ref t) [] .none) _ _ _
 unfold UL
 have mono:∀ {b:Addr}{vs:List V},SqT X.K H b vs->SqT X.K (aE H s.heap.objs.size (aH s.heap.objs.size [])) b vs:=fun {b vs} z=>by
  have ne:H b≠none->b≠s.heap.objs.size:=fun f y=>by rw [y] at f;exact f hn
  rcases z with (z|⟨ob,z⟩)|z
  ·exact .inl (.inl (by rw [aS (ne (by rw [z];exact fun y=>nomatch y))];exact z))
  ·exact .inl (.inr ⟨ob,by rw [aS (ne (by rw [z];exact fun y=>nomatch y))];exact z⟩)
  ·exact .inr z
 obtain ⟨its,rv,ob,g1,g2,n,g3,g4⟩:=I0.tupN (mono hq)
 refine QK (Wz ⟨ob,g1,g2⟩ ?_)
 rw [if_pos (by decide)]
 refine QK (Ms g1 g2 g3 g4 (I.ok.hd hc) fun h' tk kp=>?_)
 have I1:Inv X a2j σ (aE H s.heap.objs.size (aH s.heap.objs.size [])) { s with heap:=h',toks:=tk }:=I0.kept (t':=tk) kp
 show Ri _ _ (rule _ >>= _) _ _ _
 refine QK (Uj ?_)
 obtain ⟨its',rv',p',hz'⟩:=I1.tuple (mono hq)
 refine QK (a0t (t:=t) (items:=its'.toArray) (show ({ s with heap:=h',toks:=tk }:QM).heap.IsTuple t its'.toArray from p') ?_)
 have I2:=I1.kept (t':=tk) (h':=h'.push { cls:=.type "tuple_iterator",data:=.fields #[.ref t,.int 0 0] }) fun b o e=>QU _ e
 refine QX ⟨U5 qW _,?_⟩
 refine Mw (A:=X.A.in1) (I.ok.hd hc) ?_ L 0 [] _ _ I2 b7 (fun p hp=>nomatch hp) (mono hq) rfl (fun r hr'=>⟨mono (hr r hr').1,mono (hr r hr').2⟩) (I1.fpOk (Q0 _) (I1.hok.fresh (Q0 _))) ⟨_,Rj _ rfl,rfl,rfl⟩ ?_ fun s' I'=>?_
 ·show X.A.units+1+1<SK
  omega
 ·have:=hz'
  simp at this ⊢
  exact this
 ·rw [Cu] at I'
  exact ⟨rfl,.ref s.heap.objs.size,_,I',rfl,k _ hn⟩
end
noncomputable def mR:List D->Option (List (List Int×D))
 | []=>some []
 | .tup [x,v]::r=>(bZ x).bind fun k=>(mR r).map fun l=>(k,v)::l
 | _::_=>none
noncomputable def k4:MF:=fun ds μ=>match ds with
 | [.tup xs]=>(mR xs).map fun l=>(.loc μ.length,μ++[.dT (l.foldl (fun q p=>cU q p.1 p.2) [])])
 | _=>none
section
variable {K:QH}{π:Nat->Addr}{n:Nat}{H:Hp}
noncomputable abbrev Cw (K:QH)(π:Nat->Addr)(n:Nat)(H:Hp):List (Addr×List Int×Addr×V)->List (List Int×D)->Prop:=
 Vk fun r p=>r.2.1=p.1/\SqT K H r.1 [.ref r.2.2.1,r.2.2.2]/\SqT K H r.2.2.1 (r.2.1.map V.int)/\IsD K π n H r.2.2.2 p.2
theorem Cy:∀ {xs:List D}{ws:List V}{l:List (List Int×D)},IsDs K π n H ws xs->mR xs=some l->∃ L,ws=L.map (fun r=>V.ref r.1)/\Cw K π n H L l
 | [],_,_,.nil,h=>by cases h;exact ⟨[],rfl,.nil⟩
 | x::xs,_,l,.cons i t,h=>by
  unfold mR at h
  split at h
  ·rename_i heq;cases heq
  ·rename_i y v r heq
   cases heq
   obtain ⟨k,hk,h⟩:=QF.mp h
   obtain ⟨l',hl,rfl⟩:=QR.mp h
   obtain ⟨L,rfl,P⟩:=Cy t hl
   cases i with
   | tup q z=>
    cases z with
    | cons z1 z=>
     cases z with
     | cons z2 z=>
      cases z
      obtain ⟨b,rfl,hb⟩:=iT z1 hk
      exact ⟨(_,k,b,_)::L,rfl,.cons ⟨rfl,q,hb,z2⟩ P⟩
  ·cases h
theorem Cz:∀ {L:List (Addr×List Int×Addr×V)}{l:List (List Int×D)},Cw K π n H L l->∀ {ps:aX}{kvs:List (List Int×D)},IsTs K π n H ps kvs->IsTs K π n H (kZ ps L) (l.foldl (fun q p=>cU q p.1 p.2) kvs)
 | _,_,.nil,_,_,h=>h
 | r::L,p::l,.cons e t,ps,kvs,h=>by
  obtain ⟨e1,_,e3,e4⟩:=e
  show IsTs K π n H (kZ (cO ps r.2.1 r.2.2.1 r.2.2.2) L) (l.foldl _ (cU kvs p.1 p.2))
  rw [<- e1]
  exact Cz t (h.put r.2.1 e3 e4)
end
theorem My {K:QH}:cH K k4 (Cv K):=by
 intro π H μ xs d μ' vs Q R i hm k
 unfold k4 at hm
 split at hm
 ·rename_i xs
  obtain ⟨l,h1,h2⟩:=QR.mp hm
  cases h2
  cases i with
  | cons i t=>
   cases t
   cases i with
   | tup q z=>
    obtain ⟨L,rfl,P⟩:=Cy z h1
    refine ⟨_,L,rfl,q,?_,fun d hd=>?_⟩
    ·clear q z k hm h1
     induction P with
     | nil=>exact fun r hr=>nomatch hr
     | cons e t ih=>
      intro r hr
      rcases RD.mp hr with rfl|hr
      ·exact ⟨e.2.1,e.2.2.1⟩
      ·exact ih r hr
    ·have T:=Cz P (ps:=[]) (kvs:=[]) .nil
     obtain ⟨e1,R1,q1⟩:=R.alloc (c:=.dT (l.foldl (fun q p=>cU q p.1 p.2) [])) (o:=aH d (kZ [] L)) hd ⟨_,rfl,T.to.1,T.to.2.1,T.to.2.2⟩
     exact k _ _ _ e1 R1 eG
 ·cases hm
end L3
namespace L3
open PySem L2
noncomputable def ItI (h:Si)(it d S:Addr)(i n ep:Nat):Prop:=∃ (wn ok ov:QL)(fl:Bool),h.get? it=some { cls:=.type "dict_itemiterator",dict:=none,data:=.fields #[wn,.bool fl,.ref d,.int i 0,.int n 0,.int ep 0,ok,ov],slots:=#[] } /\
 (wn=.none\/∃ (a:Addr)(o:Td),wn=Vh a/\h.get? a=some o/\a≠it/\a≠S)
theorem ItI.ty {s:QM}{it d S:Addr} {i n ep} (j:ItI s.heap it d S i n ep):s.TypeIs (.ref it) "dict_itemiterator":=let ⟨_,_,_,_,e,_⟩:=j;⟨_,e,rfl⟩
theorem ItI.stay {h h':Si}{it d S:Addr} {i n ep} (j:ItI h it d S i n ep)(hI:it≠S)(k:∀ b o,b≠S->h.get? b=some o->h'.get? b=some o):ItI h' it d S i n ep:=by
 obtain ⟨wn,ok,ov,fl,e,r⟩:=j
 refine ⟨wn,ok,ov,fl,k _ _ hI e,?_⟩
 rcases r with r|⟨a,o,r1,r2,r3,r4⟩
 ·exact .inl r
 ·exact .inr ⟨a,o,r1,k _ _ r4 r2,r3,r4⟩
section
variable {P:Rk}{w:RG}{A:Rw}{E:QL->QM->Prop}{s:QM}{d it S:Addr}{i ep:Nat}{es:Array Sj}
theorem CA {Q:Option QL->QM->Prop}(hh:A.handled=none)(j:ItI s.heap it d S i es.size ep)(g:RawD s.heap d es ep)(hS:S<s.heap.objs.size)
  (q1:∀ e h',es[i]? = some e->ItI h' it d S (i+1) es.size ep->h'.get? s.heap.objs.size=some { cls:=.type "tuple",data:=.seq #[e.key,e.val] }->h'.objs.size=s.heap.objs.size+1->(∀ b o,b≠it->s.heap.get? b=some o->h'.get? b=some o)->Q (some (.ref s.heap.objs.size)) { s with heap:=h' })
  (q2:es[i]? = none->∀ h',Xp it s.heap h'->Q none { s with heap:=h' }):Ri (Rl P w) A (Wf (.ref it)) Q E s:=by
 obtain ⟨z,g1,g2,g3⟩:=id g
 have ty:=j.ty
 obtain ⟨hp,gs,dr,tk,os⟩:=s
 obtain ⟨wn,ok,ov,fl,je,jr⟩:=j
 have nm:∀ {Q:String->QM->Prop}{A:Rw}{E:QL->QM->Prop},Q "dict_itemiterator" ⟨hp,gs,dr,tk,os⟩->Ri (Rl P w) A (a1s (.ref it)) Q E ⟨hp,gs,dr,tk,os⟩:=fun q=>wpAny_typeNameOfWhole_itemiter ty q
 unfold Wf
 refine QK (Y1 (Ze (name:=Wg "__next__") ty F.slot_dict_itemiterator_next (SJ F.slot_dict_itemiterator_next ty F.entry_dict_itemiterator_next ?_ (F.args_dict_itemiterator_next_1 _))))
 refine QK (QX (QK (QK (QK (nm (QX (QK (a1W je rfl ?_))))))))
 simp only [show UU "dict_itemiterator" = true by decide,if_true]
 show Ri _ _ (if (Q2 d == Sm)=true then _ else _) _ _ _
 rw [if_neg (show ¬ (Q2 d == Sm)=true from fun x=>RR x)]
 refine QK (QX (QK (Sk g1 g3 ?_)))
 rw [if_neg (fun x=>by simp at x)]
 refine QK (QX (QK (Vb g1 g3 ?_)))
 rw [if_neg (fun x=>by simp at x)]
 refine QX ?_
 simp only [if_neg (show ¬ ((i:Int)<0) by omega),UB]
 have hil:it<hp.objs.size:=Q4 je
 cases he:es[i]? with
 | some e=>
  refine QK (QK (nm (QX (QK (WA ty ?_)))))
  show Ri _ _ (Z8 (.ref it) 3 (Vh ((i:Int)+1)) >>= _) _ _ _
  refine QK (Uu je (by simp) fun u ue us=>?_)
  replace us:T8 it hp u:=us
  replace ue:u.get? it=some { cls:=.type "dict_itemiterator",dict:=none,data:=.fields #[wn,.bool fl,.ref d,.int ((i+1:Nat):Int) 0,.int es.size 0,.int ep 0,ok,ov],slots:=#[] }:=by
   rw [show ((i+1:Nat):Int)=(i:Int)+1 by omega]
   simpa [Vh] using ue
  have ty1:Shared.TypeIs ⟨u,gs,dr,tk,os⟩ (.ref it) "dict_itemiterator":=⟨_,ue,rfl⟩
  refine QK (RP (QK (WA ty1 (QK (WA ty1 ?_)))))
  show Ri _ _ (V7 (.ref it) 6 e.key e.val) _ _ _
  unfold V7
  refine QK (WW ?_)
  have zu:u.objs.size=hp.objs.size:=us.1
  have v1:=QU { cls:=.type "tuple",data:=.seq #[e.key,e.val] } ue
  have vt:(u.push { cls:=.type "tuple",data:=.seq #[e.key,e.val] }).get? hp.objs.size=some { cls:=.type "tuple",data:=.seq #[e.key,e.val] }:=zu ▸ Rj u rfl
  have vz:(u.push { cls:=.type "tuple",data:=.seq #[e.key,e.val] }).objs.size=hp.objs.size+1:=by rw [Wy,zu]
  have vk:∀ b o,b≠it->hp.get? b=some o->(u.push { cls:=.type "tuple",data:=.seq #[e.key,e.val] }).get? b=some o:=fun b o hb x=>QU _ (us.extBut b o hb x)
  show Ri _ _ (VX (.ref it) >>= _) _ _ ⟨u.push { cls:=.type "tuple",data:=.seq #[e.key,e.val] },gs,dr,tk,os⟩
  rw [zu]
  generalize u.push { cls:=.type "tuple",data:=.seq #[e.key,e.val] } = v at v1 vt vz vk
  have nit:hp.objs.size≠it:=S7 hil
  have fin:∀ v':Si,ItI v' it d S (i+1) es.size ep->T8 it v v'->Q (some (.ref hp.objs.size)) ⟨v',gs,dr,tk,os⟩:=fun v' j' sb=>
   q1 e v' he j' (sb.extBut _ _ nit vt) (by show v'.objs.size=_;rw [sb.1,vz]) fun b o hb x=>sb.extBut b o hb (vk b o hb x)
  refine QK ?_
  unfold VX
  rcases jr with rfl|⟨a,o,rfl,r2,r3,r4⟩
  ·refine QK (Wc v1 rfl (x:=.none) rfl (QX ?_))
   simp only [if_true]
   refine QK (Wc v1 rfl (x:=ok) rfl (QK (Wc v1 rfl (x:=ov) rfl ?_)))
   refine QK (Uu v1 (by simp) fun v3 x3 y3=>QK (Uu x3 (by simp) fun v4 x4 y4=>QK (Uu x4 (by simp) fun v5 x5 y5=>QK (Uu x5 (by simp) fun v6 x6 y6=>?_))))
   refine QK (Z6 (QX (QX ⟨_,rfl,QX (fin v6 ?_ ?_)⟩)))
   ·refine ⟨Vh hp.objs.size,e.key,e.val,false,by simpa using x6,.inr ⟨hp.objs.size,_,rfl,y6.extBut _ _ nit (y5.extBut _ _ nit (y4.extBut _ _ nit (y3.extBut _ _ nit vt))),nit,S7 hS⟩⟩
   ·exact ((y3.trans y4).trans y5).trans y6
  ·refine QK (Wc v1 rfl (x:=Vh a) rfl ?_)
   show Ri _ _ (loadIfAlive ((a:Int).toNat) >>= _) _ _ _
   rw [UB]
   refine QK (PySem.W.kdx_alive (vk a o r3 r2) ?_)
   simp only [Option.isNone_some,Q3,if_false]
   refine QK (Wc v1 rfl (x:=.bool fl) rfl ?_)
   cases fl with
   | true=>
    rw [if_neg (show ¬ ((Vp true != Vp true)=true) from fun x=>RR x)]
    refine QX ?_
    simp only [Q3,if_false]
    exact QX (QX ⟨_,rfl,QX (fin v ⟨_,ok,ov,true,v1,.inr ⟨a,o,rfl,vk a o r3 r2,r3,r4⟩⟩ (Yc _ _))⟩)
   | false=>
    rw [if_pos (show (Vp false != Vp true)=true from rfl)]
    refine QK (Uu v1 (by simp) fun v3 x3 y3=>QX ?_)
    simp only [Q3,if_false]
    exact QX (QX ⟨_,rfl,QX (fin v3 ⟨_,ok,ov,true,by simpa using x3,.inr ⟨a,o,rfl,y3.extBut a o r3 (vk a o r3 r2),r3,r4⟩⟩ y3)⟩)
 | none=>
  refine QK (QK (nm (QX ?_)))
  show Ri _ _ (Z8 (.ref it) 2 .none >>= _) _ _ _
  refine QK (Yx je rfl (by simp) ?_)
  show Ri _ _ (a2a (.type "StopIteration") [] >>= _) _ _ _
  simp only [a2a,newTuple]
  refine QK (QK (Ti ?_ (by size_fits)))
  refine QK (m:=WY _ _) (wpAny_of_eq (a:=Sm) (by first|rfl|(simp only [WY];rfl)) (Ti ?_ (by size_fits)))
  simp only [raiseNew]
  refine QK (wpAny_handled ?_)
  rw [show A.in1.handled=none from hh]
  refine QK (QX (wpAny_throw ?thrown))
  case thrown=>exact QK (UW (T:="StopIteration") (b:=true) ⟨_,Rj _ rfl,rfl⟩ a2e (QX (q2 he _ (((S9 ..).extBut.push _).push _))))
theorem Mz {r:Addr}{Q:QL->QM->Prop}(hv:s.heap.IsItemsView r d)(g:RawD s.heap d es ep)
  (q:Q (.ref s.heap.objs.size) { s with heap:=s.heap.push { cls:=.type "dict_itemiterator",data:=.fields #[.none,.bool false,.ref d,.int 0 0,.int es.size 0,.int ep 0,.none,.none] } }):Ri (Rl P w) A (Yy (.ref r)) Q E s:=by
 obtain ⟨y,v1,v2,v3⟩:=id hv
 obtain ⟨z,g1,g2,g3⟩:=id g
 refine a0K hv.typeIs F.slot_dict_items_iter (SJ F.slot_dict_items_iter hv.typeIs F.entry_dict_items_iter ?_ (F.args_dict_items_iter_1 _))
 unfold Builtin.«dict_items.__iter__» Z3 Z2
 refine QK (QX (QK (QK (Wc v1 v3 (x:=.ref d) rfl (QX (QK (QK (Sk g1 g3 (QK (Vb g1 g3 ?_))))))))))
 simp only [show UU "dict_itemiterator" = true by decide,if_true]
 refine Ti (QX ⟨_,rfl,"dict_itemiterator",_,⟨_,Rj _ rfl,rfl⟩,F.slot_dict_itemiterator_next.lookup,?_⟩) (by simp only [sizeOk,VY,QZ,Q8,Rq,Tz];rw [Sn];omega)
 simpa [Vh,VY] using q
end
structure PrsAt (es:Array Sj)(lo:Addr)(h:Si)(as:List Addr):Prop where
 up:as.Pairwise (·<·)
 over:∀ a∈as,lo<a
 prs:∀ (j:Nat)(a:Addr),as[j]? = some a->∃ e,es[j]? = some e/\h.get? a=some { cls:=.type "tuple",data:=.seq #[e.key,e.val] }
theorem PrsAt.stay {es:Array Sj}{lo:Addr}{h h':Si}{as:List Addr}(p:PrsAt es lo h as)(k:∀ b o,lo<b->h.get? b=some o->h'.get? b=some o):PrsAt es lo h' as:=
 ⟨p.up,p.over,fun j a hj=>let ⟨e,e1,e2⟩:=p.prs j a hj;⟨e,e1,k a _ (p.over a (Rz hj)) e2⟩⟩
theorem PrsAt.lt {es:Array Sj}{lo:Addr}{h:Si}{as:List Addr}(p:PrsAt es lo h as){a:Addr}(ha:a∈as):a<h.objs.size:=by
 obtain ⟨j,hj⟩:=Ut.mp ha
 obtain ⟨_,_,e⟩:=p.prs j a hj
 exact Q4 e
theorem PrsAt.snoc {es:Array Sj}{lo:Addr}{h:Si}{as:List Addr}{b:Addr}{e:Sj}(p:PrsAt es lo h as)(hb:∀ a∈as,a<b)(hl:lo<b)(he:es[as.length]? = some e)(ht:h.get? b=some { cls:=.type "tuple",data:=.seq #[e.key,e.val] }):PrsAt es lo h (as++[b]):=by
 refine ⟨SS.mpr ⟨p.up,List.pairwise_singleton _ _,fun a ha c hc=>by rw [RQ.mp hc];exact hb a ha⟩,fun a ha=>?_,fun j a hj=>?_⟩
 ·rcases Sb.mp ha with ha|ha
  ·exact p.over a ha
  ·rw [RQ.mp ha];exact hl
 ·rcases UA j as.length with h1|h1|h1
  ·rw [Q9 h1] at hj
   exact p.prs j a hj
  ·subst h1
   have:b=a:=by simpa using hj
   subst this
   exact ⟨e,he,ht⟩
  ·rw [R8 (by simp;omega)] at hj
   cases hj
section
variable {P:Rk}{w:RG}{A:Rw}{s:QM}{R:X7->QM->Prop}{es:Array Sj}{ep:Nat}{S I d:Addr}
theorem MB (hh:A.handled=none)(hSI:S<I)(hSd:d≠S)(hId:d≠I)(hn:es.size<=Q6)(res:QL){h1:Si}
  (hR:∀ (h':Si)(tk:Nat)(acc:Array QL)(c:Nat)(as:List Addr),(∀ b o,b≠S->b≠I->h1.get? b=some o->h'.get? b=some o)->h'.get? S=some { cls:=.type "list",dict:=none,data:=.seq acc c,slots:=#[] }->as.length=es.size->PrsAt es I h' as->acc.toList=as.map Q2->R (.ok (.ret res)) { s with heap:=h',toks:=tk }) :
  ∀ (k i:Nat)(h:Si)(tk c:Nat)(acc:Array QL)(as:List Addr),es.size - i=k->i<=es.size->ItI h I d S i es.size ep->RawD h d es ep->(∀ b o,b≠S->b≠I->h1.get? b=some o->h.get? b=some o)->h.get? S=some { cls:=.type "list",dict:=none,data:=.seq acc c,slots:=#[] }->
   acc.toList=as.map Q2->as.length=i->PrsAt es I h as->I<h.objs.size->Vz (Rl P w) A (.builtin "list.extend.loop" ⟨[.ref S,.ref I,res],[]⟩) R { s with heap:=h,toks:=tk }:=by
 have ne:S≠I:=Ro hSI
 intro k
 induction k with
 | zero=>
  intro i h tk c acc as hk hi j g kp gS ha al pr lt
  refine Vc F.entry_extend_loop ?_
  rw [T1 F.plain_extend_loop _]
  refine QK (m:=Wf (.ref I)) (CA (s:={ s with heap:=h,toks:=tk }) (A:=A.in1) hh j g (Q4 gS) (fun e h' he=>?_) fun _ h' x=>QX (hR h' tk acc c as (fun b o b1 b2 z=>x b o b2 (kp b o b1 b2 z)) (x S _ ne gS) (by omega) (pr.stay fun b o hb z=>x b o (S7 hb) z) ha))
  rw [Wb (by omega)] at he
  cases he
 | succ k ih=>
  intro i h tk c acc as hk hi j g kp gS ha al pr lt
  have sz:acc.size=i:=by rw [<- TJ,ha,QY,al]
  refine Vc F.entry_extend_loop ?_
  rw [T1 F.plain_extend_loop _]
  refine QK (m:=Wf (.ref I)) (CA (s:={ s with heap:=h,toks:=tk }) (A:=A.in1) hh j g (Q4 gS) (fun e h' he j' ht hz hk'=>?_) fun he=>?_)
  ·dsimp only at ht hz hk' ⊢
   have gS':=hk' S _ ne gS
   have Sl:S<h.objs.size:=Q4 gS
   have up:∀ b o,b≠S->h'.get? b=some o->(h'.update S (RW (·.push (Q2 h.objs.size)))).get? b=some o:=fun b o hb z=>(Sg _ _ (Sw hb)).trans z
   refine QK (m:=a1a S (·.push (Q2 h.objs.size))) (WE gS' rfl (QX ⟨U5 F.plain_extend_loop _,?_⟩) (by rw [sz];omega) (by show (acc.push (Q2 h.objs.size)).size<=Q6+1;rw [Array.size_push,sz];omega))
   refine ih (i+1) _ tk _ (acc.push (Q2 h.objs.size)) (as++[h.objs.size]) (by omega) (by omega) (j'.stay (Sw ne) up) (g.stay fun o z=>up d o hSd (hk' d o hId z)) (fun b o b1 b2 z=>up b o b1 (hk' b o b2 (kp b o b1 b2 z))) (SO _ gS' rfl) (by rw [S0,ha,Th];rfl) (by rw [Q8,al];rfl) ?_ ?_
   ·exact ((pr.stay fun b o hb z=>up b o (S7 (Vm hSI hb)) (hk' b o (S7 hb) z))).snoc (fun a ha'=>pr.lt ha') lt (by rw [al];exact he) (up _ _ (S7 Sl) ht)
   ·exact Vm lt (Q4 (up _ _ (S7 Sl) ht))
  ·rw [UQ (by omega)] at he
   cases he
theorem MC {r:Addr}{res:QL}{c0:Nat}(hh:A.handled=none)(hv:s.heap.IsItemsView r d)(g:RawD s.heap d es ep)(Sr:S≠r)(Sd:d≠S)(gS:s.heap.get? S=some { cls:=.type "list",data:=.seq #[] c0 }) (hn:es.size<=Q6)
  (hR:∀ (h':Si)(tk:Nat)(acc:Array QL)(c:Nat)(as:List Addr),(∀ b o,b≠S->s.heap.get? b=some o->h'.get? b=some o)->h'.get? S=some { cls:=.type "list",dict:=none,data:=.seq acc c,slots:=#[] }->as.length=es.size->PrsAt es s.heap.objs.size h' as->acc.toList=as.map Q2->R (.ok (.ret res)) { s with heap:=h',toks:=tk }) :
  Ri (Rl P w) A.in1 (S4 (.ref S) (.ref r) res) (fun fin s'=>match fin with|.done f=>R (.ok f) s'|.again c'=>c'.quiet=true/\Vz (Rl P w) A c' R s') (fun e s'=>R (.error e) s') s:=by
 have SI:S<s.heap.objs.size:=Q4 gS
 have dI:d<s.heap.objs.size:=g.lt
 have run:∀ (h:Si)(c1 tk:Nat),(∀ b o,b≠S->(s.heap.push { cls:=.type "dict_itemiterator",data:=.fields #[.none,.bool false,.ref d,.int 0 0,.int es.size 0,.int ep 0,.none,.none] }).get? b=some o->h.get? b=some o)->h.get? S=some { cls:=.type "list",data:=.seq #[] c1 }->
   Vz (Rl P w) A (.builtin "list.extend.loop" ⟨[.ref S,.ref s.heap.objs.size,res],[]⟩) R { s with heap:=h,toks:=tk }:=by
  intro h c1 tk kp gS1
  have gI:=kp s.heap.objs.size _ (S7 SI) (Rj _ rfl)
  exact MB (s:=s) (h1:=s.heap) (ep:=ep) hh SI Sd (Ro dI) hn res (fun h' tk' acc c as k' z1 z2 z3 z4=>hR h' tk' acc c as (fun b o hb e=>k' b o hb (Ro (Q4 e)) e) z1 z2 z3 z4) es.size 0 h tk c1 #[] [] (Xb _) (Su _)
   ⟨.none,.none,.none,false,gI,.inl rfl⟩ (g.stay fun o e=>kp d o Sd (QU _ e)) (fun b o hb _ e=>kp b o hb (QU _ e)) gS1 rfl rfl ⟨Wj,fun _ ha=>(by cases ha),fun j a hj=>(by simp at hj)⟩ (Q4 gI)
 unfold S4
 refine QK (Wz (T:="dict_items") hv.typeIs ?_)
 simp only [show UC (.ref S) (.ref r)=false by simp [UC,Sr],show (Tu "dict_items" == Tu "list")=false by decide,show (Tu "dict_items" == Tu "tuple")=false by decide,Yj,Q3,if_false]
 refine QK (Mz hv g ?_)
 have gS1:=QU { cls:=.type "dict_itemiterator",data:=.fields #[.none,.bool false,.ref d,.int 0 0,.int es.size 0,.int ep 0,.none,.none] } gS
 refine QK (RP (PySem.W.kdx_hint (let ⟨o,ho,hc,_⟩:=hv;⟨o,QU _ ho,hc⟩) ?_))
 refine UD (fun _=>?_) (fun _=>QX ⟨U5 F.plain_extend_loop _,run _ c0 _ (fun b o _ e=>e) gS1⟩)
 refine QK (Uj (QK ?_))
 refine QK (m:=a1a S (·.push .none)) (WE gS1 rfl ?_)
 have gS2:=SO (RW (·.push Sm)) gS1 rfl
 refine WE (hz:=by seq_fits) gS2 rfl (QX ⟨U5 F.plain_extend_loop _,run _ _ _ (fun b o hb e=>?_) (SO (RW (·.pop)) gS2 rfl)⟩)
 exact (Sg _ _ (Sw hb)).trans ((Sg _ _ (Sw hb)).trans e)
theorem MH {r:Addr}{E:QL->QM->Prop}{T:List QL->QM->Prop}(hh:A.handled=none)(hv:s.heap.IsItemsView r d)(g:RawD s.heap d es ep)(hn:es.size<=Q6)
  (q:∀ (h':Si)(tk:Nat)(as:List Addr),(∀ b o,s.heap.get? b=some o->h'.get? b=some o)->as.length=es.size->PrsAt es s.heap.objs.size h' as->s.heap.objs.size<=h'.objs.size->T (as.map Q2) { s with heap:=h',toks:=tk }):Ri (Rl P w) A (collect (.ref r)) T E s:=by
 have rl:r<s.heap.objs.size:=let ⟨_,ho,_⟩:=hv;Q4 ho
 unfold collect
 refine QK (wpAny_runValue (Vc a1D ?_))
 rw [T1 F.plain_proto_collect _]
 refine QK (m:=newList []) (Ti (QX ⟨U5 F.plain_list_iadd _,Vc a1E ?_⟩))
 rw [T1 F.plain_list_iadd _]
 have gS:(s.heap.push { cls:=.type "list",data:=.seq ([]:List QL).toArray }).get? s.heap.objs.size=some { cls:=.type "list",data:=.seq #[] }:=Rj _ rfl
 have all:=MC (A:=A) (s:={ s with heap:=s.heap.push { cls:=.type "list",data:=.seq ([]:List QL).toArray } }) (P:=P) (w:=w) (es:=es) (ep:=ep) (res:=.ref s.heap.objs.size) (c0:=0)
  (R:=fun (q:X7)(s':QM)=>∃ (h':Si)(tk:Nat)(acc:Array QL)(c:Nat)(as:List Addr),q=.ok (.ret (.ref s.heap.objs.size))/\s' = { s with heap:=h',toks:=tk }/\(∀ b o,s.heap.get? b=some o->h'.get? b=some o)/\h'.get? s.heap.objs.size=some { cls:=.type "list",dict:=none,data:=.seq acc c,slots:=#[] }/\as.length=es.size/\PrsAt es s.heap.objs.size h' as/\acc.toList=as.map Q2)
  hh (let ⟨o,ho,x⟩:=hv;⟨o,QU _ ho,x⟩) (g.stay fun o e=>QU _ e) (S7 rl) (Ro g.lt) gS hn
  (fun h' tk acc c as z0 z1 z2 z3 z4=>⟨h',tk,acc,c,as,rfl,rfl,fun b o e=>z0 b o (Ro (Q4 e)) (QU _ e),z1,z2,⟨z3.up,fun a ha=>Vm (Xm _) (by have:=z3.over a ha;rw [Wy] at this;exact this),z3.prs⟩,z4⟩)
 refine RV all (fun fin s' x=>?_) fun e s' x=>?_
 ·cases fin with
  | done f=>
   obtain ⟨h',tk,acc,c,as,e,rfl,z0,z1,z2,z3,z4⟩:=x
   cases e
   refine QK (m:=load s.heap.objs.size) (Xg z1 (QX ?_))
   show T acc.toList _
   rw [z4]
   exact q h' tk as z0 z2 z3 (Vn (Q4 z1))
  | again c1=>
   refine ⟨x.1,XG x.2 fun y s2 x=>?_⟩
   obtain ⟨h',tk,acc,c,as,rfl,rfl,z0,z1,z2,z3,z4⟩:=x
   refine QK (m:=load s.heap.objs.size) (Xg z1 (QX ?_))
   show T acc.toList _
   rw [z4]
   exact q h' tk as z0 z2 z3 (Vn (Q4 z1))
 ·obtain ⟨_,_,_,_,_,e',_⟩:=x
  cases e'
end
end L3
namespace L3
open PySem L2 PySem.W PyProof.Rows
section
variable {P:Rk}{w:RG}{A:Rw}{E:QL->QM->Prop}{s:QM}
theorem CB {v:QL}{Q:Bool->QM->Prop}(q:Q true s):Ri (Rl P w) A (eqBool v v) Q E s:=by
 unfold eqBool
 refine RP ?_
 rw [if_pos (by simp)]
 exact QK (Uj (QX q))
theorem vQ:∀ k:List Int,HT.lexLt k k=false
 | []=>rfl
 | a::k=>by simp [HT.lexLt,vQ k]
noncomputable def jD (P:Rk)(w:RG)(h:Si)(b:Addr)(k:List Int):Prop:=Tb.IsT P w h k b/\∃ xs:List QL,a0X h b xs.toArray/\Uz xs k
theorem MJ {a a' b b':Addr}{v v':QL}{k k':List Int}{C:Bool->QM->Prop}(hu:A.units<SK)(ga:s.heap.get? a=some { cls:=.type "tuple",data:=.seq #[.ref b,v] }) (ga':s.heap.get? a'=some { cls:=.type "tuple",data:=.seq #[.ref b',v'] })
  (hb:jD P w s.heap b k)(hb':jD P w s.heap b' k')(hv:k=k'->v=v')(q:C (HT.lexLt k k') s):Ri (Rl P w) A (a0y (tuples' false) (.ref a) (.ref a')) C (fun _ _=>False) s:=by
 refine kat_lt ga rfl ga' rfl ?_
 refine kat_cons ((SN (Tt P w)).eqBool hu hb.1 hb'.1 ?_)
 by_cases e:k=k'
 ·obtain rfl:=hv e
  subst e
  rw [decide_eq_true rfl]
  refine kat_yes (kat_cons (CB (kat_yes (kat_nil ?_))))
  rw [vQ] at q
  exact q
 ·rw [decide_eq_false e]
  obtain ⟨xs,t1,i1⟩:=hb.2
  obtain ⟨ys,t2,i2⟩:=hb'.2
  refine kat_no (kat_one _ _ (HT.lt_tupInts t1 t2 (by simpa using i1) (by simpa using i2) hu ?_))
  exact q
noncomputable def fI (P:Rk)(w:RG)(A:Rw)(us:List QL)(an:Nat->Nat->Bool)(s:QM):Prop:=
 Ri (Rl P w) A (keyKind' us.toArray) (fun κ s'=>s'=s/\∀ (i j:Nat)(C:Bool->QM->Prop),i<us.length->j<us.length->C (an i j) s->Ri (Rl P w) A (a0y κ (us.getD i .none) (us.getD j .none)) C (fun _ _=>False) s) (fun _ _=>False) s
theorem MK {es:Array Sj}{lo:Addr}{as bs:List Addr}{ks:List (List Int)}(hu:A.units<SK)(p:PrsAt es lo s.heap as)(h0:0<as.length)(hl:as.length=es.size)(hk:ks.length=es.size)(hbl:bs.length=es.size)(key:∀ (j:Nat)(e:Sj),es[j]? = some e->e.key=.ref (bs.getD j 0)/\jD P w s.heap (bs.getD j 0) (ks.getD j []))
  (nd:ks.Nodup):fI P w A (as.map Q2) (fun i j=>HT.lexLt (ks.getD i []) (ks.getD j [])) s:=by
 have at_:∀ i,i<as.length->∃ (e:Sj),es[i]? = some e/\s.heap.get? (as.getD i 0)=some { cls:=.type "tuple",data:=.seq #[.ref (bs.getD i 0),e.val] }/\jD P w s.heap (bs.getD i 0) (ks.getD i []):=fun i hi=>by
  have ea:as[i]? = some (as.getD i 0):=by simp [RS,hi]
  obtain ⟨e,e1,e2⟩:=p.prs i _ ea
  obtain ⟨k1,k2⟩:=key i e e1
  rw [k1] at e2
  exact ⟨e,e1,e2,k2⟩
 unfold fI
 have tups:a0W s.heap (as.map Q2) (bs.map Q2):=by
  have go:∀ (n:Nat)(as' bs':List Addr),as'.length=n->bs'.length=n->(∀ i,i<n->∃ v:QL,s.heap.get? (as'.getD i 0)=some { cls:=.type "tuple",data:=.seq #[.ref (bs'.getD i 0),v] })->a0W s.heap (as'.map Q2) (bs'.map Q2):=by
   intro n
   induction n with
   | zero=>
    intro as' bs' h1 h2 _
    rw [Tc.mp h1,Tc.mp h2]
    exact .nil
   | succ n ih=>
    intro as' bs' h1 h2 h3
    match as',bs',h1,h2 with
    | x::as',y::bs',h1,h2=>
     obtain ⟨v,hv⟩:=h3 0 (by omega)
     refine .cons hv rfl rfl (by simp) (ih as' bs' (by simpa using h1) (by simpa using h2) fun i hi=>?_)
     have:=h3 (i+1) (by omega)
     simpa using this
  refine go as.length as bs rfl (by omega) fun i hi=>?_
  obtain ⟨e,_,e2,_⟩:=at_ i hi
  exact ⟨_,e2⟩
 refine a2c (T:=.type "tuple") tups (by rw [QY];omega) (fun v hv=>?_) (by decide) ⟨rfl,fun i j C hi hj hC=>?_⟩
 ·obtain ⟨b,hb,rfl⟩:=RE.mp hv
  obtain ⟨i,hi⟩:=Ut.mp hb
  have hi':i<as.length:=by
   have:=(QN.mp hi).1
   omega
  obtain ⟨e,_,_,k2⟩:=at_ i hi'
  have:bs.getD i 0=b:=by simp [RS,hi]
  rw [this] at k2
  obtain ⟨xs,⟨o,o1,o2,_⟩,_⟩:=k2.2
  exact kitAt_ty _ _ ⟨o,o1,o2⟩
 ·rw [QY] at hi hj
  obtain ⟨e,e1,e2,e3⟩:=at_ i hi
  obtain ⟨e',f1,f2,f3⟩:=at_ j hj
  have gi:(as.map Q2).getD i .none=.ref (as.getD i 0):=by simp [RS,hi]
  have gj:(as.map Q2).getD j .none=.ref (as.getD j 0):=by simp [RS,hj]
  rw [gi,gj]
  refine MJ hu e2 f2 e3 f3 (fun z=>?_) hC
  have hij:i=j:=by
   have h1:ks.getD i []=ks[i]:=by simp [RS,show i<ks.length by omega]
   have h2:ks.getD j []=ks[j]:=by simp [RS,show j<ks.length by omega]
   rw [h1,h2] at z
   rcases UA i j with h|h|h
   ·exact absurd z ((RB.mp nd) i j (by omega) (by omega) h)
   ·exact h
   ·exact absurd z.symm ((RB.mp nd) j i (by omega) (by omega) h)
  subst hij
  rw [e1] at f1
  cases f1
  rfl
end
end L3
namespace L3
open PySem L2 PySem.W PyProof.Rows
section
variable {P:Rk}{w:RG}{A:Rw}{E:QL->QM->Prop}{s:QM}
theorem ML {c:Addr}{us:List QL}{z:Nat}{R:ZA->QM->Prop}{an:Nat->Nat->Bool}(h2:2<=us.length)(h64:us.length<64)(g:s.heap.get? c=some (RY "list" us.toArray z)) (H:∀ h3:Si,(∀ b o,b≠c->s.heap.get? b=some o->h3.get? b=some o)->fI P w A us an { s with heap:=h3 })
  (q:R (.done (.ret .none)) { s with heap:=V8 s.heap c us ((bB an us.length).map fun i=>us.getD i Sm).toArray }):Ri (Rl P w) A (Builtin.«list.sort» ⟨[.ref c],[]⟩) R E s:=by
 rw [Yn]
 refine QK (Zv g rfl (QK (VN g rfl ?_ (by rw [QZ,Sn];omega) (Su _))))
 obtain ⟨y,g1⟩:∃ y,(s.heap.update c (RW fun _=>#[])).get? c=some (RY "list" #[] y):=⟨_,Yo g _⟩
 refine QK (We g1 rfl (QK (WW (QK (U4 (RP ?_) (Su _))) (by show us.length<=_;rw [Sn];omega))))
 have g6:(((s.heap.update c (RW fun _=>#[])).push (RY "tuple" us.toArray 0)).push (RY "list" #[] 0)).get? c=some (RY "list" #[] y):=
  QU _ (QU _ g1)
 have ask:=H (((s.heap.update c (RW fun _=>#[])).push (RY "tuple" us.toArray 0)).push (RY "list" #[] 0)) fun b o hb e=>QU _ (QU _ ((Sg _ _ (Sw hb)).trans e))
 show Ri (Rl P w) A _ R E ⟨((s.heap.update c (RW fun _=>#[])).push (RY "tuple" us.toArray 0)).push (RY "list" #[] 0),s.gens,s.drawn,s.toks,s.os⟩
 dsimp only
 have many:¬ us.toArray.size<2:=by rw [QZ];omega
 rw [if_neg many,if_neg many]
 refine QK (RV ask (fun κ s' hk=>?_) fun _ _ x=>x.elim)
 obtain ⟨rfl,hk⟩:=hk
 refine QK (RV (kat_run (ks:=us) (vs:=us) (κ:=κ) (Q:=fun st' s'=>s' = { s with heap:=((s.heap.update c (RW fun _=>#[])).push (RY "tuple" us.toArray 0)).push (RY "list" #[] 0) }/\failedOf st'=none/\(Zi st').map (·.2)=((bB an us.length).map fun i=>us.getD i Sm).toArray)
  (G:=fun p s'=>s' = { s with heap:=((s.heap.update c (RW fun _=>#[])).push (RY "tuple" us.toArray 0)).push (RY "list" #[] 0) }/\p.toList=bB an us.length) rfl h2 h64 (fun p st' s' a1 a2 a3 a4=>⟨a4.1,a3,by rw [kat_snds rfl a2,a4.2]⟩)
  (Bg (n:=us.length) (ans:=an) (fun i j C hi hj hC=>hk i j C hi hj hC) (Bl (by omega)) ⟨rfl,rfl⟩)) (fun r s' hr=>?_) fun _ _ e=>e)
 obtain ⟨⟨⟩,st'⟩:=r
 obtain ⟨rfl,hf,hout⟩:=hr
 dsimp only at hf hout ⊢
 rw [hout]
 have hsz:((bB an us.length).map fun i=>us.getD i Sm).length=us.length:=by
  rw [QY,(qG an (n:=us.length) (by omega)).length_eq,W0]
 refine QK (We g6 rfl (QK (VN g6 rfl ?_ (hsz2:=by rw [QZ,hsz,Sn];omega))))
 rw [hf]
 simp only [bne_self_eq_false,Q3,if_false]
 exact QX q
end
end L3
namespace L3
open PySem L2 PySem.W PyProof.Rows
section
variable {P:Rk}{w:RG}{A:Rw}{E:QL->QM->Prop}{s:QM}
open Classical in
noncomputable def dY (us:List QL)(v:QL):Nat:=if h:∃ i,us[i]? = some v then h.choose else 0
theorem qX {us:List QL}(nd:us.Nodup){i:Nat}{v:QL}(h:us[i]? = some v):dY us v=i:=by
 unfold dY
 have hx:∃ i,us[i]? = some v:=⟨i,h⟩
 rw [dif_pos hx]
 have h2:=hx.choose_spec
 obtain ⟨l1,e1⟩:=QN.mp h
 obtain ⟨l2,e2⟩:=QN.mp h2
 have:=RB.mp nd
 rcases UA i hx.choose with h'|h'|h'
 ·exact absurd (e1.trans e2.symm) (this _ _ l1 l2 h')
 ·exact h'.symm
 ·exact absurd (e2.trans e1.symm) (this _ _ l2 l1 h')
theorem CC {α:Type}{lt:α->α->Bool}(O:Ord1 lt)(d:α){ks:List α}{c:Addr}{us:List QL}{z:Nat}{R:ZA->QM->Prop}(hk:ks.length=us.length)(nk:ks.Nodup)(nu:us.Nodup)(h2:2<=us.length)(hz:us.length<=Q6)(g:s.heap.get? c=some (RY "list" us.toArray z))
  (H:∀ h3:Si,(∀ b o,b≠c->s.heap.get? b=some o->h3.get? b=some o)->fI P w A us (fun i j=>lt (ks.getD i d) (ks.getD j d)) { s with heap:=h3 })
  (q:R (.done (.ret .none)) { s with heap:=V8 s.heap c us ((bB (fun i j=>lt (ks.getD i d) (ks.getD j d)) us.length).map fun i=>us.getD i Sm).toArray }):Ri (Rl P w) A (Builtin.«list.sort» ⟨[.ref c],[]⟩) R E s:=by
 have km:∀ i,i<us.length->ks.getD i d∈ks:=fun i hi=>by
  rw [Rv,QV (by omega)]
  exact To _
 have kn:∀ i j,i<us.length->j<us.length->i≠j->ks.getD i d≠ks.getD j d:=fun i j hi hj hij=>by
  rw [Rv,Rv,QV (by omega),QV (by omega)]
  have:=RB.mp nk
  rcases Nat.lt_or_gt_of_ne hij with h|h
  ·exact this i j (by omega) (by omega) h
  ·exact (this j i (by omega) (by omega) h).symm
 have ix_:∀ v∈us,∃ i,i<us.length/\us[i]? = some v/\dY us v=i:=fun v hv=>by
  obtain ⟨i,hi⟩:=UI hv
  exact ⟨i,(QN.mp hi).1,hi,qX nu hi⟩
 refine BJ (rk:=fun v=>eS lt ks (ks.getD (dY us v) d)) ?_ h2 hz g (fun h3 kp=>?_) fun out o1 o2=>?_
 ·refine RB.mpr fun i j hi hj hij=>?_
  rw [qX nu (QV hi),qX nu (QV hj)]
  exact qK O (km i hi) (km j hj) (kn i j hi hj (by omega))
 ·have a:=H h3 kp
  unfold fI at a
  unfold qI
  refine RV a (fun κ s' hq=>?_) fun _ _ x=>x
  obtain ⟨e,hq⟩:=hq
  refine ⟨e,fun x y C hx hy hC=>?_⟩
  obtain ⟨i,li,gi,ei⟩:=ix_ x hx
  obtain ⟨j,lj,gj,ej⟩:=ix_ y hy
  dsimp only at hC
  rw [ei,ej,<- mM O (km i li) (km j lj)] at hC
  have:=hq i j C li lj hC
  have e1:us.getD i .none=x:=by rw [Rv,gi];rfl
  have e2:us.getD j .none=y:=by rw [Rv,gj];rfl
  rw [e1,e2] at this
  exact this
 ·have hix:∀ i∈bB (fun i j=>lt (ks.getD i d) (ks.getD j d)) us.length,i<us.length:=fun i hi=>Ss.mp ((dO _ _).mem_iff.mp hi)
  have hgd:∀ i,i<us.length->us[i]? = some (us.getD i .none):=fun i hi=>by
   rw [Rv,QV hi];rfl
  have e:out=(bB (fun i j=>lt (ks.getD i d) (ks.getD j d)) us.length).map fun i=>us.getD i Sm:=by
   have hm:∀ v∈out,v∈us:=fun v hv=>o1.mem_iff.mp hv
      -- the places of what came out
   have hplaces:out.map (dY us)=bB (fun i j=>lt (ks.getD i d) (ks.getD j d)) us.length:=by
    have hperm:(out.map (dY us)).Perm (Se us.length):=by
     refine (o1.map (dY us)).trans ?_
     have:us.map (dY us)=Se us.length:=by
      apply T6
      intro i
      rw [RH]
      by_cases hi:i<us.length
      ·rw [QV hi,Y9 hi]
       exact congrArg some (qX nu (QV hi))
      ·rw [R8 (by omega),R8 (by simp;omega)]
       rfl
     rw [this]
    have s1:(out.map (dY us)).Pairwise fun i j=>lt (ks.getD i d) (ks.getD j d)=true:=by
     rw [SQ]
     have nd:(out.map (dY us)).Nodup:=hperm.nodup_iff.mpr ZV
     unfold WV at nd
     rw [SQ] at nd
     refine TQ (R:=fun x y=>eS lt ks (ks.getD (dY us x) d)<=eS lt ks (ks.getD (dY us y) d)/\dY us x≠dY us y) (fun {x y} hx hy h=>?_) (o2.and nd)
     obtain ⟨i,li,gi,ei⟩:=ix_ x (hm x hx)
     obtain ⟨j,lj,gj,ej⟩:=ix_ y (hm y hy)
     rw [ei,ej] at h ⊢
     rw [mM O (km i li) (km j lj),decide_eq_true_eq]
     have:=qK O (km i li) (km j lj) (kn i j li lj h.2)
     have:=h.1
     omega
    have s2:(bB (fun i j=>lt (ks.getD i d) (ks.getD j d)) us.length).Pairwise fun i j=>lt (ks.getD i d) (ks.getD j d)=true:=by
     have a:=BV (lt:=lt) O.ir O.tr (fun a b c h=>by
      cases e:lt a c with
      | true=>exact .inl rfl
      | false=>
       cases e2:lt c b with
       | true=>exact .inr rfl
       | false=>
        cases e3:lt c a with
        | true=>rw [O.tr _ _ _ e3 h] at e2;cases e2
        | false=>rw [O.to _ _ e e3,e2] at h;cases h) d ks (n:=us.length) (by omega)
     have nd:(bB (fun i j=>lt (ks.getD i d) (ks.getD j d)) us.length).Nodup:=(dO _ _).nodup_iff.mpr ZV
     refine TQ (R:=fun i j=>lt (ks.getD j d) (ks.getD i d)=false/\i≠j) (fun {i j} hi hj h=>?_) (a.and nd)
     cases e:lt (ks.getD i d) (ks.getD j d) with
     | true=>rfl
     | false=>exact absurd (O.to _ _ e h.1) (kn i j (hix i hi) (hix j hj) h.2)
    exact VR (le:=fun i j=>lt (ks.getD i d) (ks.getD j d)=true) (fun i j _ _ h1 h2=>by
     have:=O.tr _ _ _ h1 h2
     rw [O.ir] at this;cases this) s1 s2 (hperm.trans (dO _ _).symm)
   rw [<- hplaces,RJ]
   symm
   conv=>rhs;rw [<- a1k out]
   refine SE fun v hv=>?_
   obtain ⟨i,li,gi,ei⟩:=ix_ v (hm v hv)
   show us.getD (dY us v) .none=v
   rw [ei,Rv,gi]
   rfl
  rw [e]
  exact q
end
end L3
namespace L3
open PySem L2 PySem.W PyProof.Rows
section
variable {P:Rk}{w:RG}{A:Rw}{E:QL->QM->Prop}{s:QM}
theorem MM {α:Type}{lt:α->α->Bool}(O:Ord1 lt)(d0:α){ks:List α}{an:Nat->Nat->Bool}(ean:an=fun i j=>lt (ks.getD i d0) (ks.getD j d0)){r d:Addr}{es:Array Sj}{ep:Nat}{Q:QL->QM->Prop}(hk:ks.length=es.size)(nk:ks.Nodup)(hh:A.handled=none)(hv:s.heap.IsItemsView r d)(g:RawD s.heap d es ep)(h64:es.size<=Q6)
  (H:2<=es.size->∀ (h3:Si)(tk:Nat)(as:List Addr),(∀ b o,s.heap.get? b=some o->h3.get? b=some o)->as.length=es.size->PrsAt es s.heap.objs.size h3 as->fI P w A.in1.in1 (as.map Q2) an { s with heap:=h3,toks:=tk })
  (q:∀ (h3:Si)(tk:Nat)(as:List Addr)(L e:Nat),(∀ b o,s.heap.get? b=some o->h3.get? b=some o)->as.length=es.size->PrsAt es s.heap.objs.size h3 as->s.heap.objs.size<=L->(∀ a∈as,a≠L)->h3.get? L=some (RY "list" ((bB an es.size).map fun i=>Q2 (as.getD i 0)).toArray e)->Q (.ref L) { s with heap:=h3,toks:=tk }) :
  Ri (Rl P w) A (call (.builtin "sorted") [.ref r]) Q E s:=by
 refine UP Ye XB XF (XI _) ?_
 unfold VW
 refine QK (m:=YA "sorted" 1 1 _) (QX (QK (MH (A:=A.in1) hh hv g (by omega) fun h' tk as kp al pr hlo=>?_)))
 have ul:(as.map Q2).length=es.size:=by rw [QY,al]
 refine QK (U4 ?_ (by rw [ul];omega))
 have nu:(as.map Q2).Nodup:=by
  unfold WV
  rw [SQ]
  exact pr.up.imp fun h e=>by cases e;exact absurd h (Us _)
 subst ean
 have gL:(h'.push (RY "list" (as.map Q2).toArray 0)).get? h'.objs.size=some (RY "list" (as.map Q2).toArray 0):=Rj _ rfl
 have fin:∀ out:List QL,out=((bB (fun i j=>lt (ks.getD i d0) (ks.getD j d0)) es.size).map fun i=>Q2 (as.getD i 0))->Q (.ref h'.objs.size) { s with heap:=V8 (h'.push (RY "list" (as.map Q2).toArray 0)) h'.objs.size (as.map Q2) out.toArray,toks:=tk }:=by
  rintro out rfl
  obtain ⟨e,he⟩:=sortedHeap_at (h:=h'.push (RY "list" (as.map Q2).toArray 0)) (out:=((bB (fun i j=>lt (ks.getD i d0) (ks.getD j d0)) es.size).map fun i=>Q2 (as.getD i 0)).toArray) gL
  have old:∀ b o,h'.get? b=some o->(V8 (h'.push (RY "list" (as.map Q2).toArray 0)) h'.objs.size (as.map Q2) ((bB (fun i j=>lt (ks.getD i d0) (ks.getD j d0)) es.size).map fun i=>Q2 (as.getD i 0)).toArray).get? b=some o:=fun b o x=>by
   rw [a1X (Ro (Q4 x)) (by rw [Wy];exact V6 (Q4 x))]
   exact QU _ x
  exact q _ tk as h'.objs.size e (fun b o x=>old b o (kp b o x)) al (pr.stay fun b o _ x=>old b o x) hlo (fun a ha=>Ro (pr.lt ha)) he
 by_cases h2:2<=es.size
 ·refine QK (RP (SJ UR (s:={ s with heap:=h'.push (RY "list" (as.map Q2).toArray 0),toks:=tk }) ⟨_,gL,rfl⟩ UE (CC O d0 (by rw [ul];exact hk) nk nu (by omega) (by omega) gL (fun h3 k3=>?_) ⟨_,rfl,?_⟩) (UT _)))
  ·exact H h2 h3 tk as (fun b o e=>k3 b o (Ro (RF (Q4 e) hlo)) (QU _ (kp b o e))) al (pr.stay fun b o hb e=>k3 b o (Ro (Q4 e)) (QU _ e))
  ·refine QX ⟨_,rfl,fin _ ?_⟩
   rw [ul]
   refine SE fun i hi=>?_
   have hi:i<as.length:=by
    have:=Ss.mp ((dO _ es.size).mem_iff.mp hi)
    omega
   simp [RS,hi]
 ·refine QK (RP (SJ UR (s:={ s with heap:=h'.push (RY "list" (as.map Q2).toArray 0),toks:=tk }) ⟨_,gL,rfl⟩ UE (uT (by omega) gL ⟨_,rfl,?_⟩) (UT _)))
  refine QX ⟨_,rfl,fin (as.map Q2) ?_⟩
  match as,al with
  | [],e=>rw [<- e];show []=(bB _ 0).map _;rw [uU];rfl
  | [b],e=>rw [<- e];show [Q2 b]=(bB _ 1).map _;rw [Bn];rfl
  | _::_::_,e=>rw [<- e] at h2;simp at h2
end
end L3
namespace L3
open PySem L2
noncomputable def iU (ps:aX):aX:=(bB (fun i j=>HT.lexLt ((ps.map (·.1)).getD i []) ((ps.map (·.1)).getD j [])) ps.length).map fun i=>ps.getD i ([],0,.non)
theorem sortT_perm {ps:aX}:(iU ps).Perm ps:=by
 unfold iU
 have p:=(dO (fun i j=>HT.lexLt ((ps.map (·.1)).getD i []) ((ps.map (·.1)).getD j [])) ps.length).map fun i=>ps.getD i ([],0,.non)
 have e:(Se ps.length).map (fun i=>ps.getD i ([],0,.non))=ps:=by
  refine Z0 (by simp) fun i h1 h2=>?_
  simp [RS,h2]
 rw [e] at p
 exact p
end L3
namespace L3
open PySem L2
section
variable {P:Rk}{w:RG}
theorem MN (d:Addr)(hd:(d == RX)=false):a0U P w (Builtin.«dict.items» ⟨[.ref d],[]⟩) (fun _ R s=>(∃ es ep,RawD s.heap d es ep) /\
   R (.ok (.ret (.ref s.heap.objs.size))) { s with heap:=s.heap.push { cls:=.type "dict_items",data:=.fields #[.ref d] } }):=
 .of_wp fun A R s ⟨⟨es,ep,g⟩,h⟩=>by
  unfold Builtin.«dict.items»
  refine QK ?_
  unfold XR
  refine QK (S8 g.ty ?_)
  show Ri _ _ (pure d) _ _ s
  refine QX ?_
  show Ri _ _ (TF d >>= _) _ _ s
  unfold TF
  rw [if_neg (by rw [hd];exact RR)]
  refine QK (QX ?_)
  exact QK (Ti (QX ⟨_,rfl,h⟩))
end
noncomputable def jE (kvs:List (List Int×D)):List (List Int×D):=(bB (fun i j=>HT.lexLt ((kvs.map (·.1)).getD i []) ((kvs.map (·.1)).getD j [])) kvs.length).map fun i=>kvs.getD i ([],.non)
theorem CD {α β:Type}{R:α->β->Prop}{as:List α}{bs:List β}(h:Vk R as bs)(a0:α)(b0:β):∀ i,i<as.length->R (as.getD i a0) (bs.getD i b0):=by
 induction h with
 | nil=>exact fun i hi=>nomatch hi
 | cons e t ih=>
  intro i hi
  cases i with
  | zero=>exact e
  | succ i=>exact ih i (by simpa using hi)
theorem vT {α β:Type}{R:α->β->Prop}{f:Nat->α}{g:Nat->β}:∀ {l:List Nat},(∀ i∈l,R (f i) (g i))->Vk R (l.map f) (l.map g)
 | [],_=>.nil
 | i::l,h=>.cons (h i (Ru ..)) (vT fun j hj=>h j (Rm _ hj))
theorem MP {K:QH}{π:Nat->Addr}{n:Nat}{H:Hp}{ps:aX}{kvs:List (List Int×D)}(h:IsTs K π n H ps kvs):ps.length=kvs.length/\IsTs K π n H (iU ps) (jE kvs):=by
 have ek:=h.to.1
 have el:ps.length=kvs.length:=by
  have:=congrArg RN ek
  simpa using this
 refine ⟨el,?_⟩
 unfold iU jE
 rw [ek,el]
 refine vT fun i hi=>CD h _ _ i ?_
 have:=Ss.mp ((dO _ kvs.length).mem_iff.mp hi)
 omega
end L3
namespace L3
open PySem L2
section
variable {X:Cx}{a2j pins0:List (Addr×Td)}{σ σ0:St}{H H0:Hp}{s s0:QM}{a:Addr}{ps ps0:aX}{ob:Td}
theorem Inv.freeze (I:Inv X a2j σ H s)(e:H a=some (aH a ps))(ho:s.heap.get? a=some ob):Inv X a2j σ (aE H a (.frz ob (aH a ps))) s:=by
 have ok:ObjOk X.prog X.w H s.heap a (aH a ps):=I.hok a _ e
 exact I.write (x:=a) (e:=a) (h':=s.heap) (t':=s.toks) (by rw [e];exact Tg) (.inl rfl) (fun b q _ z=>z) ⟨ob,ho⟩ ⟨ho,ok⟩
theorem Inv.thaw (I0:Inv X pins0 σ0 H0 s0)(e0:H0 a=some (aH a ps0))(I:Inv X a2j σ H s)(e:H a=some (.frz ob (aH a ps))):Inv X a2j σ (aE H a (aH a ps)) s:=by
 have ne:∀ {b:Addr},H b=none->b≠a:=fun {b} h z=>by rw [z,e] at h;cases h
 refine ⟨I.ok,I.os,I.bare,⟨I.base.keep,I.base.slot,fun b o h1 h2 h3=>?_,I.base.there,fun b xs h=>?_,fun b o u h=>?_,fun b qs h=>?_⟩,I.loc,I.cell,?_,fun x c h=>?_,fun p hp=>?_,fun b u q=>?_,I.len⟩
 ·have:=I.base.free b o h1 h2 h3
  rw [aS (ne this)];exact this
 ·have:=I.base.tups b xs h
  rw [aS fun z=>by rw [z,e] at this;cases this];exact this
 ·have:=I.base.frzs b o u h
  rw [aS fun z=>by
   have z0:=I0.base.frzs b o u h
   rw [z,e0] at z0;cases z0]
  exact this
 ·obtain ⟨more,h1⟩:=I.base.tbls b qs h
  exact ⟨more,by rw [aS fun z=>by rw [z,e] at h1;cases h1];exact h1⟩
 ·rw [aS (ne I.free)];exact I.free
 ·have:=I.freeC x c h
  rw [aS (ne this)];exact this
 ·obtain ⟨h1,h2,h3⟩:=I.pin p hp
  exact ⟨h1,by rw [aS (ne h2)];exact h2,h3⟩
 ·by_cases hb:b=a
  ·subst hb
   rw [b7] at q
   cases q
   exact (show ObjOk X.prog X.w H s.heap b (.frz ob (aH b ps)) from I.hok b _ e).2
  ·rw [aS hb] at q
   exact (I.hok b u q).stay (fun _ _ _ z=>z) (fun c h=>by rw [aS fun z=>by rw [z,e] at h;cases h];exact h) fun c xs h=>by rw [aS fun z=>by rw [z,e] at h;cases h];exact h
end
noncomputable def mS (i:Nat)(ρ:aG)(μ:Hm):Option (Nat×List (List Int×D)):=match ρ[i]? with
 | some (some (.loc a))=>match μ[a]? with
  | some (.dT kvs)=>some (a,kvs)
  | _=>none
 | _=>none
theorem CF {i:Nat}{ρ:aG}{μ:Hm}{a:Nat}{kvs:List (List Int×D)}(h:mS i ρ μ=some (a,kvs)):μ[a]? = some (.dT kvs):=by
 unfold mS at h
 split at h
 ·split at h
  ·rename_i hc
   cases h
   exact hc
  ·cases h
 ·cases h
noncomputable def vU (i:Nat)(m1 m2:ME):ME:=fun ρ μ=>match mS i ρ μ with
 | some (a,kvs)=>(m1 ρ (μ.set a (.dF kvs))).bind fun r=>match r.2[a]? with
  | some (.dF kvs')=>some (r.1,r.2.set a (.dT kvs'))
  | _=>none
 | none=>m2 ρ μ
noncomputable def fJ (i:Nat)(m1 m2:MS):MS:=fun ρ μ=>match mS i ρ μ with
 | some (a,kvs)=>(m1 ρ (μ.set a (.dF kvs))).bind fun r=>match r.2.2[a]? with
  | some (.dF kvs')=>some (r.1,r.2.1,r.2.2.set a (.dT kvs'))
  | _=>none
 | none=>m2 ρ μ
section
variable {X:Cx}{a2j:List (Addr×Td)}{σ:St}{H:Hp}{s:QM}{π:Nat->Addr}{ρ:aG}{μ:Hm}{a:Nat}{kvs:List (List Int×D)}
theorem CG (I:Inv X a2j σ H s)(R:Rp X.K π H μ)(E:En X.K π μ.length H σ ρ)(hc:μ[a]? = some (.dT kvs)):∃ ob ps,H (π a)=some (aH (π a) ps)/\Inv X a2j σ (aE H (π a) (.frz ob (aH (π a) ps))) s /\
  Rp X.K π (aE H (π a) (.frz ob (aH (π a) ps))) (μ.set a (.dF kvs))/\En X.K π (μ.set a (.dF kvs)).length (aE H (π a) (.frz ob (aH (π a) ps))) σ ρ:=by
 obtain ⟨ps,e1,T⟩:=dQ R hc
 obtain ⟨_,⟨ob,ho⟩,_⟩:=(show ObjOk X.prog X.w H s.heap (π a) (aH (π a) ps) from I.hok _ _ e1)
 obtain ⟨e2,R2⟩:=R.put (c:=.dF kvs) (o:=.frz ob (aH (π a) ps)) (QN.mp hc).1 e1 (.inr (.inr ⟨_,rfl⟩)) ⟨ob,ps,rfl,T.to⟩
 exact ⟨ob,ps,e1,Inv.freeze I e1 ho,R2,E.mono e2⟩
theorem oE {pins':List (Addr×Td)}{σ':St}{H':Hp}{s':QM}{π':Nat->Addr}{μ':Hm}{ob:Td}{ps:aX}{kvs':List (List Int×D)}(I:Inv X a2j σ H s)(e:H (π a)=some (aH (π a) ps))(ha:a<μ.length)
  (I':Inv X pins' σ' H' s')(R':Rp X.K π' H' μ')(e':Ext π (μ.set a (.dF kvs)).length (aE H (π a) (.frz ob (aH (π a) ps))) π' μ'.length H')(hc:μ'[a]? = some (.dF kvs')) :
  ∃ H2,Inv X pins' σ' H2 s'/\Ext π μ.length H π' (μ'.set a (.dT kvs')).length H2/\Rp X.K π' H2 (μ'.set a (.dT kvs'))/\Ext0 π' μ'.length H' π' (μ'.set a (.dT kvs')).length H2:=by
 have hp:π' a=π a:=e'.pi a (by rw [SG];exact ha)
 obtain ⟨ob',ps',h1,T⟩:=qR R' hc
 obtain ⟨x2,R2⟩:=R'.put0 (c:=.dT kvs') (o:=aH (π' a) ps') (QN.mp hc).1 h1 (.inr (.inr (.inr ⟨_,_,rfl⟩))) ⟨ps',rfl,T.to⟩
 rw [hp] at h1
 refine ⟨aE H' (π' a) (aH (π' a) ps'),?_,⟨?_,fun b hb=>e'.pi b (by rw [SG];exact hb),fun p vs h=>?_,fun p o u h=>?_⟩,R2,x2⟩
 ·rw [hp]
  exact Inv.thaw I e I' h1
 ·have:=e'.le
  rw [SG] at this ⊢
  exact this
 ·have n1:p≠π a:=fun z=>by rw [z,e] at h;cases h
  have:=e'.tup p vs (by rw [aS n1];exact h)
  rw [hp,aS n1];exact this
 ·have n1:p≠π a:=fun z=>by rw [z,e] at h;cases h
  have:=e'.frz p o u (by rw [aS n1];exact h)
  rw [hp,aS n1];exact this
theorem En.mono0 {K:QH}{π':Nat->Addr}{n n':Nat}{H':Hp}(E:En K π n H σ ρ)(e:Ext0 π n H π' n' H'):En K π' n' H' σ ρ:=
 ⟨E.len,fun i d h=>let ⟨v,h1,h2⟩:=E.get i d h;⟨v,h1,h2.mono0 e⟩⟩
end
section
variable {X:Cx}{e:Q1}{st:Stmt}{i:Nat}
theorem MQ {m1 m2:ME}(h1:QE X e m1)(h2:QE X e m2):QE X e (vU i m1 m2):=⟨by
 intro a2j s σ H Q I hw
 obtain ⟨π,ρ,μ,d,μ',R,E,hm,k⟩:=hw
 unfold vU at hm
 split at hm
 ·rename_i a kvs hv
  obtain ⟨⟨x,μ1⟩,g1,hm⟩:=QF.mp hm
  dsimp only at hm
  split at hm
  ·rename_i kvs' hc'
   cases hm
   have hc:=CF hv
   obtain ⟨ob,ps,e1,I1,R1,E1⟩:=CG I R E hc
   refine aJ (h1.h a2j s σ _ (fun v H2=>∃ π2,Ext π (μ.set a (.dF kvs)).length (aE H (π a) (.frz ob (aH (π a) ps))) π2 μ1.length H2/\Rp X.K π2 H2 μ1/\IsD X.K π2 μ1.length H2 v d) I1 ⟨π,ρ,_,d,μ1,R1,E1,g1,fun π2 v H2 e2 R2 i2=>⟨π2,e2,R2,i2⟩⟩) fun u s2 ⟨v,H2,I2,rv,π2,e2,R2,i2⟩=>?_
   obtain ⟨H3,I3,e3,R3,x3⟩:=oE I e1 (QN.mp hc).1 I2 R2 e2 hc'
   exact ⟨v,H3,I3,rv,k π2 v H3 e3 R3 (i2.mono0 x3)⟩
  ·cases hm
 ·exact h2.h a2j s σ H Q I ⟨π,ρ,μ,d,μ',R,E,hm,k⟩⟩
theorem CH {m1 m2:MS}(h1:QS X st m1)(h2:QS X st m2):QS X st (fJ i m1 m2):=⟨by
 intro a2j s σ H D I hw
 obtain ⟨π,ρ,μ,fl,ρ',μ',R,E,hm,k⟩:=hw
 unfold fJ at hm
 split at hm
 ·rename_i a kvs hv
  obtain ⟨⟨fl1,ρ1,μ1⟩,g1,hm⟩:=QF.mp hm
  dsimp only at hm
  split at hm
  ·rename_i kvs' hc'
   cases hm
   have hc:=CF hv
   have ha:=(QN.mp hc).1
   obtain ⟨ob,ps,e1,I1,R1,E1⟩:=CG I R E hc
   refine aJ (h1.h a2j s σ _ ⟨fun σ2 H2=>fl=.nx/\∃ π2,Ext π (μ.set a (.dF kvs)).length (aE H (π a) (.frz ob (aH (π a) ps))) π2 μ1.length H2/\Rp X.K π2 H2 μ1/\En X.K π2 μ1.length H2 σ2 ρ',
     fun v H2=>∃ d,fl=.rt d/\∃ π2,Ext π (μ.set a (.dF kvs)).length (aE H (π a) (.frz ob (aH (π a) ps))) π2 μ1.length H2/\Rp X.K π2 H2 μ1/\IsD X.K π2 μ1.length H2 v d,
     fun σ2 H2=>fl=.bk/\∃ π2,Ext π (μ.set a (.dF kvs)).length (aE H (π a) (.frz ob (aH (π a) ps))) π2 μ1.length H2/\Rp X.K π2 H2 μ1/\En X.K π2 μ1.length H2 σ2 ρ',
     fun σ2 H2=>fl=.ct/\∃ π2,Ext π (μ.set a (.dF kvs)).length (aE H (π a) (.frz ob (aH (π a) ps))) π2 μ1.length H2/\Rp X.K π2 H2 μ1/\En X.K π2 μ1.length H2 σ2 ρ'⟩ I1 ⟨π,ρ,_,fl,ρ',μ1,R1,E1,g1,?_⟩) fun f s2 q=>?_
   ·cases fl with
    | nx=>exact fun π2 σ2 H2 e2 R2 E2=>⟨rfl,π2,e2,R2,E2⟩
    | bk=>exact fun π2 σ2 H2 e2 R2 E2=>⟨rfl,π2,e2,R2,E2⟩
    | ct=>exact fun π2 σ2 H2 e2 R2 E2=>⟨rfl,π2,e2,R2,E2⟩
    | rt d=>exact fun π2 v H2 e2 R2 i2=>⟨d,rfl,π2,e2,R2,i2⟩
   ·cases f with
    | next=>
     obtain ⟨σ2,H2,I2,rfl,π2,e2,R2,E2⟩:=q
     obtain ⟨H3,I3,e3,R3,x3⟩:=oE I e1 ha I2 R2 e2 hc'
     exact ⟨σ2,H3,I3,k π2 σ2 H3 e3 R3 (En.mono0 E2 x3)⟩
    | brk=>
     obtain ⟨σ2,H2,I2,rfl,π2,e2,R2,E2⟩:=q
     obtain ⟨H3,I3,e3,R3,x3⟩:=oE I e1 ha I2 R2 e2 hc'
     exact ⟨σ2,H3,I3,k π2 σ2 H3 e3 R3 (En.mono0 E2 x3)⟩
    | cont=>
     obtain ⟨σ2,H2,I2,rfl,π2,e2,R2,E2⟩:=q
     obtain ⟨H3,I3,e3,R3,x3⟩:=oE I e1 ha I2 R2 e2 hc'
     exact ⟨σ2,H3,I3,k π2 σ2 H3 e3 R3 (En.mono0 E2 x3)⟩
    | ret u=>
     obtain ⟨v,σ2,H2,I2,rv,d,rfl,π2,e2,R2,i2⟩:=q
     obtain ⟨H3,I3,e3,R3,x3⟩:=oE I e1 ha I2 R2 e2 hc'
     exact ⟨v,σ2,H3,I3,rv,k π2 v H3 e3 R3 (i2.mono0 x3)⟩
  ·cases hm
 ·exact h2.h a2j s σ H D I ⟨π,ρ,μ,fl,ρ',μ',R,E,hm,k⟩⟩
end
noncomputable def vV (d:Addr)(ob:Td)(ps:aX):It:=⟨fun i H=>H d=some (.frz ob (aH d ps))/\i<ps.length,fun i H x H'=>H'=H/\∃ p,ps[i]? = some p/\x=.ref p.2.1,fun i H=>H d=some (.frz ob (aH d ps))/\ps.length<=i⟩
theorem vW {X:Cx}{a2j:List (Addr×Td)}{σ:St}{H:Hp}{s:QM}{d:Addr}{ob:Td}{ps:aX}(I:Inv X a2j σ H s)(e:H d=some (.frz ob (aH d ps))) :
  (d == RX)=false/\ps.length<=Q6/\∃ es ep,RawD s.heap d es ep/\ob.data=.dict es ep/\es.toList.map (·.key)=ps.map fun p=>Q2 p.2.1:=by
 obtain ⟨g0,⟨ws,r,hs,hl,o,es,ep,h1,h2,h3,h4,h5⟩,_⟩:=(show ObjOk X.prog X.w H s.heap d (.frz ob (aH d ps)) from I.hok d _ e)
 rw [g0] at h1
 cases h1
 refine ⟨hs,hl,es,ep,⟨ob,g0,h2,h3⟩,h3,?_⟩
 rw [h4,qP (P:=X.prog) (w:=X.w),RJ,<- vP r]
 rfl
theorem MR {P:Rk}{w:RG}{K:QH}{tg:Q1}{d it:Addr}{ob:Td}{ps:aX}{es:Array Sj}{ep:Nat}(hd:ob.data=.dict es ep):Turn P w K tg (vV d ob ps) [it] it (fun i h=>h.IsKeyIter it d i es.size ep) where
 mem:=by simp
 obj:=fun i h st b hb=>by
  have e:b=it:=by simpa using hb
  subst e
  obtain ⟨o,e,c,d⟩:=st
  exact ⟨o,e,fun v z=>by rw [d] at z;cases z⟩
 keep:=fun i h h' st k=>st.at fun o e=>k it (by simp) o e
 item:=by
  intro X hP hw hK hc i a2j s σ H E I hf st hg
  subst hP hw hK
  obtain ⟨hg1,hg2⟩:=hg
  obtain ⟨lo,hl,es',ep',g,hd',he⟩:=vW I hg1
  rw [hd] at hd'
  cases hd'
  have hs:es.size=ps.length:=by
   have:=congrArg RN he
   simpa using this
  obtain ⟨f0,f1,f2,f3,f4,f5⟩:=hf it (by simp)
  refine qT (I.ok.hd hc) st g (fun e h' he' j' sb=>?_) fun hn=>by simp at hn;omega
  have I1:Inv X a2j σ H { s with heap:=h' }:=I.turned (t':=s.toks) (fun b o hb e=>(sb.2 b hb).trans e) f0 f1 f3 f4 f5
  obtain ⟨o,e1,c,d1⟩:=id j'
  have hp:ps[i]? = some ps[i]:=QV hg2
  have ek:e.key=.ref (ps[i]).2.1:=by
   have:=congrArg (·[i]?) he
   simp only [RH,Sx,he',hp,RL] at this
   exact RA this
  exact ⟨e.key,rfl,oZ (s:={ s with heap:=h' }) e1 c d1 (by decide) ⟨.ref (ps[i]).2.1,H,I1,ek,⟨rfl,ps[i],hp,rfl⟩,j',fun b hb=>(hf b hb).1⟩⟩
 done:=by
  intro X hP hw hK hc i a2j s σ H E I hf st hg
  subst hP hw hK
  obtain ⟨hg1,hg2⟩:=hg
  obtain ⟨lo,hl,es',ep',g,hd',he⟩:=vW I hg1
  rw [hd] at hd'
  cases hd'
  have hs:es.size=ps.length:=by
   have:=congrArg RN he
   simpa using this
  obtain ⟨f0,f1,f2,f3,f4,f5⟩:=hf it (by simp)
  exact qT (I.ok.hd hc) st g (fun e h' he'=>by
   have:=(Array.getElem?_eq_some_iff.mp he').1
   omega) fun _ h' eb=>⟨rfl,I.turned (t':=s.toks) (fun b o hb e=>eb b o hb e) f0 f1 f3 f4 f5⟩
 self:=fun _ _ _ _ _ st h=>Z5 st h
theorem MU {X:Cx}{l tg:Q1}{tl:TE}(hl:PE X l tl):PI X tg l (fun σ H R=>tl σ H fun v H1=>∃ d ob ps,v=.ref d/\H1 d=some (.frz ob (aH d ps))/\R (vV d ob ps) H1):=by
 intro a2j s σ H R I h
 refine aJ (hl a2j s σ H _ I h) fun v s1 ⟨y,H1,I1,r1,q1⟩=>?_
 obtain ⟨d,ob,ps,e,hf,q⟩:=q1
 subst e
 obtain rfl:v=Q2 d:=r1
 obtain ⟨lo,hl,es,ep,g,hd,he⟩:=vW I1 hf
 refine Cj lo g ⟨s1.heap.objs.size,[s1.heap.objs.size],_,_,H1,rfl,I1.kept (t':=s1.toks) fun b o e=>QU _ e,MR hd,⟨_,Rj _ rfl,rfl,rfl⟩,fun b hb=>?_,q⟩
 have e:b=s1.heap.objs.size:=by simpa using hb
 subst e
 exact I1.fpOk (Q0 _) (I1.hok.fresh (Q0 _))
noncomputable def eV (kvs:List (List Int×D)):List D:=kvs.map fun k=>D.tup (k.1.map D.int)
theorem MV {K:QH}{π:Nat->Addr}{n:Nat}{H:Hp}{d:Addr}{ob:Td}{ps:aX}{kvs:List (List Int×D)}(e0:H d=some (.frz ob (aH d ps)))(T:IsTs K π n H ps kvs):Wk K (vV d ob ps) (dJ (.tup (eV kvs))) π n H:=by
 have el:ps.length=kvs.length:=by
  have:=congrArg RN T.to.1
  simpa using this
 refine ⟨fun π' μ H' i e R z=>?_,fun π' μ H' i dd e R z=>?_⟩
 ·have z':(eV kvs)[i]? = none:=RA z
  have:=TZ.mp z'
  rw [eV,QY] at this
  exact ⟨e.frz _ _ _ e0,by omega⟩
 ·have z':(eV kvs)[i]? = some dd:=RA z
  have hi:i<kvs.length:=by
   have:=(QN.mp z').1
   rwa [eV,QY] at this
  refine ⟨⟨e.frz _ _ _ e0,by omega⟩,fun v H2 ⟨e1,p,e2,e3⟩=>?_⟩
  subst e1 e3
  obtain ⟨v',h1,h2⟩:=(T.to.2.1.mono e).get z'
  rw [RH,e2] at h1
  cases h1
  exact ⟨.refl,R,h2⟩
noncomputable def eW (m:ME):MI:=fun ρ μ=>(m ρ μ).bind fun p=>match p.1 with
 | .loc a=>match p.2[a]? with
  | some (.dF kvs)=>some (dJ (.tup (eV kvs)),kvs.length+1,p.2)
  | _=>none
 | _=>none
theorem vX {X:Cx}{e:Q1}{m:ME}(h:QE X e m):QJ X e (eW m):=⟨fun tg a2j s σ H R I hw=>by
 obtain ⟨π,ρ,μ,src,n,μ',Rr,E,hm,k⟩:=hw
 obtain ⟨⟨x,μ1⟩,h1,hm⟩:=QF.mp hm
 dsimp only at hm
 split at hm
 ·split at hm
  ·rename_i kvs hc
   cases hm
   refine MU h.h a2j s σ H R I ⟨π,ρ,μ,_,_,Rr,E,h1,fun π1 v1 H1 e1 R1 i1=>?_⟩
   cases i1
   obtain ⟨ob,ps,f1,T⟩:=qR R1 hc
   exact ⟨_,ob,ps,rfl,f1,k π1 H1 _ e1 R1 (MV f1 T)⟩
  ·cases hm
 ·cases hm⟩
end L3
namespace L3
open PySem L2 PySem.W PyProof.Rows
section
variable {P:Rk}{w:RG}{A:Rw}{E:QL->QM->Prop}{s:QM}
noncomputable def CI (h:Si)(b:Addr)(k:List Int):Prop:=∃ xs:List QL,a0X h b xs.toArray/\Uz xs k
theorem MW {bs:List Addr}{ks:List (List Int)}(h0:0<bs.length)(hl:ks.length=bs.length)(key:∀ (j:Nat)(b:Addr),bs[j]? = some b->CI s.heap b (ks.getD j [])/\ks.getD j []≠[]):fI P w A (bs.map Q2) (fun i j=>HT.lexLt (ks.getD i []) (ks.getD j [])) s:=by
 have tups:∃ fs:List QL,fs.length=bs.length/\a0W s.heap (bs.map Q2) fs/\∀ v∈fs,∃ i t,v=VO i t:=by
  clear h0
  induction bs generalizing ks with
  | nil=>exact ⟨[],rfl,.nil,fun v hv=>nomatch hv⟩
  | cons b bs ih=>
   match ks,hl with
   | k::ks,hl=>
    obtain ⟨fs,g0,g1,g2⟩:=ih (ks:=ks) (by simpa using hl) fun j c hc=>by simpa using key (j+1) c (by simpa using hc)
    obtain ⟨⟨xs,⟨o,e,c,n,d⟩,hi⟩,hne⟩:=key 0 b rfl
    simp only [Za] at hi hne
    cases hi with
    | nil=>exact absurd rfl hne
    | @cons i tk xs' ns' hi'=>
     refine ⟨VO i tk::fs,by simp [g0],.cons e c d (by simp) g1,fun v hv=>?_⟩
     rcases RD.mp hv with rfl|hv
     ·exact ⟨i,tk,rfl⟩
     ·exact g2 v hv
 obtain ⟨fs,g0,g1,g2⟩:=tups
 unfold fI
 refine a2c (T:=.type "int") g1 ?_ (fun v hv=>?_) rfl ⟨rfl,fun i j C hi hj hC=>?_⟩
 ·omega
 ·obtain ⟨i,t,rfl⟩:=g2 v hv
  exact .now
 ·rw [QY] at hi hj
  obtain ⟨⟨xa,⟨oa,ea,ca,na,da⟩,ia⟩,_⟩:=key i bs[i] (QV hi)
  obtain ⟨⟨xb,⟨ob,eb,cb,nb,db⟩,ib⟩,_⟩:=key j bs[j] (QV hj)
  have ga:(bs.map Q2).getD i .none=.ref bs[i]:=by simp [RS,hi]
  have gb:(bs.map Q2).getD j .none=.ref bs[j]:=by simp [RS,hj]
  rw [ga,gb]
  exact kat_lt ea da eb db (Bm 0 ia ib hC)
theorem MX {d:Addr}{es:Array Sj}{ep:Nat}{Q:QL->QM->Prop}{bs:List Addr}{ks:List (List Int)}(hh:A.handled=none)(lo:(d == RX)=false)(g:RawD s.heap d es ep)(eb:es.toList.map (·.key)=bs.map Q2)(h64:es.size<64)(hl:ks.length=bs.length)
  (key:∀ (j:Nat)(b:Addr),bs[j]? = some b->CI s.heap b (ks.getD j [])/\ks.getD j []≠[])
  (q:∀ (h' h3:Si)(tk:Nat)(e:Nat),(∀ b o,s.heap.get? b=some o->h'.get? b=some o)->(∀ b o,h'.get? b=some o->h3.get? b=some o)->h3.get? h'.objs.size=some (RY "list" ((bB (fun i j=>HT.lexLt (ks.getD i []) (ks.getD j [])) es.size).map fun i=>Q2 (bs.getD i 0)).toArray e)->Q (.ref h'.objs.size) { s with heap:=h3,toks:=tk }) :
  Ri (Rl P w) A (call (.builtin "sorted") [.ref d]) Q E s:=by
 have hbl:bs.length=es.size:=by
  have:=congrArg RN eb
  simpa using this.symm
 refine UP Ye XB XF (XI _) ?_
 unfold VW
 refine QK (m:=YA "sorted" 1 1 _) (QX (QK (kdu_collect (A:=A.in1) (Ck lo) hh g (by rw [Sn];omega) fun h' tk acc kp hacc=>?_)))
 have ea:acc.toList=bs.map Q2:=by
  rw [<- eb]
  refine T6 fun i=>?_
  rw [RH,Sx,Sx]
  cases hv:acc[i]? with
  | some v=>
   obtain ⟨e,z1,z2⟩:=hacc.2 i v hv
   rw [z1,z2];rfl
  | none=>
   have:acc.size<=i:=by simpa using hv
   rw [Wb (by rw [<- hacc.1];exact this)];rfl
 rw [ea]
 have ul:(bs.map Q2).length=es.size:=by rw [QY,hbl]
 refine QK (U4 ?_ (by rw [ul,Sn];omega))
 have gL:(h'.push (RY "list" (bs.map Q2).toArray 0)).get? h'.objs.size=some (RY "list" (bs.map Q2).toArray 0):=Rj _ rfl
 have fin:∀ out:List QL,out=((bB (fun i j=>HT.lexLt (ks.getD i []) (ks.getD j [])) es.size).map fun i=>Q2 (bs.getD i 0))->Q (.ref h'.objs.size) { s with heap:=V8 (h'.push (RY "list" (bs.map Q2).toArray 0)) h'.objs.size (bs.map Q2) out.toArray,toks:=tk }:=by
  rintro out rfl
  obtain ⟨e,he⟩:=sortedHeap_at (h:=h'.push (RY "list" (bs.map Q2).toArray 0)) (out:=((bB (fun i j=>HT.lexLt (ks.getD i []) (ks.getD j [])) es.size).map fun i=>Q2 (bs.getD i 0)).toArray) gL
  refine q h' _ tk e kp (fun b o x=>?_) he
  rw [a1X (Ro (Q4 x)) (by rw [Wy];exact V6 (Q4 x))]
  exact QU _ x
 by_cases h2:2<=es.size
 ·refine QK (RP (SJ UR (s:={ s with heap:=h'.push (RY "list" (bs.map Q2).toArray 0),toks:=tk }) ⟨_,gL,rfl⟩ UE (ML (an:=fun i j=>HT.lexLt (ks.getD i []) (ks.getD j [])) (by omega) (by omega) gL (fun h3 k3=>?_) ⟨_,rfl,?_⟩) (UT _)))
  ·refine MW (by omega) hl fun j b hj=>?_
   obtain ⟨⟨xs,⟨o,o1,o2⟩,hi⟩,hne⟩:=key j b hj
   have o1':=kp _ _ o1
   exact ⟨⟨xs,⟨o,k3 b o (Ro (Q4 o1')) (QU _ o1'),o2⟩,hi⟩,hne⟩
  ·refine QX ⟨_,rfl,fin _ ?_⟩
   rw [ul]
   refine SE fun i hi=>?_
   have hi:i<bs.length:=by
    have:=Ss.mp ((qG _ (n:=es.size) (by omega)).mem_iff.mp hi)
    omega
   simp [RS,hi]
 ·refine QK (RP (SJ UR (s:={ s with heap:=h'.push (RY "list" (bs.map Q2).toArray 0),toks:=tk }) ⟨_,gL,rfl⟩ UE (uT (by omega) gL ⟨_,rfl,?_⟩) (UT _)))
  refine QX ⟨_,rfl,fin (bs.map Q2) ?_⟩
  match bs,hbl with
  | [],e=>rw [<- e];show []=(bB _ 0).map _;rw [uU];rfl
  | [b],e=>rw [<- e];show [Q2 b]=(bB _ 1).map _;rw [Bn];rfl
  | _::_::_,e=>rw [<- e] at h2;simp at h2
end
end L3
namespace L3
open PySem L2
noncomputable def CJ (K:QH):List V->Hp->VK->Prop:=fun xs H Q=>∃ a ps,xs=[V.ref a]/\H a=some (aH a ps)/\bW K H ps/\ps.length<64/\(∀ p∈ps,p.1≠[])/\∀ l,H l=none->Q (.ref l) (aE H l (.lst ((iU ps).map fun p=>V.ref p.2.1)))
section
variable {X:Cx}
theorem MY (hc:X.calm=true):CallR X (.builtin "sorted") (CJ X.K):=by
 intro a2j s σ H xs us Q I r h
 obtain ⟨a,ps,rfl,ha,hk,h64,hne,q⟩:=h
 obtain ⟨u,rfl,ru⟩:=dC r
 cases ru
 obtain ⟨lo,hl,es,ep,g,he⟩:=jC I ha hk
 have hs:es.size=ps.length:=by
  have:=congrArg RN he
  simpa using this
 have gd:∀ {j:Nat}{b:Addr},(ps.map (·.2.1))[j]? = some b->∃ p∈ps,ps[j]? = some p/\p.2.1=b:=fun {j b} hj=>by
  rw [RH] at hj
  obtain ⟨p,g1,g2⟩:=QR.mp hj
  exact ⟨p,Rz g1,g1,g2⟩
 refine MX (bs:=ps.map (·.2.1)) (ks:=ps.map (·.1)) (I.ok.hd hc) lo g (by rw [he,RJ];rfl) (by omega) (by simp) (fun j b hj=>?_) fun h' h3 tk e k1 k2 k3=>?_
 ·obtain ⟨p,hp,g1,rfl⟩:=gd hj
  have e0:(ps.map (·.1)).getD j []=p.1:=by simp [RS,g1]
  rw [e0]
  obtain ⟨its,rx,t,_⟩:=I.tuple (hk p hp)
  exact ⟨⟨its,t,sW rx⟩,hne p hp⟩
 ·have I1:Inv X a2j σ H { s with heap:=h',toks:=tk }:=I.kept (t':=tk) k1
  refine ⟨.ref h'.objs.size,_,I1.laid (t':=tk) (h':=h3) (a:=h'.objs.size) (o:=.lst ((iU ps).map fun p=>V.ref p.2.1)) k2 (Q0 _) ?_,rfl,q _ (I1.hok.fresh (Q0 _))⟩
  have hln:(iU ps).length=ps.length:=sortT_perm.length_eq
  refine ⟨by rw [QY,hln];exact hl,_,e,?_,k3⟩
  unfold iU
  rw [hs,RJ]
  have:∀ l:List Nat,(∀ i∈l,i<ps.length)->Vals (l.map ((fun p:List Int×Addr×V=>V.ref p.2.1) ∘ fun i=>ps.getD i ([],0,.non))) (l.map fun i=>Q2 ((ps.map (·.2.1)).getD i 0)):=fun l hl=>by
   induction l with
   | nil=>exact .nil
   | cons i l ih=>
    refine .cons ?_ (ih fun j hj=>hl j (Rm _ hj))
    have hi:=hl i (Ru ..)
    show Q2 _=Q2 _
    simp [RS,hi]
  exact this _ fun i hi=>Ss.mp ((dO _ ps.length).mem_iff.mp hi)
end
noncomputable def mT (μ:Hm):D->Bool
 | .loc a=>match μ[a]? with|some (.dT _)=>true|_=>false
 | _=>false
noncomputable def jF (f:D->List D->Hm->Option (D×Hm))(mo:ME)(ms:MA):ME:=fun ρ μ=>(mo ρ μ).bind fun p=>match mT p.2 p.1 with
 | true=>(ms ρ p.2).bind fun q=>f p.1 q.1 q.2
 | false=>none
noncomputable def oF (K:QH)(x:V)(H:Hp):Prop:=∃ a ps,x=.ref a/\H a=some (aH a ps)/\bW K H ps
theorem CK {K:QH}{π:Nat->Addr}{H:Hp}{μ:Hm}{v:V}{x:D}(R:Rp K π H μ)(h:IsD K π μ.length H v x)(e:mT μ x=true):oF K v H:=by
 cases h with
 | @loc a ha=>
  simp only [mT] at e
  split at e
  ·rename_i xs hx
   obtain ⟨ps,h1,T⟩:=dQ R hx
   exact ⟨_,ps,rfl,h1,T.keys⟩
  ·cases e
 | _=>cases e
section
variable {X:Cx}{e o:Q1}{mo:ME}{to:TE}{t:TA}{apos cpos:Ta}{es:List Q1}{ms:MA}{n:Nat}{r:V->List V->Hp->VK->Prop}{f:D->List D->Hm->Option (D×Hm)}{name:Str}{id:String}
theorem MZ (slot:a0F "dict" name id) (hty:Xh (.builtin id)=pure (.type "method_descriptor")) (hm:dD X id r)(ho:PE X o to)(ha:PA X (e::es) t)(hbase:UH o name X.env (eval o X.env)=eval o X.env)
  (hfew:((Uk cpos (RK (e::es) X.env)).all (fun x=>!x.1)&&(YD cpos (WX [] X.env)).all (fun x=>x.1.isSome)&&decide ((e::es).length+([]:List UY).length+(if ([]:List UY).isEmpty then 0 else 1)<30))=true)
  (hline:(apos.endLine == cpos.line)=true)(hs:RK (e::es) X.env=(false,eval e X.env)::RK es X.env)(hplain:(Uk cpos (RK es X.env)).any (·.1)=false) :
  PE X (.Call (.Attribute o name apos) (e::es) [] cpos) (fun σ H Q=>to σ H fun x H1=>oF X.K x H1/\t σ H1 fun vs H2=>r x vs H2 Q):=by
 intro a2j s σ H Q I h
 refine Zs hbase hfew hline rfl (aJ (ho a2j s σ H _ I h) fun v s1 ⟨x,H1,I1,r1,ty,q1⟩=>?_)
 obtain ⟨a,ps,rfl,f1,hk⟩:=ty
 obtain rfl:v=Q2 a:=r1
 obtain ⟨lo,hl,vs,ep,g,_⟩:=jC I1 f1 hk
 refine ⟨"dict",id,V2,slot,hty,g.ty,fun b eb=>?_,?_⟩
 ·cases eb
  obtain ⟨z,g1,g2,_⟩:=g
  exact ⟨z,g1,g2.2.1⟩
 have hA:=ha cpos a2j s1 σ H1 _ I1 q1
 rw [hs] at hA ⊢
 refine Ul (by show (false||(Uk cpos (RK es X.env)).any (·.1))=false;rw [hplain]<;>rfl) (YM ?_)
 exact aJ hA fun us s2 ⟨vs,H2,I2,r2,q2⟩=>hm a2j s2 σ H2 (.ref a) vs _ us Q I2 rfl r2 q2
theorem M0 (slot:a0F "dict" name id) (hty:Xh (.builtin id)=pure (.type "method_descriptor")) (hm:dD X id r)(ho:PE X o to)(hbase:UH o name X.env (eval o X.env)=eval o X.env)(hline:(apos.endLine == cpos.line)=true) :
  PE X (.Call (.Attribute o name apos) [] [] cpos) (fun σ H Q=>to σ H fun x H1=>oF X.K x H1/\r x [] H1 Q):=by
 intro a2j s σ H Q I h
 refine Wr hbase hline (aJ (ho a2j s σ H _ I h) fun v s1 ⟨x,H1,I1,r1,ty,q1⟩=>?_)
 obtain ⟨a,ps,rfl,f1,hk⟩:=ty
 obtain rfl:v=Q2 a:=r1
 obtain ⟨lo,hl,vs,ep,g,_⟩:=jC I1 f1 hk
 refine ⟨"dict",id,V2,slot,hty,g.ty,fun b eb=>?_,Ul rfl (WC ?_)⟩
 ·cases eb
  obtain ⟨z,g1,g2,_⟩:=g
  exact ⟨z,g1,g2.2.1⟩
 exact hm a2j s1 σ H1 (.ref a) [] _ [] Q I1 rfl .nil q1
theorem M3 {K:QH}(hf:cV K f r):∀ σ H Q,tM K (jF f mo ms) σ H Q->tM K mo σ H fun x H1=>oF K x H1/\dE K ms σ H1 fun vs H2=>r x vs H2 Q:=by
 rintro σ H Q ⟨π,ρ,μ,d,μ',R,E,hm,k⟩
 obtain ⟨⟨x,μ1⟩,h1,hm⟩:=QF.mp hm
 dsimp only at hm
 split at hm
 ·rename_i hl
  obtain ⟨⟨xs,μ2⟩,h2,hm⟩:=QF.mp hm
  refine ⟨π,ρ,μ,x,μ1,R,E,h1,fun π1 v1 H1 e1 R1 i1=>⟨CK R1 i1 hl,π1,ρ,μ1,xs,μ2,R1,E.mono e1,h2,fun π2 vs H2 e2 R2 i2=>?_⟩⟩
  exact hf π2 H2 μ2 x xs d μ' v1 vs Q R2 (i1.mono e2) i2 hm (k.after (e1.trans e2))
 ·cases hm
theorem M4 {K:QH}(hf:cV K f r):∀ σ H Q,tM K (jF f mo aF) σ H Q->tM K mo σ H fun x H1=>oF K x H1/\r x [] H1 Q:=by
 rintro σ H Q ⟨π,ρ,μ,d,μ',R,E,hm,k⟩
 obtain ⟨⟨x,μ1⟩,h1,hm⟩:=QF.mp hm
 dsimp only at hm
 split at hm
 ·rename_i hl
  obtain ⟨⟨xs,μ2⟩,h2,hm⟩:=QF.mp hm
  cases h2
  refine ⟨π,ρ,μ,x,μ1,R,E,h1,fun π1 v1 H1 e1 R1 i1=>⟨CK R1 i1 hl,?_⟩⟩
  exact hf π1 H1 μ1 x [] d μ' v1 [] Q R1 i1 .nil hm (k.after e1)
 ·cases hm
theorem vY (slot:a0F "dict" name id) (hty:Xh (.builtin id)=pure (.type "method_descriptor")) (hm:dD X id r)(hf:cV X.K f r)
  (ho:QE X o mo)(ha:QA X (e::es) ms n)(hs:iH o=true)(hl:(apos.endLine == cpos.line)=true)(hn:(e::es).length<30):QE X (.Call (.Attribute o name apos) (e::es) [] cpos) (jF f mo ms):=by
 have hst:=ha.s
 have hst':=hst
 rw [Sa,Q7] at hst'
 exact ⟨bT (MZ slot hty hm ho.h ha.h (iI hs) (uM hst hn) hl (eQ hst'.1) (i8 hst'.2)) (M3 hf)⟩
theorem M5 (slot:a0F "dict" name id) (hty:Xh (.builtin id)=pure (.type "method_descriptor")) (hm:dD X id r)(hf:cV X.K f r)
  (ho:QE X o mo)(hs:iH o=true)(hl:(apos.endLine == cpos.line)=true):QE X (.Call (.Attribute o name apos) [] [] cpos) (jF f mo aF):=
 ⟨bT (M0 slot hty hm ho.h (iI hs) hl) (M4 hf)⟩
end
noncomputable def vZ:D->List D->Hm->Option (D×Hm)
 | .loc a,[y,z],μ=>match μ[a]? with
  | some (.dT kvs)=>(bZ y).map fun k=>((bD kvs k).getD z,μ)
  | _=>none
 | _,_,_=>none
noncomputable def CL (K:QH):V->List V->Hp->VK->Prop:=fun x vs H Q=>∃ a b ps k z,x=.ref a/\vs=[.ref b,z]/\H a=some (aH a ps)/\bW K H ps/\SqT K H b (k.map V.int)/\Q ((cB ps k).getD z) H
theorem M6 {K:QH}:cV K vZ (CL K):=by
 intro π H μ x xs d μ' v vs Q R ix ixs hm k
 unfold vZ at hm
 split at hm
 ·split at hm
  ·rename_i kvs hc
   obtain ⟨kk,h1,hm⟩:=QR.mp hm
   cases hm
   cases ix
   cases ixs with
   | cons iy t=>
    cases t with
    | cons iz t=>
     cases t
     obtain ⟨ps,e1,T⟩:=dQ R hc
     obtain ⟨b,rfl,hb⟩:=iT iy h1
     refine ⟨_,b,ps,kk,_,rfl,rfl,e1,T.keys,hb,k π _ H .refl R ?_⟩
     rcases T.val kk with ⟨z1,z2⟩|⟨v,d2,z1,z2,z3⟩
     ·rw [z1,z2];exact iz
     ·rw [z1,z2];exact z3
  ·cases hm
 ·cases hm
theorem M7 {X:Cx}(hu:X.A.units+1<SK):dD X "dict.get" (CL X.K):=by
 intro a2j s σ H x vs v us Q I rx rv h
 obtain ⟨a,b,ps,k,z,rfl,rfl,e,hk,hb,q⟩:=h
 cases rx
 obtain ⟨u,u2,rfl,ru,ru2⟩:=rv.two
 obtain rfl:u=Q2 b:=ru
 obtain ⟨hs,hl,ws,r,d⟩:=eU I (.of e) hk
 refine V1 Vd d.typeIs X9 (PySem.F.args_dict_get_3 _ _ _) (meetsH_dict_get_default (SN (Tt X.prog X.w)) a b hs u2) ⟨iS hu,k,_,fG I hb,d,?_⟩
 refine ⟨(cB ps k).getD z,H,I.tok _,?_,q⟩
 have:=iR r k
 cases h1:cB ps k with
 | none=>
  rw [h1] at this
  cases h2:(UM (aQ ps ws) k).map (·.2) with
  | none=>exact ru2
  | some y=>rw [h2] at this;exact this.elim
 | some w'=>
  rw [h1] at this
  cases h2:(UM (aQ ps ws) k).map (·.2) with
  | none=>rw [h2] at this;exact this.elim
  | some y=>rw [h2] at this;exact this
end L3
namespace L3
open PySem L2
section
variable {P:Rk}{w:RG}{K:Type} [DecidableEq K] {knd:HeapKind P w K}{A:Rw}{E:QL->QM->Prop}{s:QM}{d a:Addr}{k:K}{xs:List (K×Addr×QL)}
theorem M8 {v:QL}{Q:QL->QM->Prop}(hu:knd.room A)(hk:knd.is s.heap k a)(hm:s.heap.DictOfH knd d xs)(hz:xs.length<=Q6)
  (h1:∀ p,UM xs k=some p->Q p.2 { s with toks:=s.toks+knd.draws k })(h2:UM xs k=none->∀ h',h'.DictOfH knd d (Yv xs k a v)->T8 d s.heap h'->Q v { s with heap:=h',toks:=s.toks+knd.draws k }) :
  Ri (Rl P w) A (Yz d (.ref a) v) Q E s:=by
 obtain ⟨o,es,ep,ho,hc,hd,he,his,hn⟩:=id hm
 unfold Yz
 refine RP (QK (knd.pyHash hu hk (QK (a0k (s:={ s with toks:=s.toks+knd.draws k }) hu hk ho hd he his hn (fun hno=>?_) fun j p hj=>?_))))
 ·have hnk:=a0P hno
  have hnot:k∉xs.map (·.1):=not_mem_keys_of_get hno
  refine QK (Uj (QK (Z4 (hz:=by have e:=Ym he;omega) (s:={ s with toks:=s.toks+knd.draws k }) ho hd (QX (h2 hnk _ ⟨_,_,ep+1,SO _ ho (WQ (UK hd _)),hc.mapDictKeys _,UK hd _,?_,fun x hx=>?_,?_⟩ (S9 ..))))))
  ·rw [Z7 hnk];simp [he,a0A]
  ·rw [Z7 hnk] at hx
   rcases Sb.mp hx with hx|hx
   ·exact knd.keeps (his x hx) ho hd (S9 ..)
   ·rw [RQ] at hx;subst hx;exact knd.keeps hk ho hd (S9 ..)
  ·rw [Z7 hnk,Th,Uy]
   exact ⟨hn,by simp,fun x hx y hy e=>by
    simp only [Ra,Vg,RQ] at hy
    subst hy;exact hnot (e ▸ hx)⟩
 ·refine QK (Sk (s:={ s with toks:=s.toks+knd.draws k }) ho hd ?_)
  rw [a2f he j,hj]
  exact QK (Uj (QX (h1 _ (atKey_of_get hn hj))))
theorem M9 (knd:HeapKind P w K)(d a:Addr)(hd:(d == RX)=false)(v:QL):a0U P w (Builtin.«dict.setdefault» ⟨[.ref d,.ref a,v],[]⟩) (fun A R s=>knd.room A.in1/\∃ k xs,knd.is s.heap k a/\s.heap.DictOfH knd d xs/\xs.length<=Q6 /\
   (∀ p,UM xs k=some p->R (.ok (.ret p.2)) { s with toks:=s.toks+knd.draws k })/\(UM xs k=none->∀ h',h'.DictOfH knd d (Yv xs k a v)->T8 d s.heap h'->R (.ok (.ret v)) { s with heap:=h',toks:=s.toks+knd.draws k })):=
 .of_wp fun A R s ⟨hu,k,xs,hk,hm,hz,h1,h2⟩=>by
  unfold Builtin.«dict.setdefault»
  refine QK ?_
  unfold a1S
  refine QK (S8 hm.typeIs (QX ?_))
  show Ri _ _ (if (d == RX)=true then _ else (Yz d (.ref a) v >>= _)) _ _ s
  rw [if_neg (by rw [hd];exact RR)]
  exact QK (M8 hu hk hm hz (fun p hp=>QX ⟨_,rfl,h1 p hp⟩) fun hn h' hm' hs'=>QX ⟨v,rfl,h2 hn h' hm' hs'⟩)
end
noncomputable def v7:D->List D->Hm->Option (D×Hm)
 | .loc a,[y,z],μ=>match μ[a]? with
  | some (.dT kvs)=>(bZ y).bind fun k=>match bD kvs k with
   | some d=>some (d,μ)
   | none=>if kvs.length<Q6 then some (z,μ.set a (.dT (cU kvs k z))) else none
  | _=>none
 | _,_,_=>none
noncomputable def CM (K:QH):V->List V->Hp->VK->Prop:=fun x vs H Q=>∃ a b ps k z,x=.ref a/\vs=[.ref b,z]/\H a=some (aH a ps)/\bW K H ps/\SqT K H b (k.map V.int)/\((∃ v,cB ps k=some v/\Q v H)\/(cB ps k=none/\ps.length<Q6/\Q z (aE H a (aH a (cO ps k b z)))))
theorem Na {K:QH}:cV K v7 (CM K):=by
 intro π H μ x xs d μ' v vs Q R ix ixs hm k
 unfold v7 at hm
 split at hm
 ·split at hm
  ·rename_i kvs hc
   obtain ⟨kk,h1,hm⟩:=QF.mp hm
   cases ix with
   | loc hlt=>
    cases ixs with
    | cons iy t=>
     cases t with
     | cons iz t=>
      cases t
      obtain ⟨ps,e1,T⟩:=dQ R hc
      obtain ⟨b,rfl,hb⟩:=iT iy h1
      refine ⟨_,b,ps,kk,_,rfl,rfl,e1,T.keys,hb,?_⟩
      have hpl:ps.length=kvs.length:=by
       have:=congrArg RN T.to.1
       simpa using this
      rcases T.val kk with ⟨z1,z2⟩|⟨v,d2,z1,z2,z3⟩
      ·rw [z2] at hm
       dsimp only at hm
       split at hm
       ·rename_i hz
        cases hm
        have T':=T.put kk hb iz
        obtain ⟨e4,R4⟩:=R.put (c:=.dT (cU kvs kk d)) (o:=aH _ (cO ps kk b _)) hlt e1 (.inr (.inr ⟨_,rfl⟩)) ⟨_,rfl,T'.to⟩
        exact .inr ⟨z1,by omega,k π _ _ e4 R4 (iz.mono e4)⟩
       ·cases hm
      ·rw [z2] at hm
       cases hm
       exact .inl ⟨v,z1,k π _ H .refl R z3⟩
  ·cases hm
 ·cases hm
theorem Nb {X:Cx}(hu:X.A.units+1<SK):dD X "dict.setdefault" (CM X.K):=by
 intro a2j s σ H x vs v us Q I rx rv h
 obtain ⟨a,b,ps,k,z,rfl,rfl,e,hk,hb,q⟩:=h
 cases rx
 obtain ⟨u,u2,rfl,ru,ru2⟩:=rv.two
 obtain rfl:u=Q2 b:=ru
 obtain ⟨hs,hl,ws,r,d⟩:=eU I (.of e) hk
 have hx:(aQ ps ws).length<=Q6:=by
  have:=congrArg RN (iQ r)
  rw [QY,QY] at this
  omega
 have rel:=iR r k
 refine V1 W8 d.typeIs PySem.F.entry_dict_setdefault (PySem.F.args_dict_setdefault_3 _ _ _) (M9 (SN (Tt X.prog X.w)) a b hs u2) ⟨iS hu,k,_,fG I hb,d,hx,fun p hp=>?_,fun hn h' d' hs'=>?_⟩
 ·rw [hp] at rel
  rcases q with ⟨v',h1,q⟩|⟨h1,_⟩
  ·rw [h1] at rel
   exact ⟨v',H,I.tok _,rel,q⟩
  ·rw [h1] at rel
   exact rel.elim
 ·rw [hn] at rel
  rcases q with ⟨v',h1,q⟩|⟨h1,hz,q⟩
  ·rw [h1] at rel
   exact rel.elim
  ·obtain ⟨ws',r',ex⟩:=vL r k b ru2
   rw [ex] at d'
   have he:∃ q,h'.get? a=some q:=let ⟨q,_,_,hq,_⟩:=d';⟨q,hq⟩
   exact ⟨z,_,jZ I (by rw [e];exact Tg) hs' he (oB hs (by have:=qQ ps k b z;omega) r' d'),ru2,q⟩
noncomputable def v8:D->List D->Hm->Option (D×Hm)
 | .loc a,[],μ=>match μ[a]? with
  | some (.dT _)=>some (.non,μ.set a (.dT []))
  | _=>none
 | _,_,_=>none
noncomputable def CN (K:QH):V->List V->Hp->VK->Prop:=fun x vs H Q=>∃ a ps,x=.ref a/\vs=[]/\H a=some (aH a ps)/\bW K H ps/\Q .non (aE H a (aH a []))
theorem Nc {K:QH}:cV K v8 (CN K):=by
 intro π H μ x xs d μ' v vs Q R ix ixs hm k
 unfold v8 at hm
 split at hm
 ·split at hm
  ·rename_i kvs hc
   cases hm
   cases ixs
   cases ix with
   | loc hlt=>
    obtain ⟨ps,e1,T⟩:=dQ R hc
    obtain ⟨e4,R4⟩:=R.put (c:=.dT []) (o:=aH _ []) hlt e1 (.inr (.inr ⟨_,rfl⟩)) ⟨[],rfl,rfl,.nil,.nil⟩
    exact ⟨_,ps,rfl,rfl,e1,T.keys,k π _ _ e4 R4 .non⟩
  ·cases hm
 ·cases hm
theorem Nd {P:Rk}{w:RG}(d:Addr):a0U P w (Builtin.«dict.clear» ⟨[.ref d],[]⟩) (fun _ R s=>∃ es ep,RawD s.heap d es ep/\es.size<=Q6 /\
   ∀ h',(∃ z,h'.get? d=some z/\z.ExactDict/\z.data=.dict #[] (ep+1))->T8 d s.heap h'->R (.ok (.ret .none)) { s with heap:=h' }):=
 .of_wp fun A R s ⟨es,ep,g,hz,h⟩=>by
  obtain ⟨o,ho,hc,hdat⟩:=id g
  unfold Builtin.«dict.clear»
  refine QK ?_
  unfold XR
  refine QK (S8 g.ty (QX (QK (Sk ho hdat (QK ?_)))))
  unfold bearsInstanceDictMark
  refine QK (Xg ho (QX (QK (Z4 (hz:=hz) ho hdat ?_))))
  have new:∃ z,(s.heap.update d (a0q fun _=>#[])).get? d=some z/\z.ExactDict/\z.data=.dict #[] (ep+1):=
   ⟨_,SO _ ho (WQ (UK hdat _)),hc.mapDictKeys _,UK hdat _⟩
  split
  ·exact QK (Z6 (QX ⟨.none,rfl,h _ new (S9 ..)⟩))
  ·exact QK (QX (QX ⟨.none,rfl,h _ new (S9 ..)⟩))
theorem Nf {X:Cx}:dD X "dict.clear" (CN X.K):=by
 intro a2j s σ H x vs v us Q I rx rv h
 obtain ⟨a,ps,rfl,rfl,e,hk,q⟩:=h
 cases rx
 cases rv
 obtain ⟨lo,hl,es,ep,g,he⟩:=jC I e hk
 have hs:es.size=ps.length:=by
  have:=congrArg RN he
  simpa using this
 refine V1 XW g.ty PySem.F.entry_dict_clear (PySem.F.args_dict_clear_1 _) (Nd a) ⟨es,ep,g,by omega,fun h' ⟨z,z1,z2,z3⟩ hs'=>?_⟩
 refine ⟨.non,_,jZ (t':=s.toks) I (by rw [e];exact Tg) hs' ⟨z,z1⟩ (oB (ps:=[]) (ws:=[]) lo (Su _) .nil ⟨z,#[],ep+1,z1,z2,z3,rfl,⟨fun x hx=>absurd hx (by simp [aQ]),by simp [aQ]⟩⟩),rfl,q⟩
end L3
namespace L3
open PySem L2
section
variable {P:Rk}{w:RG}{A:Rw}{E:QL->QM->Prop}{s:QM}
theorem Ng {nm:String}{d:Addr}{es:Array Sj}{ep:Nat}{bs:List Addr}{Q:Array Sj->QM->Prop}(g:RawD s.heap d es ep)(eb:es.toList.map (·.key)=bs.map Q2)(tt:∀ b∈bs,s.TypeIs (.ref b) "tuple")
  (nd:(es.toList.map (·.hash)).Nodup)(q:Q es s):Ri (Rl P w) A (WL nm d) Q E s:=by
 obtain ⟨z,g1,g2,g3⟩:=id g
 unfold WL
 refine QK (Sk g1 g3 (QK ?_))
 rw [<- Array.forIn_toList]
 refine X4 _ (fun rest _ s'=>s'=s/\∀ e∈rest,e∈es.toList) _ (fun e rest b s' ⟨h1,h2⟩=>?_) (fun b s' ⟨h1,_⟩=>?_) _ _ ⟨rfl,fun e he=>he⟩
 ·subst h1
  have he:=h2 e (Ru ..)
  have hk:e.key∈bs.map Q2:=by rw [<- eb];exact RE.mpr ⟨e,he,rfl⟩
  obtain ⟨a,ha,ek⟩:=RE.mp hk
  have quiet:∀ {Q:Bool->QM->Prop},Q false s'->Ri (Rl P w) A (Xv e.key) Q E s':=fun {Q} q=>by
   rw [<- ek]
   unfold Xv
   exact QK (Va (tt a ha) PySem.F.slot_tuple_eq.lookup (QX q))
  refine QK (quiet ?_)
  have one:((es.filter (·.hash == e.hash)).size>1)=False:=by
   refine eq_false fun z=>?_
   have z':1<(es.toList.filter fun x=>x.hash == e.hash).length:=by
    have e1:(es.filter (·.hash == e.hash)).toList=es.toList.filter fun x=>x.hash == e.hash:=Array.toList_filter ..
    have e2:=congrArg RN e1
    simp only [TJ] at e2
    omega
   have kR:(es.toList.filter fun x=>x.hash == e.hash).length=(es.toList.map (·.hash)).count e.hash:=by
    rw [List.count,List.countP_map,<- List.countP_eq_length_filter];rfl
   have:=List.nodup_iff_count.mp nd e.hash
   omega
  simp only [Ui,if_true,one,if_false]
  exact QX ⟨rfl,fun x hx=>h2 x (Rm _ hx)⟩
 ·subst h1;exact QX q
end
theorem CO:∀ (ps:aX)(ws:List QL),ps.length=ws.length->(WZ tH ps ws).map (·.hash)=ps.map fun p=>Tb.hashT p.1
 | [],_,_=>by simp
 | p::ps,[],h=>by cases h
 | p::ps,u::ws,h=>by
  rw [RO,Ra,Ra,CO ps ws (by simpa using h)]
  rfl
theorem Nh {es:Array Sj}{bs:List Addr}(hne:bs≠[])(he:es.toList.map (·.key)=bs.map Q2):(es.all fun e=>(keyPart e.key).isSome)=false:=by
 rw [<- Array.all_toList]
 generalize es.toList=l at he
 cases bs with
 | nil=>exact absurd rfl hne
 | cons b bs=>
  cases l with
  | nil=>cases he
  | cons e l=>
   rw [Ra,Ra,YY] at he
   rw [Sa,he.1]
   rfl
theorem Ni {es:Array Sj}{bs:List Addr}(hne:bs≠[])(he:es.toList.map (·.key)=bs.map Q2):es.isEmpty=false:=by
 have e1:=congrArg RN he
 simp only [QY,TJ] at e1
 have:bs.length≠0:=fun z=>hne (Tc.mp z)
 rw [Array.isEmpty]
 exact decide_eq_false (by omega)
noncomputable def CP (K:QH):List V->Hp->VK->Prop:=fun xs H Q=>∃ a ps,xs=[V.ref a]/\H a=some (aH a ps)/\bW K H ps/\ps≠[]/\(ps.map fun p=>Tb.hashT p.1).Nodup/\∀ l,H l=none->Q (.ref l) (aE H l (aH l ps))
section
variable {X:Cx}
theorem Nj:CallR X (.type "dict") (CP X.K):=by
 intro a2j s σ H xs us Q I r h
 obtain ⟨a,ps,rfl,ha,hk,hne,nd,q⟩:=h
 obtain ⟨u,rfl,ru⟩:=dC r
 cases ru
 have hn:H s.heap.objs.size=none:=I.hok.fresh (Q0 _)
 obtain ⟨⟨ws,rv,lo,hl,o,es,ep,h1,h2,h3,h4,h5⟩,_⟩:=(show ObjOk X.prog X.w H s.heap a (aH a ps) from I.hok a _ ha)
 obtain ⟨_,_,es',ep',g,he⟩:=jC I ha hk
 obtain ⟨z,g1,g2,g3⟩:=id g
 rw [h1] at g1
 cases g1
 rw [h3] at g3
 cases g3
 have hsz:es.size=ps.length:=by
  have:=congrArg RN he
  simpa using this
 have hnd:(es.toList.map (·.hash)).Nodup:=by
  have:es.toList.map (·.hash)=ps.map fun p=>Tb.hashT p.1:=by rw [h4];exact CO ps ws (by rw [<- rv.length,QY])
  rw [this];exact nd
 refine YB (Q₁:=fun obj s₁=>obj=.ref s.heap.objs.size/\s₁ = { s with heap:=s.heap.push { cls:=.type "dict",data:=.dict #[] } }) F.kt_called_dict (F.kt_typeCall_dict_1 _) F.entry_dict_init (a1c _ ⟨rfl,rfl⟩) ?_
 rintro obj s₁ ⟨rfl,rfl⟩
 have g0:({ s with heap:=s.heap.push { cls:=.type "dict",data:=.dict #[] } }:QM).heap.get? s.heap.objs.size=some { cls:=.type "dict",data:=.dict #[] }:=Rj _ rfl
 have ty:({ s with heap:=s.heap.push { cls:=.type "dict",data:=.dict #[] } }:QM).TypeIs (.ref s.heap.objs.size) "dict":=⟨_,g0,rfl⟩
 have ga:RawD (s.heap.push { cls:=.type "dict",data:=.dict #[] }) a es ep:=g.stay fun o e=>QU _ e
 refine ⟨ty,F.args_dict_init_2 _ _,?_⟩
 unfold Builtin.«dict.__init__»
 refine QK ?_
 unfold W4
 refine QK (S8 ty (QX ?_))
 show Ri _ _ (UL "dict.__init__" s.heap.objs.size (.ref a) [] .none) _ _ _
 unfold UL
 refine QK (Wz (T:="dict") ⟨_,QU _ h1,h2.1⟩ ?_)
 rw [if_neg (by decide)]
 refine QK ?_
 unfold a1R a1O
 have tya:({ s with heap:=s.heap.push { cls:=.type "dict",data:=.dict #[] } }:QM).TypeIs (.ref a) "dict":=⟨_,QU _ h1,h2.1⟩
 refine QK (QK (UW tya isSubtype_dict_dict ?_))
 simp only [Sh,Q3,if_false]
 refine QK (Va tya F.slot_dict_iter.lookup (QX ?_))
 simp only [beq_self_eq_true,if_true]
 refine QK (QX ?_)
 unfold a1Q
 have hda:(s.heap.objs.size == a)=false:=beq_eq_false_iff_ne.mpr (Sw (Ro (Q4 h1)))
 rw [if_neg (by rw [hda];exact RR)]
 unfold TF
 rw [if_neg (by rw [lo];exact RR)]
 have h1':=QU { cls:=.type "dict",data:=.dict #[] } h1
 refine QK (QX (QK (Sk h1' h3 ?_)))
 have few:=Nh (bs:=ps.map (·.2.1)) (fun z=>hne (WJ.mp z)) (by rw [he,RJ];rfl)
 simp only [few,Bool.and_false,Ui,if_true]
 refine QK (Sk g0 rfl ?_)
 simp only [Array.isEmpty_empty,if_true]
 have hes:es.size<=Q6:=by omega
 have emp:=Ni (bs:=ps.map (·.2.1)) (fun z=>hne (WJ.mp z)) (by rw [he,RJ];rfl)
 refine QK (Ng (bs:=ps.map (·.2.1)) ga (by rw [he,RJ];rfl) (fun b hb=>?_) hnd ?_)
 ·obtain ⟨p,hp,rfl⟩:=RE.mp hb
  obtain ⟨its,rx,⟨ot,e1,e2,_⟩,_⟩:=I.tuple (hk p hp)
  exact ⟨ot,QU _ e1,e2⟩
 simp only [emp,Ui,if_true]
 refine QK (wpAny_updateDictKeysTo g0 rfl (QX ?_) (by omega))
 have gN:=SO (a0q fun _=>es) g0 (WQ (UK (o:={ cls:=.type "dict",data:=.dict #[] }) rfl _))
 have big:(s.heap.objs.size == RX)=false:=beq_eq_false_iff_ne.mpr (Sw (Ro I.big))
 refine QK (QX (QX ?_))
 refine ⟨rfl,.ref s.heap.objs.size,_,I.laid (t':=s.toks) (a:=s.heap.objs.size) (o:=aH s.heap.objs.size ps) (fun b u e=>?_) (Q0 _) ⟨⟨ws,rv,big,hl,_,es,1,gN,?_,rfl,h4,h5⟩,⟨_,gN⟩,?_⟩,rfl,q _ hn⟩
 ·rw [Sg _ _ (Sw (Ro (Q4 e)))]
  exact QU _ e
 ·exact a1h ⟨rfl,rfl,rfl⟩ _
 ·rintro k1 k2 ⟨ws,r,hs,hl,o,es,ep,h1,h2⟩ hh
  exact ⟨ws,r,hs,hl,o,es,ep,hh o h1,h2⟩
end
end L3
namespace L3
open PySem L2
noncomputable abbrev oG:=List (List Int×Addr×QL)
inductive Hits (A:Rw)(s:QM)(ys:oG):oG->Bool->Prop
 | nil:Hits A s ys [] true
 | miss {x:List Int×Addr×QL}{r:oG}:UM ys x.1=none->Hits A s ys (x::r) false
 | hit {x:List Int×Addr×QL}{p:Addr×QL}{r:oG}{e b:Bool}:UM ys x.1=some p->XJ A s x.2.2 p.2 e->Hits A s ys r b->Hits A s ys (x::r) (e&&b)
section
variable {P:Rk}{w:RG}{A:Rw}{E:QL->QM->Prop}{s:QM}{a b:Addr}{xs ys:oG}{r:Bool}
theorem CQ {nm:String}{Q:Bool->QM->Prop}(hu:(SN (Tt P w)).room A)(la:(a == RX)=false)(lb:(b == RX)=false)(da:s.heap.DictOfH (SN (Tt P w)) a xs)(db:s.heap.DictOfH (SN (Tt P w)) b ys)
  (hits:xs.length=ys.length->Hits A s ys xs r)(q:Q (xs.length == ys.length&&r) s):Ri (Rl P w) A (Xe nm a b) Q E s:=by
 obtain ⟨oa,es,ep,ga,_,va,ea,isa,na⟩:=da
 obtain ⟨ob,fs,fp,gb,_,vb,eb,isb,nb⟩:=db
 have sa:=Ym ea
 have sb:=Ym eb
 unfold Xe TF
 rw [if_neg (by rw [la];exact RR),if_neg (by rw [lb];exact RR)]
 refine QK (QX (QK (QX (QK (Sk ga va ?_)))))
 dsimp only
 refine QK (Sk gb vb ?_)
 by_cases hsz:es.size=fs.size
 ·have hl:xs.length=ys.length:=by omega
  have q':Q r s:=by simpa [hl] using q
  have hh:=hits hl
  rw [if_neg (by rw [hsz];simp)]
  refine QK (Vb ga va (QK ?_))
  rw [a0p]
  simp only [a0o,Xb,Nat.add_sub_cancel,Nat.div_one]
  refine X4 _ (fun rest c s'=>s'=s/\c=(none,())/\∃ i,rest=VF i (es.size - i)/\i<=es.size/\Hits A s ys (xs.drop i) r) _ ?_ ?_ _ _ ⟨rfl,rfl,0,by simp,Su _,hh⟩
  ·rintro x rest c s' ⟨rfl,rfl,i,hr,hi,hp⟩
   have hlt:i<es.size:=a0c fun z=>by rw [Nat.sub_eq_zero_of_le z] at hr;cases hr
   have e0:es.size - i=(es.size - (i+1))+1:=by omega
   rw [e0,Vr] at hr
   injection hr with hx hrest
   subst hx
   have hlx:x<xs.length:=by omega
   rw [Tj hlx] at hp
   have ex:xs[x]? = some xs[x]:=QV hlx
   refine QK (Sk ga va ?_)
   rw [a2f ea x,ex,RL]
   dsimp only
   have hk:=isa xs[x] (To hlx)
   refine QK (RP (QK (a0k (k:=xs[x].1) (a:=xs[x].2.1) hu hk gb vb eb isb nb (fun hno=>?_) fun j p hj=>?_)))
   ·have hz:=a0P hno
    have er:r=false:=by
     cases hp with
     | miss _=>rfl
     | hit h1 _ _=>rw [hz] at h1;cases h1
    subst er
    refine QX ?_
    simp only [Ui,if_true]
    exact QX (QX q')
   ·have hz:=atKey_of_get nb hj
    refine QK (Sk gb vb ?_)
    rw [a2f eb j,hj,RL]
    dsimp only
    generalize hxs:xs[x]=y at hp hz
    cases hp with
    | miss h1=>rw [hz] at h1;cases h1
    | @hit _ p' _ e' b' h1 h2 h3=>
     rw [hz] at h1
     cases h1
     refine RP (h2 P w _ _ ?_)
     cases e' with
     | false=>
      simp only [Ui,if_true]
      exact QX (QX q')
     | true=>
      simp only [Sh,Q3,if_false]
      refine QK (Vb ga va ?_)
      rw [if_neg (by simp)]
      refine QX ⟨rfl,rfl,x+1,hrest,hlt,?_⟩
      simpa using h3
  ·rintro c s' ⟨rfl,rfl,i,hr,hi,hp⟩
   have hin:i=es.size:=by
    rcases Uq i es.size with z|z
    ·rw [show es.size - i=(es.size - (i+1))+1 by omega,Vr] at hr;cases hr
    ·omega
   refine QX ?_
   rw [hin,sa,List.drop_length] at hp
   cases hp
   exact q'
 ·rw [if_pos (by simpa using hsz)]
  have:(xs.length == ys.length)=false:=by rw [<- sa,<- sb];simpa using hsz
  rw [this,X3] at q
  exact QK (Uj (QX q))
theorem Nk {Q:QL->QM->Prop}(hr:(SN (Tt P w)).room A.in1)(hu:A.units<SK)(la:(a == RX)=false)(lb:(b == RX)=false)(da:s.heap.DictOfH (SN (Tt P w)) a xs)(db:s.heap.DictOfH (SN (Tt P w)) b ys)
  (hits:xs.length=ys.length->Hits A.in1 s ys xs r)(q:Q (.bool (xs.length == ys.length&&r)) s):Ri (Rl P w) A (R6 .Eq (.ref a) (.ref b)) Q E s:=by
 refine Yu (op:=.Eq) da.typeIs db.typeIs Yq (SJ Yq da.typeIs PySem.F.entry_dict_eq ?_ (PySem.F.args_dict_eq_2 _ _)) hu
 show Ri _ _ (Ur "__eq__" ⟨[.ref a,.ref b],[]⟩ >>= _) _ _ s
 refine QK ?_
 unfold Ur
 refine QK (S8 da.typeIs (QX (QK (UW (T:="dict") db.typeIs Yi ?_))))
 simp only [Sh,Q3,if_false]
 exact QK (QX (QK (QX (QK (CQ hr la lb da db hits (QX ⟨_,rfl,(fun x=>nomatch x),by simpa using q⟩))))))
theorem Nl {Q:QL->QM->Prop}(hr:(SN (Tt P w)).room A.in1)(hu:A.units<SK)(la:(a == RX)=false)(lb:(b == RX)=false)(da:s.heap.DictOfH (SN (Tt P w)) a xs)(db:s.heap.DictOfH (SN (Tt P w)) b ys)
  (hits:xs.length=ys.length->Hits A.in1 s ys xs r)(q:Q (.bool (!(xs.length == ys.length&&r))) s):Ri (Rl P w) A (R6 .NotEq (.ref a) (.ref b)) Q E s:=by
 refine Yu (op:=.NotEq) da.typeIs db.typeIs Yp (SJ Yp da.typeIs PySem.F.entry_dict_ne ?_ (PySem.F.args_dict_ne_2 _ _)) hu
 show Ri _ _ (Ur "__ne__" ⟨[.ref a,.ref b],[]⟩ >>= _) _ _ s
 refine QK ?_
 unfold Ur
 refine QK (S8 da.typeIs (QX (QK (UW (T:="dict") db.typeIs Yi ?_))))
 simp only [Sh,Q3,if_false]
 exact QK (QX (QK (QX (QK (CQ hr la lb da db hits (QX ⟨_,rfl,(fun x=>nomatch x),by simpa using q⟩))))))
end
noncomputable def oH (μ:Hm)(kws:List (List Int×D)):List (List Int×D)->Option Bool
 | []=>some true
 | (k,d)::r=>match bD kws k with
  | none=>some false
  | some y=>(bP 8 μ d y).bind fun e=>(oH μ kws r).map fun b=>e&&b
noncomputable def jG (ne:Bool):D->D->Hm->Option (D×Hm)
 | .loc a,.loc b,μ=>match μ[a]?,μ[b]? with
  | some (.dT kvs),some (.dT kws)=>if kvs.length=kws.length then (oH μ kws kvs).map fun e=>(.bl (if ne then !e else e),μ) else some (.bl ne,μ)
  | _,_=>none
 | _,_,_=>none
noncomputable def CS (K:QH)(ne:Bool):R2:=fun x y H Q=>∃ π μ a b ps qs kvs kws e,Rp K π H μ/\x=.ref (π a)/\y=.ref (π b)/\H (π a)=some (aH (π a) ps)/\H (π b)=some (aH (π b) qs)/\IsTs K π μ.length H ps kvs/\IsTs K π μ.length H qs kws /\
 (kvs.length=kws.length->oH μ kws kvs=some e)/\Q (.bl (if ne then !(kvs.length == kws.length&&e) else (kvs.length == kws.length&&e))) H
theorem qY {K:QH}{ne:Bool}:bV K (jG ne) (CS K ne):=by
 intro π H μ x y d μ' vx vy Q R ix iy hm k
 unfold jG at hm
 split at hm
 ·split at hm
  ·rename_i kvs kws hc hc'
   cases ix
   cases iy
   obtain ⟨ps,e1,T⟩:=dQ R hc
   obtain ⟨qs,e2,T'⟩:=dQ R hc'
   split at hm
   ·rename_i hl
    obtain ⟨e,h1,hm⟩:=QR.mp hm
    cases hm
    refine ⟨π,μ,_,_,ps,qs,kvs,kws,e,R,rfl,rfl,e1,e2,T,T',fun _=>h1,?_⟩
    rw [hl,beq_self_eq_true,Bool.true_and]
    exact k π _ H .refl R (.bl _)
   ·rename_i hl
    cases hm
    refine ⟨π,μ,_,_,ps,qs,kvs,kws,true,R,rfl,rfl,e1,e2,T,T',fun z=>absurd z hl,?_⟩
    have:(kvs.length == kws.length)=false:=by simpa using hl
    rw [this]
    have e0:(if ne=true then !(false&&true) else (false&&true))=ne:=by cases ne<;>rfl
    rw [e0]
    exact k π _ H .refl R (.bl _)
  ·cases hm
 ·cases hm
theorem CT {X:Cx}{a2j:List (Addr×Td)}{σ:St}{H:Hp}{s:QM}{π:Nat->Addr}{μ:Hm}{A:Rw}(I:Inv X a2j σ H s)(R:Rp X.K π H μ)(hu:A.units+8<SK){qs:aX}{kws:List (List Int×D)}{ws':List QL}(T':IsTs X.K π μ.length H qs kws)(r':Vals (qs.map (·.2.2)) ws') :
  ∀ {ps:aX}{kvs:List (List Int×D)}{ws:List QL}{e:Bool},IsTs X.K π μ.length H ps kvs->Vals (ps.map (·.2.2)) ws->oH μ kws kvs=some e->Hits A s (aQ qs ws') (aQ ps ws) e
 | _,_,_,_,.nil,.nil,h=>by cases h;exact .nil
 | _,_,_,_,.cons (a:=p) (b:=q) h t,.cons (b:=u) ru tu,hm=>by
  obtain ⟨k,d⟩:=q
  have hk:p.1=k:=h.1
  have rel:=iR r' p.1
  unfold aQ
  rw [RO]
  simp only [oH] at hm
  split at hm
  ·rename_i hv
   cases hm
   refine .miss ?_
   rcases T'.val p.1 with ⟨z1,z2⟩|⟨v,d2,z1,z2,z3⟩
   ·rw [z1] at rel
    cases h2:UM (aQ qs ws') p.1 with
    | none=>exact h2
    | some y=>rw [h2] at rel;exact rel.elim
   ·rw [hk] at z2;rw [hv] at z2;cases z2
  ·rename_i y hv
   obtain ⟨e1,h1,hm⟩:=QF.mp hm
   obtain ⟨b1,h2,hm⟩:=QR.mp hm
   subst hm
   rcases T'.val p.1 with ⟨z1,z2⟩|⟨v,d2,z1,z2,z3⟩
   ·rw [hk] at z2;rw [hv] at z2;cases z2
   ·rw [hk] at z2;rw [hv] at z2
    cases z2
    rw [z1] at rel
    cases h3:UM (aQ qs ws') p.1 with
    | none=>rw [h3] at rel;exact rel.elim
    | some y'=>
     rw [h3] at rel
     exact .hit (x:=(p.1,p.2.1,u)) h3 (tS I R 8 hu ru rel h.2.2 z3 h1) (CT I R hu T' r' t tu h2)
section
variable {X:Cx}{a b:Q1}{ma mb:ME}{pos:Ta}{k:Nat}
theorem qZ (ne:Bool)(hu:X.A.units+16<SK):OpR X (R6 (if ne then .NotEq else .Eq)) (CS X.K ne):=by
 intro a2j s σ H x y v u Q I rx ry h
 obtain ⟨π,μ,i,j,ps,qs,kvs,kws,e,R,rfl,rfl,e1,e2,T,T',hh,q⟩:=h
 obtain rfl:v=Q2 (π i):=rx
 obtain rfl:u=Q2 (π j):=ry
 obtain ⟨la,hl,ws,r,da⟩:=eU I (.of e1) T.keys
 obtain ⟨lb,hl',ws',r',db⟩:=eU I (.of e2) T'.keys
 have n1:(aQ ps ws).length=kvs.length:=by
  have z1:=congrArg RN (iQ r)
  have z2:=congrArg RN T.to.1
  simp only [QY] at z1 z2
  omega
 have n2:(aQ qs ws').length=kws.length:=by
  have z1:=congrArg RN (iQ r')
  have z2:=congrArg RN T'.to.1
  simp only [QY] at z1 z2
  omega
 have hits:(aQ ps ws).length=(aQ qs ws').length->Hits X.A.in1 s (aQ qs ws') (aQ ps ws) e:=fun z=>CT I R (by rw [kD];omega) T' r' T r (hh (by omega))
 cases ne with
 | false=>exact Nk (iS (by omega)) (by omega) la lb da db hits ⟨.bl _,H,I,rfl,by rw [n1,n2];exact q⟩
 | true=>exact Nl (iS (by omega)) (by omega) la lb da db hits ⟨.bl _,H,I,rfl,by rw [n1,n2];exact q⟩
theorem Nm (hr:Room k X.A)(ha:QE X a ma)(hb:QE X b mb):QE X (.Compare a [.Eq] [b] pos) (aB (jG false) ma mb):=⟨cZ (qZ false (by have:=hr.un;omega)) qY ha.h hb.h (bX _)⟩
theorem Nn (hr:Room k X.A)(ha:QE X a ma)(hb:QE X b mb):QE X (.Compare a [.NotEq] [b] pos) (aB (jG true) ma mb):=⟨cZ (qZ true (by have:=hr.un;omega)) qY ha.h hb.h (bX _)⟩
theorem Np (hr:Room k X.A)(ha:QE X a ma)(hb:QE X b mb):QT X (.Compare a [.Eq] [b] pos) (a8 (aB (jG false) ma mb)):=⟨c3 (qZ false (by have:=hr.un;omega)) qY ha.h hb.h (bX _)⟩
theorem Nq (hr:Room k X.A)(ha:QE X a ma)(hb:QE X b mb):QT X (.Compare a [.NotEq] [b] pos) (a8 (aB (jG true) ma mb)):=⟨c3 (qZ true (by have:=hr.un;omega)) qY ha.h hb.h (bX _)⟩
end
end L3
namespace L3
open PySem L2
noncomputable abbrev wA (_:Nat):Prop:=True
section
variable {X:Cx}{a2j:List (Addr×Td)}{σ:St}{H H':Hp}{s:QM}{h':Si}
theorem Nr {t':Nat}(I:Inv X a2j σ H s)(k:∀ b u,s.heap.get? b=some u->h'.get? b=some u)(old:∀ b,b<s.heap.objs.size->H' b=H b)(new:∀ b o,s.heap.objs.size<=b->H' b=some o->ObjOk X.prog X.w H' h' b o) :
  Inv X a2j σ H' { s with heap:=h',toks:=t' }:=by
 have lt:∀ b u,H b=some u->b<s.heap.objs.size:=fun b u e=>a0c fun z=>by rw [I.hok.fresh z] at e;cases e
 have same:∀ b u,H b=some u->H' b=some u:=fun b u e=>by rw [old b (lt b u e)];exact e
 refine I.un ⟨fun b u q _ _ _=>k b u q,fun b u q _ _ _=>⟨u.slots,k b u q⟩,fun b u q n _=>by rw [old b (Q4 q)];exact n,fun b u q _=>⟨u,k b u q⟩,fun b xs q=>same b _ q,fun b u xs q=>same b _ q,fun b ps q=>⟨#[],by rw [same b _ q];simp⟩⟩ fun b u e=>?_
 by_cases hb:b<s.heap.objs.size
 ·rw [old b hb] at e
  exact (I.hok b u e).stay (fun c v _ q=>k c v q) (fun c q=>same c _ q) fun c xs q=>same c _ q
 ·exact new b u (a0d hb) e
noncomputable def dR (H:Hp):List Addr->aX->Hp
 | a::as,p::ps=>dR (aE H a (.tup [.ref p.2.1,p.2.2])) as ps
 | _,_=>H
theorem k5:∀ {as:List Addr}{ps:aX}{H:Hp}{b:Addr},b∉as->dR H as ps b=H b
 | [],_,_,_,_=>by simp [dR]
 | a::as,[],_,_,_=>rfl
 | a::as,p::ps,H,b,h=>by
  rw [RD,not_or] at h
  show dR (aE H a _) as ps b=H b
  rw [k5 h.2,aS h.1]
theorem q0:∀ {as:List Addr}{ps:aX}{H:Hp}{i:Nat}{a:Addr}{p:List Int×Addr×V},as.Nodup->as[i]? = some a->ps[i]? = some p->dR H as ps a=some (.tup [.ref p.2.1,p.2.2])
 | [],_,_,_,_,_,_,h,_=>by simp at h
 | _::_,[],_,_,_,_,_,_,h=>by simp at h
 | x::as,y::ps,H,0,a,p,nd,h1,h2=>by
  obtain rfl:x=a:=by simpa using h1
  obtain rfl:y=p:=by simpa using h2
  rw [So] at nd
  show dR (aE H x _) as ps x=_
  rw [k5 nd.1,b7]
 | x::as,y::ps,H,i+1,a,p,nd,h1,h2=>by
  rw [So] at nd
  exact q0 (as:=as) (ps:=ps) (i:=i) nd.2 (by simpa using h1) (by simpa using h2)
noncomputable def oI (ps:aX):List Nat:=bB (fun i j=>HT.lexLt ((ps.map (·.1)).getD i []) ((ps.map (·.1)).getD j [])) ps.length
noncomputable def dB (as:List Addr)(ps:aX):List V:=(oI ps).map fun i=>V.ref (as.getD i 0)
theorem Nt (hc:X.calm=true)(hun:X.A.units+64<SK)(I:Inv X a2j σ H s){d r:Addr}{ps:aX}{Q:VK}(e:H d=some (aH d ps))(hk:bW X.K H ps)(h64:wA ps.length)(hv:s.heap.IsItemsView r d)
  (k:∀ (as:List Addr)(L l:Addr),as.length=ps.length->(l::L::as).Nodup->(∀ a∈l::L::as,H a=none)->Q (.ref l) (aE (aE (dR H as ps) L (.lst (dB as ps))) l (.tup (dB as ps)))) :
  Ri (Rl X.prog X.w) X.A (call (.builtin "sorted") [.ref r]) (fun v s'=>Ri (Rl X.prog X.w) X.A (call (.type "tuple") [v]) (EP X a2j σ Q) X.xe s') X.xe s:=by
 obtain ⟨lo,hl,ws,rv,z,es,ep,z1,z2,z3,z4,z5,z6⟩:=eU I (.of e) hk
 have hwl:ws.length=ps.length:=by
  have:=rv.length
  rw [QY] at this
  exact this.symm
 have hxl:(aQ ps ws).length=ps.length:=by unfold aQ;rw [List.length_zipWith,hwl,Nat.min_self]
 have hes:es.size=ps.length:=by rw [<- TJ,z4,QY,hxl]
 have nd:(ps.map (·.1)).Nodup:=by rw [iQ rv] at z6;exact z6
 have at_:∀ (j:Nat)(en:Sj),es[j]? = some en->∃ p u,ps[j]? = some p/\ws[j]? = some u/\en.key=.ref p.2.1/\en.val=u:=fun j en h=>by
  rw [<- Sx,z4,RH] at h
  obtain ⟨x,h1,rfl⟩:=QR.mp h
  unfold aQ at h1
  rw [List.getElem?_zipWith] at h1
  cases hp:ps[j]? with
  | none=>rw [hp] at h1;simp at h1
  | some p=>
   cases hw:ws[j]? with
   | none=>rw [hp,hw] at h1;simp at h1
   | some u=>
    rw [hp,hw] at h1
    have:(p.1,p.2.1,u)=x:=by simpa using h1
    subst this
    exact ⟨p,u,rfl,rfl,rfl,rfl⟩
 refine MM BW [] (ks:=ps.map (·.1)) (an:=fun i j=>HT.lexLt ((ps.map (·.1)).getD i []) ((ps.map (·.1)).getD j [])) rfl (by rw [QY,hes]) nd (I.ok.hd hc) hv ⟨z,z1,z2,z3⟩ (by omega) (fun h22 h3 tk as kp al pr=>?_) (fun h3 tk as L en kp al pr hL nL gL=>?_)
 ·have I3:Inv X a2j σ H { s with heap:=h3,toks:=tk }:=I.kept (t':=tk) kp
  refine MK (A:=X.A.in1.in1) (s:={ s with heap:=h3,toks:=tk }) (bs:=ps.map (·.2.1)) (ks:=ps.map (·.1)) (by show X.A.units+1+1<SK;omega) pr (by omega) al (by rw [QY,hes]) (by rw [QY,hes]) (fun j en hj=>?_) nd
  obtain ⟨p,u,p1,p2,p3,p4⟩:=at_ j en hj
  have hjl:j<ps.length:=(QN.mp p1).1
  have eb:(ps.map (·.2.1)).getD j 0=p.2.1:=by simp [RS,p1]
  have ek:(ps.map (·.1)).getD j []=p.1:=by simp [RS,p1]
  rw [eb,ek]
  have sq:=hk p (Rz p1)
  refine ⟨p3,fG I3 sq,?_⟩
  obtain ⟨xs,rx,t,_⟩:=I3.tuple sq
  exact ⟨xs,t,Bo rx⟩
 ·rw [hes] at gL al
  have nda:as.Nodup:=pr.up.imp fun h=>Ro h
  have hin:∀ i∈oI ps,i<ps.length:=fun i hi=>Ss.mp ((dO _ _).mem_iff.mp hi)
  have hlen:(oI ps).length=ps.length:=by
   have:=(dO (fun i j=>HT.lexLt ((ps.map (·.1)).getD i []) ((ps.map (·.1)).getD j [])) ps.length).length_eq
   rw [W0] at this
   exact this
  have nLa:L∉as:=fun h=>nL L h rfl
  have I1:Inv X a2j σ (aE (dR H as ps) L (.lst (dB as ps))) { s with heap:=h3,toks:=tk }:=by
   refine Nr (t':=tk) I kp (fun b hb=>?_) fun b o hb eb=>?_
   ·rw [aS (Ro (RF hb hL)),k5 fun h=>Nat.lt_asymm hb (pr.over b h)]
   ·by_cases hbL:b=L
    ·subst hbL
     rw [b7] at eb
     cases eb
     refine ⟨by unfold dB;rw [QY,hlen];exact hl,(oI ps).map fun i=>Q2 (as.getD i 0),en,?_,gL⟩
     unfold dB
     exact vT fun i _=>rfl
    ·rw [aS hbL] at eb
     by_cases hba:b∈as
     ·obtain ⟨j,hj⟩:=Ut.mp hba
      have hjl:j<ps.length:=by
       have:=(QN.mp hj).1
       omega
      have hp:ps[j]? = some ps[j]:=QV hjl
      rw [q0 nda hj hp] at eb
      cases eb
      obtain ⟨x,x1,x2⟩:=pr.prs j _ hj
      obtain ⟨p,u,p1,p2,p3,p4⟩:=at_ j x x1
      rw [hp] at p1
      cases p1
      obtain ⟨u',g1,g2⟩:=rv.get (i:=j) (x:=ps[j].2.2) (by rw [RH,hp];rfl)
      rw [p2] at g1
      cases g1
      rw [p3,p4] at x2
      exact ⟨by show (2:Nat)<=Q6;decide,[.ref ps[j].2.1,u],.cons rfl (.cons g2 .nil),_,x2,rfl,0,rfl,rfl⟩
     ·rw [k5 hba,I.hok.fresh hb] at eb
      cases eb
  refine zY a2j _ σ _ [.ref L] [.ref L] Q I1 (.cons rfl .nil) ⟨L,dB as ps,rfl,.inl ⟨.inl (.inl b7),fun l hl'=>?_⟩⟩
  have lL:l≠L:=fun h=>by rw [h,b7] at hl';cases hl'
  rw [aS lL] at hl'
  have la:l∉as:=fun h=>by
   obtain ⟨j,hj⟩:=Ut.mp h
   have hjl:j<ps.length:=by
    have:=(QN.mp hj).1
    omega
   rw [q0 nda hj (QV hjl)] at hl'
   cases hl'
  rw [k5 la] at hl'
  refine k as L l al ?_ fun a ha=>?_
  ·rw [So,So]
   exact ⟨fun h=>(RD.mp h).elim lL la,nLa,nda⟩
  ·rcases RD.mp ha with rfl|ha
   ·exact hl'
   rcases RD.mp ha with rfl|ha
   ·exact I.hok.fresh hL
   ·exact I.hok.fresh (Vn (pr.over a ha))
end
noncomputable def wB (k:List Int×D):D:=.tup [.tup (k.1.map D.int),k.2]
noncomputable def mU:D->Hm->Option (D×Hm)
 | .loc a,μ=>match μ[a]? with
  | some (.dT kvs)=>if wA kvs.length then some (.tup ((jE kvs).map wB),μ) else none
  | _=>none
 | _,_=>none
noncomputable def iV (m:ME):ME:=fun ρ μ=>(m ρ μ).bind fun r=>mU r.1 r.2
noncomputable def CU (K:QH):V->Hp->VK->Prop:=fun x H Q=>∃ a ps,x=.ref a/\H a=some (aH a ps)/\bW K H ps/\wA ps.length /\
 ∀ (as:List Addr)(L l:Addr),as.length=ps.length->(l::L::as).Nodup->(∀ a∈l::L::as,H a=none)->Q (.ref l) (aE (aE (dR H as ps) L (.lst (dB as ps))) l (.tup (dB as ps)))
section
variable {X:Cx}{o:Q1}{to:TE}{apos cpos p p2 pos pos2:Ta}
theorem Nu (hc:X.calm=true)(hun:X.A.units+64<SK)(hm1:X.mg "sorted" = none) (hm2:X.mg "tuple" = none) (hg1:Gl X "sorted") (hg2:Gl X "tuple") (ho:PE X o to)
  (hbase:UH o "items" X.env (eval o X.env)=eval o X.env) (hline:(apos.endLine == cpos.line)=true) :
  PE X (.Call (.Name "tuple" p) [.Call (.Name "sorted" p2) [.Call (.Attribute o "items" apos) [] [] cpos] [] pos2] [] pos) (fun σ H Q=>to σ H fun x H1=>CU X.K x H1 Q):=by
 intro a2j s σ H Q I h
 refine Tr (gX I hg2 hm2 U8 ?_)
 refine S3 ?_ rfl rfl
 refine VS ?_
 refine Tr (gX I hg1 hm1 Ub ?_)
 refine Wu ?_ rfl rfl
 refine VS ?_
 refine Wr hbase hline (aJ (ho a2j s σ H _ I h) fun v s1 ⟨x,H1,I1,r1,a,ps,ex,e,hk,h64,q⟩=>?_)
 subst ex
 obtain rfl:v=Q2 a:=r1
 obtain ⟨lo,hl,es,ep,g,he⟩:=jC I1 e hk
 refine ⟨"dict","dict.items",V2,XU,PySem.F.type_dict_items,g.ty,fun b eb=>?_,Ul rfl (WC ?_)⟩
 ·cases eb
  obtain ⟨z,g1,g2,_⟩:=g
  exact ⟨z,g1,g2.2.1⟩
 refine V1 XU g.ty PySem.F.entry_dict_items (PySem.F.args_dict_items_1 _) (MN a lo) ⟨⟨es,ep,g⟩,?_⟩
 refine V0 ?_
 have I2:Inv X a2j σ H1 { s1 with heap:=s1.heap.push { cls:=.type "dict_items",data:=.fields #[.ref a] } }:=I1.kept (t':=s1.toks) fun b o e=>QU _ e
 refine aJ (Nt hc hun I2 e hk h64 ⟨_,Rj _ rfl,rfl,rfl⟩ q) fun v s' hv=>V0 hv
end
theorem CV {K:QH}{π:Nat->Addr}{μ:Hm}:∀ {as:List Addr}{ps:aX}{H:Hp},Rp K π H μ->as.Nodup->(∀ a∈as,H a=none)->Ext π μ.length H π μ.length (dR H as ps)/\Rp K π (dR H as ps) μ
 | [],_,H,R,_,_=>by simp only [dR];exact ⟨.refl,R⟩
 | a::as,[],H,R,_,_=>⟨.refl,R⟩
 | a::as,p::ps,H,R,nd,hf=>by
  rw [So] at nd
  obtain ⟨e1,R1⟩:=R.fresh (o:=.tup [.ref p.2.1,p.2.2]) (hf a (Ru ..))
  obtain ⟨e2,R2⟩:=CV (as:=as) (ps:=ps) R1 nd.2 fun b hb=>by
   rw [aS (fun w:b=a=>nd.1 (w ▸ hb))]
   exact hf b (Rm _ hb)
  exact ⟨e1.trans e2,R2⟩
theorem Nv {K:QH}{mo:ME}:∀ σ H Q,tM K (iV mo) σ H Q->tM K mo σ H fun x H1=>CU K x H1 Q:=by
 rintro σ H Q ⟨π,ρ,μ,d,μ',R,E,hm,k⟩
 obtain ⟨⟨x,μ1⟩,h1,hm⟩:=QF.mp hm
 refine ⟨π,ρ,μ,x,μ1,R,E,h1,fun π1 v1 H1 e1 R1 i1=>?_⟩
 have k1:=k.after e1
 dsimp only at hm
 unfold mU at hm
 split at hm
 ·split at hm
  ·rename_i kvs hc
   split at hm
   ·rename_i hb
    cases hm
    cases i1
    obtain ⟨ps,e2,T⟩:=dQ R1 hc
    have el:ps.length=kvs.length:=by
     have:=congrArg RN T.to.1
     simpa using this
    refine ⟨_,ps,rfl,e2,T.keys,by rw [el];exact hb,fun as L l al nd hf=>?_⟩
    rw [So,So] at nd
    obtain ⟨e3,R3⟩:=CV (ps:=ps) R1 nd.2.2 fun a ha=>hf a (Rm _ (Rm _ ha))
    have hL:dR H1 as ps L=none:=by rw [k5 nd.2.1];exact hf L (Rm _ (Ru ..))
    obtain ⟨e4,R4⟩:=R3.fresh (o:=.lst (dB as ps)) hL
    have hl:aE (dR H1 as ps) L (.lst (dB as ps)) l=none:=by
     rw [aS (fun w:l=L=>nd.1 (by rw [w];exact Ru ..)),k5 fun w=>nd.1 (Rm _ w)]
     exact hf l (Ru ..)
    obtain ⟨e5,R5⟩:=R4.fresh (o:=.tup (dB as ps)) hl
    refine k1 π1 _ _ ((e3.trans e4).trans e5) R5 (.tup (.of b7) ?_)
    have hks:ps.map (·.1)=kvs.map (·.1):=T.to.1
    have key:∀ ix:List Nat,(∀ i∈ix,i<kvs.length)->IsDs K π1 μ'.length (aE (aE (dR H1 as ps) L (.lst (dB as ps))) l (.tup (dB as ps))) (ix.map fun i=>V.ref (as.getD i 0)) (ix.map (wB ∘ fun i=>kvs.getD i ([],.non))):=fun ix hix=>by
     induction ix with
     | nil=>exact .nil
     | cons i ix ih=>
      have hi:=hix i (Ru ..)
      have hia:as[i]? = some (as.getD i 0):=by simp [RS,show i<as.length by omega]
      have hip:ps[i]? = some ps[i]:=QV (by omega)
      have hik:kvs[i]? = some kvs[i]:=QV hi
      have ed:kvs.getD i ([],.non)=kvs[i]:=by simp [RS,hi]
      have ep:ps.getD i ([],0,.non)=ps[i]:=by simp [RS,show i<ps.length by omega]
      have pa:=CD T ([],0,.non) ([],.non) i (by omega)
      rw [ep,ed] at pa
      obtain ⟨q1,q2,q3⟩:=pa
      refine .cons ?_ (ih fun j hj=>hix j (Rm _ hj))
      have at_:aE (aE (dR H1 as ps) L (.lst (dB as ps))) l (.tup (dB as ps)) (as.getD i 0)=some (.tup [.ref ps[i].2.1,ps[i].2.2]):=by
       have hm:=Rz hia
       rw [aS (fun w:as.getD i 0=l=>nd.1 (by rw [<- w];exact Rm _ hm)),aS (fun w:as.getD i 0=L=>nd.2.1 (by rw [<- w];exact hm))]
       exact q0 nd.2.2 hia hip
      show IsD K π1 μ'.length _ (.ref (as.getD i 0)) (wB (kvs.getD i ([],.non)))
      rw [ed]
      have ee:=(e3.trans e4).trans e5
      have ik:IsD K π1 μ'.length H1 (.ref ps[i].2.1) (.tup (kvs[i].1.map D.int)):=by
       rw [<- q1]
       exact .tup q2 (qJ _)
      exact .tup (.of at_) (.cons (ik.mono ee) (.cons (q3.mono ee) .nil))
    have ey:dB as ps=(bB (fun i j=>HT.lexLt ((kvs.map (·.1)).getD i []) ((kvs.map (·.1)).getD j [])) kvs.length).map fun i=>V.ref (as.getD i 0):=by
     unfold dB oI
     rw [hks,el]
    have fin:=key (bB (fun i j=>HT.lexLt ((kvs.map (·.1)).getD i []) ((kvs.map (·.1)).getD j [])) kvs.length) fun i hi=>Ss.mp ((dO _ _).mem_iff.mp hi)
    rw [<- ey] at fin
    unfold jE
    rw [RJ]
    exact fin
   ·cases hm
  ·cases hm
 ·cases hm
theorem Nw {X:Cx}{o:Q1}{mo:ME}{apos cpos p p2 pos pos2:Ta}(hc:X.calm=true)(hun:X.A.units+64<SK)(hm1:X.mg "sorted" = none) (hm2:X.mg "tuple" = none) (hg1:Gl X "sorted") (hg2:Gl X "tuple") (ho:QE X o mo)(hs:iH o=true)(hl:(apos.endLine == cpos.line)=true) :
  QE X (.Call (.Name "tuple" p) [.Call (.Name "sorted" p2) [.Call (.Attribute o "items" apos) [] [] cpos] [] pos2] [] pos) (iV mo):=
 ⟨bT (Nu hc hun hm1 hm2 hg1 hg2 ho.h (iI hs) hl) Nv⟩
end L3
namespace L3
open PySem L2
noncomputable def mV:D->List D->Hm->Option (D×Hm)
 | .loc a,[y],μ=>match μ[a]? with
  | some (.dT kvs)=>(bZ y).map fun k=>((bD kvs k).getD .non,μ)
  | _=>none
 | _,_,_=>none
noncomputable def CW (K:QH):V->List V->Hp->VK->Prop:=fun x vs H Q=>∃ a b ps k,x=.ref a/\vs=[.ref b]/\H a=some (aH a ps)/\bW K H ps/\SqT K H b (k.map V.int)/\Q ((cB ps k).getD .non) H
theorem Nx {K:QH}:cV K mV (CW K):=by
 intro π H μ x xs d μ' v vs Q R ix ixs hm k
 unfold mV at hm
 split at hm
 ·split at hm
  ·rename_i kvs hc
   obtain ⟨kk,h1,hm⟩:=QR.mp hm
   cases hm
   cases ix
   cases ixs with
   | cons iy t=>
    cases t
    obtain ⟨ps,e1,T⟩:=dQ R hc
    obtain ⟨b,rfl,hb⟩:=iT iy h1
    refine ⟨_,b,ps,kk,rfl,rfl,e1,T.keys,hb,k π _ H .refl R ?_⟩
    rcases T.val kk with ⟨z1,z2⟩|⟨v,d2,z1,z2,z3⟩
    ·rw [z1,z2];exact .non
    ·rw [z1,z2];exact z3
  ·cases hm
 ·cases hm
theorem Ny {X:Cx}(hu:X.A.units+1<SK):dD X "dict.get" (CW X.K):=by
 intro a2j s σ H x vs v us Q I rx rv h
 obtain ⟨a,b,ps,k,rfl,rfl,e,hk,hb,q⟩:=h
 cases rx
 obtain ⟨u,rfl,ru⟩:=dC rv
 obtain rfl:u=Q2 b:=ru
 obtain ⟨hs,hl,ws,r,d⟩:=eU I (.of e) hk
 refine V1 Vd d.typeIs X9 (PySem.F.args_dict_get_2 _ _) (meetsH_dict_get (SN (Tt X.prog X.w)) a b hs) ⟨iS hu,k,_,fG I hb,d,?_⟩
 refine ⟨(cB ps k).getD .non,H,I.tok _,?_,q⟩
 have:=iR r k
 cases h1:cB ps k with
 | none=>
  rw [h1] at this
  cases h2:(UM (aQ ps ws) k).map (·.2) with
  | none=>exact rfl
  | some y=>rw [h2] at this;exact this.elim
 | some w'=>
  rw [h1] at this
  cases h2:(UM (aQ ps ws) k).map (·.2) with
  | none=>rw [h2] at this;exact this.elim
  | some y=>rw [h2] at this;exact this
end L3
namespace L3
open PySem L2
noncomputable def iW:D->List D->Hm->Option (D×Hm)
 | .str x,[.str y],μ=>match R0 x y 0 x.length 1 with
  | i::_=>some (.int (i:Nat),μ)
  | []=>none
 | _,_,_=>none
noncomputable def CY:V->List V->Hp->VK->Prop:=fun x vs H Q=>∃ (a b:Str)(i:Nat)(r:List Nat),x=.str a/\vs=[.str b]/\R0 a b 0 a.length 1=i::r/\Q (.int (i:Nat)) H
theorem Nz {K:QH}:cV K iW CY:=by
 intro π H μ x xs d μ' v vs Q R ix ixs hm k
 unfold iW at hm
 split at hm
 ·split at hm
  ·rename_i i r e
   cases hm
   cases ix
   cases ixs with
   | cons i t=>
    cases i
    cases t
    exact ⟨_,_,_,_,rfl,rfl,e,k π _ H .refl R (.int _)⟩
  ·cases hm
 ·cases hm
theorem NA {X:Cx}:dD X "str.index" CY:=by
 intro a2j s σ H x vs v us Q I rx rv h
 obtain ⟨a,b,i,r,rfl,rfl,e,q⟩:=h
 obtain ⟨t,rfl⟩:=rx
 obtain ⟨u,rfl,ru⟩:=rv.one
 obtain ⟨t2,rfl⟩:=ru
 refine call_gives F.slot_str_index (a0w _ _ _) F.entry_str_index (F.args_str_index_2 _ _) (gives_str_index a b t t2 i r e) ?_
 exact ⟨.int _,H,I.tok _,⟨_,rfl⟩,q⟩
end L3
namespace L3
open PySem L2 PySem.W PyProof.Rows
section
variable {P:Rk}{w:RG}{A:Rw}{E:QL->QM->Prop}{s:QM}
theorem NB {a a' b b':Addr}{oa ob:Td}{n n':Nat}{v v':QL}{k k':List Int}{C:Bool->QM->Prop}(hu:A.units<SK)(ga:s.heap.get? a=some oa)(da:oa.data=.seq #[.ref b,v] n)(ga':s.heap.get? a'=some ob)(da':ob.data=.seq #[.ref b',v'] n')
  (hb:jD P w s.heap b k)(hb':jD P w s.heap b' k')(hv:k=k'->v=v')(q:C (HT.lexLt k k') s):Ri (Rl P w) A (a0y (tuples' false) (.ref a) (.ref a')) C (fun _ _=>False) s:=by
 refine kat_lt ga da ga' da' ?_
 refine kat_cons ((SN (Tt P w)).eqBool hu hb.1 hb'.1 ?_)
 by_cases e:k=k'
 ·obtain rfl:=hv e
  subst e
  rw [decide_eq_true rfl]
  refine kat_yes (kat_cons (CB (kat_yes (kat_nil ?_))))
  rw [vQ] at q
  exact q
 ·rw [decide_eq_false e]
  obtain ⟨xs,t1,i1⟩:=hb.2
  obtain ⟨ys,t2,i2⟩:=hb'.2
  refine kat_no (kat_one _ _ (HT.lt_tupInts t1 t2 (by simpa using i1) (by simpa using i2) hu ?_))
  exact q
noncomputable def NC (P:Rk)(w:RG)(h:Si)(a:Addr)(k:List Int):Prop:=∃ (o:Td)(n:Nat)(b:Addr)(v:QL),h.get? a=some o/\o.cls=.type "tuple"/\o.data=.seq #[.ref b,v] n/\jD P w h b k
theorem ND {as:List Addr}{ks:List (List Int)}(hu:A.units<SK)(h0:0<as.length)(hk:ks.length=as.length)(at_:∀ i,i<as.length->NC P w s.heap (as.getD i 0) (ks.getD i []))
  (nd:ks.Nodup):fI P w A (as.map Q2) (fun i j=>HT.lexLt (ks.getD i []) (ks.getD j [])) s:=by
 unfold fI
 have tups:∃ fs:List QL,fs.length=as.length/\a0W s.heap (as.map Q2) fs/\∀ v∈fs,∃ b k,v=Q2 b/\jD P w s.heap b k:=by
  clear h0 nd
  induction as generalizing ks with
  | nil=>exact ⟨[],rfl,.nil,fun v hv=>nomatch hv⟩
  | cons a as ih=>
   match ks,hk with
   | k::ks,hk=>
    obtain ⟨fs,g0,g1,g2⟩:=ih (ks:=ks) (by simpa using hk) fun i hi=>by simpa using at_ (i+1) (by simpa using hi)
    obtain ⟨o,n,b,v,e1,e2,e3,e4⟩:=at_ 0 (by simp)
    simp only [Za] at e1 e4
    refine ⟨.ref b::fs,by simp [g0],.cons e1 e2 e3 (by simp) g1,fun v hv=>?_⟩
    rcases RD.mp hv with rfl|hv
    ·exact ⟨b,k,rfl,e4⟩
    ·exact g2 v hv
 obtain ⟨fs,g0,g1,g2⟩:=tups
 refine a2c (T:=.type "tuple") g1 (by omega) (fun v hv=>?_) (by decide) ⟨rfl,fun i j C hi hj hC=>?_⟩
 ·obtain ⟨b,k,rfl,k2⟩:=g2 v hv
  obtain ⟨xs,⟨o,o1,o2,_⟩,_⟩:=k2.2
  exact kitAt_ty _ _ ⟨o,o1,o2⟩
 ·rw [QY] at hi hj
  have gi:(as.map Q2).getD i .none=.ref (as.getD i 0):=by simp [RS,hi]
  have gj:(as.map Q2).getD j .none=.ref (as.getD j 0):=by simp [RS,hj]
  rw [gi,gj]
  obtain ⟨o,n,b,v,e1,e2,e3,e4⟩:=at_ i hi
  obtain ⟨o',n',b',v',f1,f2,f3,f4⟩:=at_ j hj
  refine NB hu e1 e3 f1 f3 e4 f4 (fun z=>?_) hC
  have hij:i=j:=by
   have h1:ks.getD i []=ks[i]:=by simp [RS,show i<ks.length by omega]
   have h2:ks.getD j []=ks[j]:=by simp [RS,show j<ks.length by omega]
   rw [h1,h2] at z
   rcases UA i j with h|h|h
   ·exact absurd z ((RB.mp nd) i j (by omega) (by omega) h)
   ·exact h
   ·exact absurd z.symm ((RB.mp nd) j i (by omega) (by omega) h)
  subst hij
  rw [e1] at f1
  cases f1
  rw [e3] at f3
  cases f3
  rfl
theorem NF {α:Type}{lt:α->α->Bool}(O:Ord1 lt)(d:α){ks:List α}{l:Addr}{us:List QL}{Q:QL->QM->Prop}(hk:ks.length=us.length)(nk:ks.Nodup)(nu:us.Nodup)(hz:us.length<=Q6)(hl:s.heap.IsList l us.toArray)
  (H:2<=us.length->∀ h3:Si,(∀ b o,s.heap.get? b=some o->h3.get? b=some o)->fI P w A.in1.in1 us (fun i j=>lt (ks.getD i d) (ks.getD j d)) { s with heap:=h3 })
  (q:Q (.ref (s.heap.objs.size+1)) { s with heap:=sortedAll s.heap us ((bB (fun i j=>lt (ks.getD i d) (ks.getD j d)) us.length).map fun i=>us.getD i Sm).toArray }):Ri (Rl P w) A (call (.builtin "sorted") [.ref l]) Q E s:=by
 refine UP Ye XB XF (XI _) ?_
 unfold VW
 refine QK (m:=YA "sorted" 1 1 _) (QX (QK (collect_list hl (QK (U4 ?_ (by omega))) (by omega))))
 have z:((s.heap.push (RY "list" #[] 0)).update s.heap.objs.size (RW (·++us.toArray))).objs.size=s.heap.objs.size+1:=by rw [Z1,size_push']
 have g:(((s.heap.push (RY "list" #[] 0)).update s.heap.objs.size (RW (·++us.toArray))).push (RY "list" us.toArray 0)).get? (s.heap.objs.size+1)=some (RY "list" us.toArray 0):=z ▸ Rj _ rfl
 show Ri _ _ _ _ _ ⟨((s.heap.push (RY "list" #[] 0)).update s.heap.objs.size (RW (·++us.toArray))).push (RY "list" us.toArray 0),s.gens,s.drawn,s.toks,s.os⟩
 rw [z]
 by_cases h2:2<=us.length
 ·refine QK (RP (SJ UR ⟨_,g,rfl⟩ UE (CC O d hk nk nu h2 hz g (fun h3 kp=>H h2 h3 fun b o e=>kp b o ?_ ?_) ⟨_,rfl,?_⟩) (UT _)))
  ·exact Ro (V6 (Q4 e))
  ·exact QU _ ((Sg _ _ (S7 (Q4 e))).trans (QU _ e))
  ·exact QX ⟨_,rfl,q⟩
 ·refine QK (RP (SJ UR ⟨_,g,rfl⟩ UE (uT (us:=us) (by omega) g ⟨_,rfl,?_⟩) (UT _)))
  refine QX ⟨_,rfl,?_⟩
  match us,h2,q with
  | [],_,q=>exact q
  | [b],_,q=>exact q
  | _::_::_,h2,_=>simp at h2
end
noncomputable def jH:List D->Option (List (List Int))
 | []=>some []
 | .tup [x,_]::r=>(bZ x).bind fun k=>(jH r).map (k::·)
 | _=>none
noncomputable def k6:MF:=fun ds μ=>match ds with
 | [x]=>(mG μ x).bind fun xs=>(jH xs).bind fun ks=>if ks.Nodup then some (.loc μ.length,μ++[.lst ((bB (kQ ks) ks.length).map fun i=>xs.getD i .non)]) else none
 | _=>none
noncomputable abbrev PrsV (K:QH)(H:Hp):List V->List (List Int)->Prop:=Vk fun v t=>∃ a b y,v=V.ref a/\SqT K H a [V.ref b,y]/\SqT K H b (t.map V.int)
theorem PrsV.get {K:QH}{H:Hp}:∀ {vs:List V}{ts:List (List Int)}{i:Nat},PrsV K H vs ts->i<vs.length->∃ a b y,vs[i]? = some (V.ref a)/\SqT K H a [V.ref b,y]/\SqT K H b ((ts.getD i []).map V.int)
 | _,_,_,.nil,h=>by simp at h
 | _,_,0,.cons ⟨a,b,y,e,q,q2⟩ _,_=>⟨a,b,y,by rw [e];rfl,q,q2⟩
 | _,_,i+1,.cons _ t,h=>by
  obtain ⟨a,b,y,e,q⟩:=PrsV.get (i:=i) t (by simpa using h)
  exact ⟨a,b,y,by simpa using e,q⟩
theorem CZ:∀ {xs:List D}{ks:List (List Int)},jH xs=some ks->ks.length=xs.length
 | [],ks,h=>by cases h;rfl
 | x::xs,ks,h=>by
  unfold jH at h
  split at h
  ·rename_i heq;cases heq
  ·rename_i heq
   cases heq
   obtain ⟨k,h1,h⟩:=QF.mp h
   obtain ⟨ks',h2,h3⟩:=QR.mp h
   subst h3
   rw [Rq,Rq,CZ h2]
  ·cases h
theorem C0 {K:QH}{π:Nat->Addr}{n:Nat}{H:Hp}:∀ {xs:List D}{vs:List V}{ks:List (List Int)},IsDs K π n H vs xs->jH xs=some ks->PrsV K H vs ks
 | [],_,ks,h,e=>by cases h;cases e;exact .nil
 | x::xs,_,ks,h,e=>by
  cases h with
  | cons h t=>
   unfold jH at e
   split at e
   ·rename_i heq;cases heq
   ·rename_i heq
    cases heq
    obtain ⟨k,h1,e⟩:=QF.mp e
    obtain ⟨ks',h2,h3⟩:=QR.mp e
    subst h3
    cases h with
    | @tup p vs' ds hq hd=>
     cases hd with
     | cons d1 d2=>
      cases d2 with
      | cons d2 d3=>
       cases d3
       rw [Bs h1] at d1
       cases d1 with
       | @tup p' vs2 ds' hq' hd'=>
        have:=ints_of' hd'
        subst this
        exact .cons ⟨p,p',_,rfl,hq,hq'⟩ (C0 t h2)
   ·cases e
noncomputable def C1 (K:QH):List V->Hp->VK->Prop:=fun xs H Q=>∃ q ws ks,xs=[V.ref q]/\SqL K H q ws/\PrsV K H ws ks/\ks.Nodup/\∀ l,H l=none->Q (.ref l) (aE H l (.lst ((bB (kQ ks) ws.length).map fun i=>ws.getD i .non)))
theorem NG {K:QH}:cH K k6 (C1 K):=by
 intro π H μ xs d μ' vs Q R i hm k
 unfold k6 at hm
 split at hm
 ·obtain ⟨ys,h1,hm⟩:=QF.mp hm
  obtain ⟨ks,h2,hm⟩:=QF.mp hm
  split at hm
  ·rename_i hb
   cases hm
   cases i with
   | cons i t=>
    cases t
    obtain ⟨p,ws,rfl,q,hd⟩:=uX R i h1
    have hl:ws.length=ks.length:=by rw [hd.length,CZ h2]
    refine ⟨p,ws,ks,rfl,q,C0 hd h2,hb,fun l hl'=>?_⟩
    obtain ⟨e2,R2,_⟩:=R.alloc (c:=.lst ((bB (kQ ks) ks.length).map fun i=>ys.getD i .non)) (o:=.lst ((bB (kQ ks) ws.length).map fun i=>ws.getD i .non)) hl' (by
     show IsDs _ _ _ _ _ _
     rw [hl]
     exact Bv hd _)
    exact k _ _ _ e2 R2 eG
  ·cases hm
 ·cases hm
theorem NH {X:Cx}(hun:X.A.units+64<SK):CallR X (.builtin "sorted") (C1 X.K):=by
 intro a2j s σ H xs us Q I r h
 obtain ⟨q,ws,ks,rfl,hq,hp,hnd,k⟩:=h
 obtain ⟨u,rfl,ru⟩:=dC r
 cases ru
 obtain ⟨its,rv,pl,hz⟩:=I.list hq
 have hlen:=rv.length
 have hkl:ks.length=ws.length:=hp.length.symm
  -- the values are refs
 have at_:∀ i,i<its.length->∃ a b y,its[i]? = some (.ref a)/\SqT X.K H a [V.ref b,y]/\SqT X.K H b ((ks.getD i []).map V.int):=fun i hi=>by
  obtain ⟨a,b,y,ea,sa,sb⟩:=hp.get (i:=i) (by omega)
  obtain ⟨u,h1,h2⟩:=rv.get ea
  cases h2
  exact ⟨a,b,y,h1,sa,sb⟩
 have refs:∃ as:List Addr,its=as.map Q2:=by
  clear at_ hz pl hnd k hq I hlen hkl
  induction hp generalizing its with
  | nil=>cases rv;exact ⟨[],rfl⟩
  | cons h _ ih=>
   cases rv with
   | cons r1 r2=>
    obtain ⟨as,e⟩:=ih _ r2
    obtain ⟨a,b,y,rfl,_⟩:=h
    cases r1
    exact ⟨a::as,by rw [e];rfl⟩
 obtain ⟨as,ei⟩:=refs
 have hal:as.length=its.length:=by rw [ei,QY]
 have pr:∀ i,i<as.length->∃ b y,SqT X.K H (as.getD i 0) [V.ref b,y]/\SqT X.K H b ((ks.getD i []).map V.int):=fun i hi=>by
  obtain ⟨a,b,y,h1,h2,h3⟩:=at_ i (by omega)
  have:as.getD i 0=a:=by
   rw [ei,RH] at h1
   obtain ⟨a',g1,g2⟩:=QR.mp h1
   cases g2
   simp [RS,g1]
  rw [this]
  exact ⟨b,y,h2,h3⟩
 have nda:as.Nodup:=by
  refine RB.mpr fun i j hi hj hij e=>?_
  obtain ⟨b,y,h1,h2⟩:=pr i hi
  obtain ⟨b',y',f1,f2⟩:=pr j hj
  have e1:as.getD i 0=as[i]:=by simp [RS,hi]
  have e2:as.getD j 0=as[j]:=by simp [RS,hj]
  rw [e1] at h1
  rw [e2,<- e] at f1
  obtain ⟨x1,r1,t1,_⟩:=I.tuple h1
  obtain ⟨x2,r2,t2,_⟩:=I.tuple f1
  obtain ⟨o1,a1,_,n1,d1⟩:=t1
  obtain ⟨o2,a2,_,n2,d2⟩:=t2
  rw [a1] at a2
  cases a2
  rw [d1] at d2
  have hx:x1=x2:=by
   injection d2 with d2
   simpa using d2
  subst hx
  cases r1 with
  | cons p1 _=>
   cases r2 with
   | cons p2 _=>
    cases p1
    cases p2
    have hk:=K4 I h2 f2
    have g1:ks.getD i []=ks[i]:=by simp [RS,show i<ks.length by omega]
    have g2:ks.getD j []=ks[j]:=by simp [RS,show j<ks.length by omega]
    rw [g1,g2] at hk
    exact (RB.mp hnd) i j (by omega) (by omega) hij hk
 have ndi:its.Nodup:=by
  rw [ei]
  unfold WV
  rw [SQ]
  exact nda.imp fun h e=>h (by cases e;rfl)
 refine NF BW [] (ks:=ks) (by omega) hnd ndi (by omega) pl.isList (fun h22 h3 kp=>?_) ?_
 ·have I3:Inv X a2j σ H { s with heap:=h3,toks:=s.toks }:=I.kept (t':=s.toks) kp
  rw [ei]
  refine ND (A:=X.A.in1.in1) (s:={ s with heap:=h3 }) (by show X.A.units+1+1<SK;omega) (by omega) (by omega) (fun i hi=>?_) hnd
  obtain ⟨b,y,h1,h2⟩:=pr i hi
  obtain ⟨xs,rx,⟨o,e,c,n,d⟩,_⟩:=I3.tuple h1
  cases rx with
  | cons p1 p2=>
   cases p1
   cases p2 with
   | cons p2 p3=>
    cases p3
    obtain ⟨ys,ry,t,_⟩:=I3.tuple h2
    exact ⟨o,n,b,_,e,c,d,fG I3 h2,ys,t,Bo ry⟩
 ·obtain ⟨e,he⟩:=VE s.heap its ((bB (fun i j=>HT.lexLt (ks.getD i []) (ks.getD j [])) its.length).map fun i=>its.getD i Sm).toArray
  refine ⟨.ref (s.heap.objs.size+1),_,I.laid (t':=s.toks) (a:=s.heap.objs.size+1) (o:=.lst ((bB (kQ ks) ws.length).map fun i=>ws.getD i .non)) (fun b ob z=>Vq z) (VG _) ?_,rfl,k _ (I.hok.fresh (VG _))⟩
  refine ⟨?_,_,e,?_,he⟩
  ·rw [QY,(dO _ _).length_eq,W0]
   exact hz
  ·rw [<- hlen]
   have hin:∀ i∈bB (kQ ks) ws.length,i<ws.length:=fun i hi=>Ss.mp ((dO _ _).mem_iff.mp hi)
   have each:∀ l:List Nat,(∀ i∈l,i<ws.length)->Vals (l.map fun i=>ws.getD i .non) (l.map fun i=>its.getD i Sm):=fun l=>by
    induction l with
    | nil=>intro _;exact .nil
    | cons i l ih=>
     intro hl
     refine .cons ?_ (ih fun j hj=>hl j (Rm _ hj))
     have hi:=hl i (Ru ..)
     obtain ⟨u,g1,g2⟩:=rv.get (QV hi)
     have e1:ws.getD i .non=ws[i]:=by simp [RS,hi]
     have e2:its.getD i Sm=u:=by simp [RS,g1]
     show RelV (ws.getD i .non) (its.getD i Sm)
     rw [e1,e2]
     exact g2
   exact each _ hin
end L3
namespace L3
open PySem L2
structure Sig where
 fn:List (Str×Nat)
 con:List (Str×D)
 tab:List (Str×List (aD×D))
 no:List Str
 dIt:List Str
 dEq:List Str
 dMe:List Str
structure Cs where
 N:List Str
 ks:List (Str×Ud)
noncomputable def jI (x:Str):List Str->Option Nat
 | []=>none
 | y::r=>if x=y then some 0 else (jI x r).map (·+1)
theorem oJ {x:Str}:∀ {N:List Str}{i:Nat},jI x N=some i->N[i]? = some x
 | [],_,h=>by cases h
 | y::r,i,h=>by
  unfold jI at h
  split at h
  ·rename_i e;cases h;subst e;rfl
  ·obtain ⟨j,h1,h2⟩:=QR.mp h
   subst h2
   have:=oJ h1
   simpa using this
noncomputable def glob (c:Cs)(x:Str):Bool:=decide (c.ks.lookup x=some .globalImplicit)&&!(x == ("__debug__":Str))
noncomputable def lF (c:Cs)(x:Str):Bool:=(decide (c.ks.lookup x=some .local)||decide (c.ks.lookup x=some .cell)||decide (c.ks.lookup x=some .free))&&!(x == ("__debug__":Str))&&!(x == ("__classdict__":Str))
noncomputable def k7 (c:Cs)(x:Str):Bool:=decide (c.ks.lookup x=some .local)||decide (c.ks.lookup x=some .cell)
noncomputable def wC (x:Str):Option String:=
 if x = "int" then some "int" else if x = "bool" then some "bool" else if x = "str" then some "str" else if x = "list" then some "list" else if x = "tuple" then some "tuple" else if x = "dict" then some "dict" else none
theorem NI {x:Str}{n:String}(h:wC x=some n):S2 x=some (.type n)/\x ≠ "__name__":=by
 unfold wC at h
 split at h
 ·rename_i e;subst e;cases h;exact ⟨ZG,by decide⟩
 split at h
 ·rename_i e;subst e;cases h;exact ⟨ZH,by decide⟩
 split at h
 ·rename_i e;subst e;cases h;exact ⟨ZC,by decide⟩
 split at h
 ·rename_i e;subst e;cases h;exact ⟨Vi,by decide⟩
 split at h
 ·rename_i e;subst e;cases h;exact ⟨U8,by decide⟩
 split at h
 ·rename_i e;subst e;cases h;exact ⟨Vj,by decide⟩
 ·cases h
noncomputable def wD (S:Sig)(c:Cs)(x:Str):ME:=
 if lF c x=true then (match jI x c.N with|some i=>aA i|none=>bG)
 else if glob c x=true then (match S.con.lookup x with
  | some d=>mC d
  | none=>if S.no.contains x=true then (match wC x with|some n=>mC (.ty n)|none=>bG) else bG)
 else bG
noncomputable def dZ (r:Q1->ME):List Q1->MA
 | []=>aF
 | e::es=>aC (r e) (dZ r es)
noncomputable def q9 (op:BoolOp):List ME->ME
 | []=>bG
 | [m]=>m
 | m::r=>match op with
  | .And=>c8 m (q9 op r)
  | .Or=>tJ m (q9 op r)
noncomputable def rA (op:BoolOp):List MT->MT
 | []=>kP
 | [m]=>m
 | m::r=>match op with
  | .And=>i6 m (rA op r)
  | .Or=>dG m (rA op r)
noncomputable def C2 (op:YE)(a b:ME):ME:=match op with
 | .Add=>aB dH a b
 | .Sub=>aB nN a b
 | .Mult=>aB dU a b
 | .FloorDiv=>aB dW a b
 | .Mod=>aB bQ a b
 | .Pow=>aB tT a b
 | _=>bG
noncomputable def jJ (op:U9)(ns:Bool)(a b:ME):ME:=match op with
 | .Eq=>aB (bL false) a b
 | .NotEq=>aB (bL true) a b
 | .Lt=>aB fV a b
 | .LtE=>aB lP a b
 | .Gt=>aB tZ a b
 | .GtE=>aB t4 a b
 | .In=>if ns=true then aB (cM false) a b else bG
 | .NotIn=>if ns=true then aB (cM true) a b else bG
 | .Is=>aB (gH false) a b
 | .IsNot=>aB (gH true) a b
noncomputable def wF (r:Q1->ME):List (Option Q1)->List Q1->Option (List (ME×ME))
 | [],[]=>some []
 | some k::ks,v::vs=>(wF r ks vs).map fun t=>(r k,r v)::t
 | _,_=>none
noncomputable def wG (r:Q1->ME):Option Q1->MO
 | none=>nK
 | some e=>i7 (r e)
noncomputable def dS:MF:=fun ds μ=>match ds with
 | [.loc a]=>match μ[a]? with
  | some (.lst xs)=>some (.int xs.length,μ)
  | some (.dK kvs)=>some (.int kvs.length,μ)
  | some (.st ks)=>some (.int ks.length,μ)
  | some (.dT kvs)=>some (.int kvs.length,μ)
  | _=>none
 | _=>nP ds μ
noncomputable def wH:MF:=fun ds μ=>match ds with
 | [x]=>(bH μ x).map fun xs=>(.tup xs,μ)
 | _=>none
theorem NJ {K:QH}:cH K wH (fun xs H Q=>∃ p ys,xs=[.ref p]/\((SqL K H p ys/\∀ l,H l=none->Q (.ref l) (aE H l (.tup ys)))\/(SqT K H p ys/\Q (.ref p) H))):=by
 intro π H μ xs d μ' vs Q R i hm k
 unfold wH at hm
 split at hm
 ·obtain ⟨ys,h1,h2⟩:=QR.mp hm
  cases h2
  cases i with
  | cons i t=>
   cases t
   obtain ⟨p,ws,rfl,q,hd⟩:=nQ R i h1
   refine ⟨p,ws,rfl,?_⟩
   rcases q with q|q
   ·refine .inl ⟨q,fun l hl=>?_⟩
    obtain ⟨e2,R2⟩:=R.fresh (o:=.tup ws) hl
    exact k π _ _ e2 R2 (.tup (.of b7) (hd.mono e2))
   ·exact .inr ⟨q,k π _ H .refl R (.tup q hd)⟩
 ·cases hm
noncomputable def mW:MF:=fun ds μ=>match ds with
 | [.loc a]=>match μ[a]? with
  | some (.dT kvs)=>some (.loc μ.length,μ++[.lst (kvs.map fun k=>D.tup (k.1.map D.int))])
  | _=>nR [.loc a] μ
 | ds=>nR ds μ
theorem NK {K:QH}:cH K mW (fun xs H Q=>(∃ p ys,xs=[.ref p]/\(SqL K H p ys\/SqT K H p ys)/\∀ l,H l=none->Q (.ref l) (aE H l (.lst ys)))\/Co K xs H Q):=by
 intro π H μ xs d μ' vs Q R i hm k
 unfold mW at hm
 split at hm
 ·rename_i a
  split at hm
  ·rename_i kvs hy
   cases hm
   cases i with
   | cons i t=>
    cases t
    cases i
    obtain ⟨ps,h1,T⟩:=dQ R hy
    refine .inr ⟨_,ps,rfl,h1,T.keys,fun l hl=>?_⟩
    obtain ⟨e2,R2,_⟩:=R.alloc (c:=.lst (kvs.map fun k:List Int×D=>D.tup (k.1.map D.int))) (o:=.lst (ps.map fun p:List Int×Addr×V=>V.ref p.2.1)) hl T.to.2.1
    exact k _ _ _ e2 R2 eG
  ·exact .inl (AR π H μ _ d μ' vs Q R i hm k)
 ·exact .inl (AR π H μ _ d μ' vs Q R i hm k)
noncomputable def wI (x:Str):Option MF:=
 if x = "len" then some dS
 else if x = "isinstance" then some cD
 else if x = "list" then some mW
 else if x = "tuple" then some wH
 else if x = "sorted" then some vK
 else none
noncomputable def NL (K:QH):List V->Hp->VK->Prop:=fun xs H Q=>uA K xs H Q\/(∃ a kvs,xs=[V.ref a]/\H a=some (.dK kvs)/\Q (.int kvs.length) H)\/(∃ a L,xs=[V.ref a]/\H a=some (pL a L)/\Q (.int L.length) H)\/Cn K xs H Q
theorem NM {K:QH}:cH K dS (NL K):=by
 intro π H μ xs d μ' vs Q R i hm k
 unfold dS at hm
 split at hm
 ·rename_i a
  split at hm
  ·rename_i ys hy
   refine .inl (AQ π H μ _ d μ' vs Q R i ?_ k)
   simp only [nP,bH,hy]
   exact hm
  ·rename_i kvs hy
   cases hm
   cases i with
   | cons i t=>
    cases t
    cases i
    obtain ⟨ws,h1,h2,_⟩:=R.dK a kvs hy
    refine .inr (.inl ⟨_,ws,rfl,h1,?_⟩)
    have:=congrArg RN h2
    rw [QY,QY] at this
    rw [this]
    exact k π _ H .refl R (.int _)
  ·rename_i ks hy
   cases hm
   cases i with
   | cons i t=>
    cases t
    cases i
    obtain ⟨L,h1,h2,_⟩:=R.st a ks hy
    have:=congrArg RN h2
    rw [QY] at this
    refine .inr (.inr (.inl ⟨_,L,rfl,h1,?_⟩))
    rw [this]
    exact k π _ H .refl R (.int _)
  ·rename_i kvs hy
   cases hm
   cases i with
   | cons i t=>
    cases t
    cases i
    obtain ⟨ps,h1,T⟩:=dQ R hy
    have:=congrArg RN T.to.1
    rw [QY,QY] at this
    refine .inr (.inr (.inr ⟨_,ps,rfl,h1,T.keys,?_⟩))
    rw [this]
    exact k π _ H .refl R (.int _)
  ·cases hm
 ·exact .inl (AQ π H μ _ d μ' vs Q R i hm k)
theorem NN {X:Cx}{x:Str}{f:MF}(hcalm:X.calm=true)(hun:X.A.units+64<SK)(h:wI x=some f):∃ v r,S2 x=some v/\((∃ id,v=.builtin id)\/∃ T,v=.type T)/\CallR X v r/\cH X.K f r/\x ≠ "__name__":=by
 unfold wI at h
 split at h
 ·rename_i e;subst e;cases h;exact ⟨_,_,ZE,.inl ⟨_,rfl⟩,call_lenM.or (call_lenD.or (call_lenT.or Mi)),NM,by decide⟩
 split at h
 ·rename_i e;subst e;cases h;exact ⟨_,_,ZF,.inl ⟨_,rfl⟩,Jg,Jf,by decide⟩
 split at h
 ·rename_i e;subst e;cases h;exact ⟨_,_,Vi,.inr ⟨_,rfl⟩,call_list_of.or (Mj hcalm),NK,by decide⟩
 split at h
 ·rename_i e;subst e;cases h;exact ⟨_,_,U8,.inr ⟨_,rfl⟩,zY,NJ,by decide⟩
 split at h
 ·rename_i e;subst e;cases h;exact ⟨_,_,Ub,.inl ⟨_,rfl⟩,call_sortI.or Lq,LN,by decide⟩
 ·cases h
noncomputable def wJ (x:Str):Option MF:=
 if x = "dict" then some k4 else
 wI x
theorem NO {X:Cx}{x:Str}{f:MF}(hcalm:X.calm=true)(hun:X.A.units+64<SK)(h:wJ x=some f):∃ v r,S2 x=some v/\((∃ id,v=.builtin id)\/∃ T,v=.type T)/\CallR X v r/\cH X.K f r/\x ≠ "__name__":=by
 unfold wJ at h
 split at h
 ·rename_i e;subst e;cases h;exact ⟨_,_,Vj,.inr ⟨_,rfl⟩,Mx hcalm hun,My,by decide⟩
 exact NN hcalm hun h
noncomputable def C3 (m:Str)(n:Nat):Option (D->List D->Hm->Option (D×Hm)):=
 if n=1 then (if m = "append" then some uO
  else none)
 else if n=0 then (if m = "clear" then some mE else if m = "pop" then some uP else if m = "reverse" then some uQ else none)
 else none
noncomputable def wK:MF:=fun ds μ=>match ds with
 | [.loc a]=>match μ[a]? with
  | some (.dT kvs)=>if kvs.length<64/\(∀ p∈kvs,p.1≠[]) then some (.loc μ.length,μ++[.lst ((jE kvs).map fun k=>D.tup (k.1.map D.int))]) else none
  | _=>none
 | _=>none
theorem NP {K:QH}:cH K wK (CJ K):=by
 intro π H μ xs d μ' vs Q R i hm k
 unfold wK at hm
 split at hm
 ·split at hm
  ·rename_i kvs hy
   split at hm
   ·rename_i hb
    cases hm
    cases i with
    | cons i t=>
     cases t
     cases i
     obtain ⟨ps,h1,T⟩:=dQ R hy
     obtain ⟨el,T2⟩:=MP T
     refine ⟨_,ps,rfl,h1,T.keys,by omega,fun p hp z=>?_,fun l hl=>?_⟩
     ·have:p.1∈kvs.map (·.1):=by rw [<- T.to.1];exact RE.mpr ⟨p,hp,rfl⟩
      obtain ⟨q,hq,e⟩:=RE.mp this
      exact hb.2 q hq (e.trans z)
     ·obtain ⟨e2,R2,_⟩:=R.alloc (c:=.lst ((jE kvs).map fun k:List Int×D=>D.tup (k.1.map D.int))) (o:=.lst ((iU ps).map fun p:List Int×Addr×V=>V.ref p.2.1)) hl T2.to.2.1
      exact k _ _ _ e2 R2 eG
   ·cases hm
  ·cases hm
 ·cases hm
noncomputable def wL:MF:=fun ds μ=>match ds with
 | [.loc a]=>match μ[a]? with
  | some (.dT kvs)=>if kvs≠[]/\(kvs.map fun p=>Tb.hashT p.1).Nodup then some (.loc μ.length,μ++[.dT kvs]) else none
  | _=>none
 | _=>none
theorem NQ {K:QH}:cH K wL (CP K):=by
 intro π H μ xs d μ' vs Q R i hm k
 unfold wL at hm
 split at hm
 ·split at hm
  ·rename_i kvs hy
   split at hm
   ·rename_i hb
    cases hm
    cases i with
    | cons i t=>
     cases t
     cases i
     obtain ⟨ps,h1,T⟩:=dQ R hy
     have ek:=T.to.1
     refine ⟨_,ps,rfl,h1,T.keys,fun z=>?_,?_,fun l hl=>?_⟩
     ·rw [z] at ek
      exact hb.1 (WJ.mp ek.symm)
     ·have:(ps.map fun p=>Tb.hashT p.1)=kvs.map fun p=>Tb.hashT p.1:=by
       have:=congrArg (List.map Tb.hashT) ek
       simpa [RJ,Function.comp_def] using this
      rw [this];exact hb.2
     ·obtain ⟨e2,R2,_⟩:=R.alloc (c:=.dT kvs) (o:=aH l ps) hl ⟨ps,rfl,T.to⟩
      exact k _ _ _ e2 R2 eG
   ·cases hm
  ·cases hm
 ·cases hm
noncomputable def wM (S:Sig):Q1->List Q1->Option (Bool×Q1)
 | .Name x _,[.Name y p]=>if S.dMe.contains y=true then (if x = "sorted" then some (true,.Name y p) else if x = "dict" then some (false,.Name y p) else none) else none
 | _,_=>none
noncomputable def C4 (S:Sig):Q1->List Q1->Option Q1
 | .Name x _,[.Name y p]=>if S.dEq.contains y=true then (if x = "sorted" then some (.Name y p) else none) else none
 | _,_=>none
noncomputable def C5 (S:Sig)(o:Q1)(m:Str)(n:Nat):Option (D->List D->Hm->Option (D×Hm)):=
 if m = "get"/\n=1 then some mV else
 if m = "setdefault"/\n=2 then some v7 else if m = "get"/\n=2 then some vZ else if m = "clear"/\n=0 then (match o with|.Name x _=>if S.dMe.contains x=true then some v8 else none|_=>none) else none
noncomputable def C6 (S:Sig):Q1->Bool
 | .Name x _=>S.dEq.contains x
 | .Dict [] [] _=>S.dEq.contains "{}"
 | _=>false
noncomputable def mX (op:U9)(a b:ME):ME:=match op with
 | .Eq=>aB (jG false) a b
 | .NotEq=>aB (jG true) a b
 | _=>bG
noncomputable def wN (S:Sig)(c:Cs)(tg:Q1):Q1->Option Nat
 | .Name x _=>match tg with
  | .Name _ _=>if S.dIt.contains x=true then jI x c.N else none
  | _=>none
 | _=>none
noncomputable def NR:Q1->Bool
 | .Constant (.str _) _ _=>true
 | _=>false
noncomputable def wO (S:Sig)(F:Str->MF)(r:Q1->ME)(c:Cs)(f:Q1)(args:List Q1)(cpos:Ta):ME:=match f with
 | .Name x _=>if glob c x&&args.all cS then (match S.fn.lookup x with
   | some n=>if args.length=n then aK (F x) (dZ r args) else bG
   | none=>if S.no.contains x&&!args.isEmpty then (match wJ x with|some g=>aK g (dZ r args)|none=>bG) else bG)
  else bG
 | .Attribute o m apos=>if iH o&&(apos.endLine == cpos.line)&&args.all cS then (
   match C5 S o m args.length with
   | some g=>jF g (r o) (dZ r args)
   | none=>
   if m = "index"/\NR o=true then (match args with|[b]=>gJ iW (r o) (dZ r [b])|_=>bG) else
   match C3 m args.length with
   | some g=>jA g (r o) (dZ r args)
   | none=>
    bG)
  else bG
 | _=>bG
noncomputable def wQ:Q1->Option (Q1×List Q1)
 | .Call f as [] _=>some (f,as)
 | _=>none
theorem NS {e f:Q1}{as:List Q1}(h:wQ e=some (f,as)):∃ pos,e=.Call f as [] pos:=by
 unfold wQ at h
 split at h
 ·cases h;exact ⟨_,rfl⟩
 ·cases h
noncomputable def rB:Q1->Option Str
 | .Name x _=>some x
 | _=>none
theorem C7 {e:Q1}{x:Str}(h:rB e=some x):∃ p,e=.Name x p:=by
 unfold rB at h
 split at h
 ·cases h;exact ⟨_,rfl⟩
 ·cases h
noncomputable def o1:List Q1->Option Q1
 | [e]=>some e
 | _=>none
theorem C8 {l:List Q1}{e:Q1}(h:o1 l=some e):l=[e]:=by
 unfold o1 at h
 split at h
 ·cases h;rfl
 ·cases h
noncomputable def wR (f:Q1)(args:List Q1):Option (Str×Str×Q1):=(rB f).bind fun x=>(o1 args).bind fun a=>(wQ a).bind fun g=>(rB g.1).bind fun y=>(o1 g.2).map fun e=>(x,y,e)
theorem C9 {f:Q1}{args:List Q1}{x y:Str}{e:Q1}(h:wR f args=some (x,y,e)):∃ p p2 pos,f=.Name x p/\args=[.Call (.Name y p2) [e] [] pos]:=by
 obtain ⟨x',h1,h⟩:=QF.mp h
 obtain ⟨a,h2,h⟩:=QF.mp h
 obtain ⟨g,h3,h⟩:=QF.mp h
 obtain ⟨y',h4,h⟩:=QF.mp h
 obtain ⟨e',h5,h⟩:=QR.mp h
 cases h
 obtain ⟨p,rfl⟩:=C7 h1
 obtain ⟨pos,rfl⟩:=NS h3
 obtain ⟨p2,h4⟩:=C7 h4
 exact ⟨p,p2,pos,rfl,by rw [C8 h2,h4,C8 h5]⟩
noncomputable def NT (f:Q1)(args:List Q1):Option (Bool×Q1):=(wR f args).bind fun t=>
 if t.1 = "list"/\t.2.1 = "reversed" then some (true,t.2.2) else
 none
noncomputable def Dd:Bool->Str
 | false=>"range"
 | true=>"reversed"
noncomputable def lstM:Bool->MF
 | true=>jB
 | false=>jB
noncomputable def wU (S:Sig)(F:Str->MF)(r:Q1->ME)(c:Cs)(f:Q1)(args:List Q1)(cpos:Ta):ME:=
 match NT f args with
 | some (b,e)=>if glob c "list" && glob c (Dd b)&&S.no.contains "list" && S.no.contains (Dd b)&&cS e then aK (lstM b) (dZ r [e]) else bG
 | none=>wO S F r c f args cpos
noncomputable def wV:Q1->Option (Q1×Ta×Ta)
 | .Call g [] [] cpos=>match g with
  | .Attribute o m apos=>if m = "items" then some (o,apos,cpos) else none
  | _=>none
 | _=>none
theorem NU {e o:Q1}{apos cpos:Ta}(h:wV e=some (o,apos,cpos)):e=.Call (.Attribute o "items" apos) [] [] cpos:=by
 unfold wV at h
 split at h
 ·split at h
  ·split at h
   ·rename_i e1;cases h;rw [e1]
   ·cases h
  ·cases h
 ·cases h
noncomputable def NV (f:Q1)(args:List Q1):Option (Q1×Ta×Ta):=(wR f args).bind fun t=>if t.1 = "tuple"/\t.2.1 = "sorted" then wV t.2.2 else none
noncomputable def wW (S:Sig)(F:Str->MF)(r:Q1->ME)(c:Cs)(f:Q1)(args:List Q1)(cpos:Ta):ME:=
 match NV f args with
 | some q=>if glob c "sorted" && glob c "tuple" && S.no.contains "sorted" && S.no.contains "tuple" && iH q.1&&(q.2.1.endLine == q.2.2.line) then iV (r q.1) else bG
 | none=>
 match C4 S f args with
 | some e=>if glob c "sorted" && S.no.contains "sorted" then aK k6 (dZ r [e]) else bG
 | none=>
 match wM S f args with
 | some (true,e)=>if glob c "sorted" && S.no.contains "sorted" then aK wK (dZ r [e]) else bG
 | some (false,e)=>if glob c "dict" && S.no.contains "dict" then aK wL (dZ r [e]) else bG
 | none=>
 wU S F r c f args cpos
noncomputable def oK (c:Cs)(scope:Uo)(xs:List Str):Bool:=
 (scope.names.all fun y=>decide (y.2≠.cell))&&decide (scope.kind=.function)&&(scope.names.all fun y=>decide (y.2≠.local)||decide (scope.names.lookup y.1=some .local)) &&
 (xs.all fun x=>decide (scope.names.lookup x=some .local))&&decide xs.Nodup&&(scope.names.all fun y=>decide (y.2≠.free)||decide (c.ks.lookup y.1=some .cell)||decide (c.ks.lookup y.1=some .free)) &&
 (scope.names.all fun y=>decide (y.2≠.local)||!(aW xs c.N).contains y.1)&&decide (aW xs c.N).Nodup&&(c.N.all fun y=>!xs.contains y||decide (scope.names.lookup (lQ y)=none))
noncomputable def oM (c:Cs)(scope:Uo)(xs:List Str):Cs:=
 ⟨aW xs c.N++xs,scope.names.map fun (n,k)=>if (k == TC&&c.ks.lookup n == some .cell) then (n,TY) else (n,k)⟩
noncomputable def De (r:Q1->MT):List Q1->MT
 | []=>iE
 | [t]=>r t
 | _=>kP
noncomputable def wX (S:Sig)(c:Cs):Q1->Option (List Q1)
 | .Call (.Name x _) args [] _=>if x = "range" then (if glob c x&&S.no.contains x&&args.all cS then some args else none) else none
 | _=>none
noncomputable def rC (S:Sig)(r:Q1->ME)(c:Cs)(e:Q1):MI:=match wX S c e with
 | some [a]=>kN (dZ r [a])
 | some [a,b]=>lX (dZ r [a,b])
 | some _=>uH
 | none=>dM (r e)
noncomputable def wY (S:Sig)(c:Cs):Q1->Option Q1
 | .Call (.Name x _) [a] [] _=>if x = "enumerate" then (if glob c x&&S.no.contains x&&cS a then some a else none) else none
 | _=>none
noncomputable def wZ (S:Sig)(r:Q1->ME)(c:Cs)(e:Q1):MI:=match wY S c e with
 | some _=>uH
 | none=>rC S r c e
noncomputable def w4 (S:Sig)(r:Q1->ME)(c:Cs)(e:Q1):MI:=wZ S r c e
noncomputable def w5:Q1->Option (List Str)
 | .Name x _=>some [x]
 | .Tuple es _ _=>es.mapM fun e=>match e with|.Name x _=>some x|_=>none
 | _=>none
noncomputable def w6:Q1->Nat->BD
 | .Tuple ..,n=>AN n
 | _,_=>nO
noncomputable def jK (S:Sig)(r:Q1->ME)(c:Cs)(tg e:Q1):MI:=match tg with
 | .Tuple ..=>w4 S r c e
 | _=>rC S r c e
noncomputable def gO (mi:MI)(rE:Cs->Q1->ME)(rT:Cs->Q1->MT)(c:Cs)(elt tg iter:Q1)(ifs:List Q1)(scope:Uo):ME:=match w5 tg with
 | some xs=>if oK c scope xs&&d9 iter then lY (w6 tg xs.length) mi (De (rT (oM c scope xs)) ifs) (rE (oM c scope xs) elt) else bG
 | none=>bG
noncomputable def w8 (S:Sig)(rE:Cs->Q1->ME)(rT:Cs->Q1->MT)(c:Cs)(elt tg iter:Q1)(ifs:List Q1)(scope:Uo):ME:=
 match wN S c tg iter with
 | some i=>vU i (gO (eW (rE c iter)) rE rT c elt tg iter ifs scope) (gO (jK S (rE c) c tg iter) rE rT c elt tg iter ifs scope)
 | none=>
 gO (jK S (rE c) c tg iter) rE rT c elt tg iter ifs scope
noncomputable def Df:Const->ME
 | .int i=>mC (.int i)
 | .bool b=>mC (.bl b)
 | .str s=>mC (.str s)
 | .none=>mC .non
 | _=>bG
noncomputable def Dg (m:ME):UnaryOp->ME
 | .USub=>nV m
 | .Not=>kB m
 | _=>bG
noncomputable def w9 (S:Sig)(r:Q1->ME)(a:Q1):List U9->List Q1->ME
 | [op],[b]=>if C6 S b then mX op (r a) (r b) else jJ op (d9 b) (r a) (r b)
 | [op,op'],[b,b']=>(match iO op,iO op' with
  | some p,some q=>gG (d7 p) (d7 q) (r a) (r b) (r b')
  | _,_=>bG)
 | _,_=>bG
noncomputable def xA (r:Q1->ME)(keys:List (Option Q1))(values:List Q1):ME:=match wF r keys values with
 | some prs=>if !keys.isEmpty&&decide (keys.length<=15) then kK prs else bG
 | none=>bG
noncomputable def xB (r:Q1->ME):List (Option Q1)->List Q1->ME
 | [],[]=>kX
 | keys,values=>xA r keys values
noncomputable def xC (S:Sig)(r:Q1->ME)(c:Cs)(a b:Q1):ME:=match b with
 | .Slice lo hi none _=>kC (r a) (wG r lo) (wG r hi)
 | b=>if kL b then aB aL (r a) (r b) else bG
noncomputable def xD (r:Q1->ME)(es:List Q1):ME:=if es.all cS then eF (dZ r es) else bG
noncomputable def xE (r:Q1->ME)(es:List Q1):ME:=if es.all cS then hZ (dZ r es) else bG
noncomputable def xF (S:Sig)(F:Str->MF)(r:Q1->ME)(c:Cs)(f:Q1)(args:List Q1)(cpos:Ta):List UY->ME
 | []=>wW S F r c f args cpos
 | _=>bG
noncomputable def xG (S:Sig)(rE:Cs->Q1->ME)(rT:Cs->Q1->MT)(c:Cs)(elt:Q1)(scope:Uo):List Comprehension->ME
 | [⟨tg,iter,ifs,0⟩]=>w8 S rE rT c elt tg iter ifs scope
 | _=>bG
noncomputable def Dh (S:Sig)(F:Str->MF)(rE:Cs->Q1->ME)(rT:Cs->Q1->MT)(c:Cs):Q1->ME
 | .Name x _=>wD S c x
 | .Constant v _ _=>Df v
 | .BinOp a op b _=>C2 op (rE c a) (rE c b)
 | .UnaryOp op a _=>Dg (rE c a) op
 | .Compare a ops bs _=>w9 S (rE c) a ops bs
 | .BoolOp op vs _=>q9 op (vs.map (rE c))
 | .IfExp t a b _=>tK (rT c t) (rE c a) (rE c b)
 | .Tuple es _ _=>xD (rE c) es
 | .List es _=>xE (rE c) es
 | .Dict keys values _=>xB (rE c) keys values
 | .Subscript a b _=>xC S (rE c) c a b
 | .Call f args kws cpos=>xF S F (rE c) c f args cpos kws
 | .ListComp elt gs scope _=>xG S rE rT c elt scope gs
 | _=>bG
noncomputable def oN (r:Q1->ME)(e:Q1):MT:=if uE e then cI (r e) else kP
noncomputable def xH (S:Sig)(r:Q1->ME)(a:Q1)(ops:List U9)(bs:List Q1)(p:Ta):MT:=match ops,bs with
 | [op],[b]=>if C6 S b then a8 (mX op (r a) (r b)) else a8 (jJ op (d9 b) (r a) (r b))
 | [op,op'],[b,b']=>(match iO op,iO op' with
  | some p,some q=>a8 (gG (d7 p) (d7 q) (r a) (r b) (r b'))
  | _,_=>kP)
 | ops,bs=>oN r (.Compare a ops bs p)
noncomputable def NW (r:Q1->ME)(t:MT)(a:Q1)(p:Ta):UnaryOp->MT
 | .Not=>t
 | op=>oN r (.UnaryOp op a p)
noncomputable def Di (S:Sig)(rE:Cs->Q1->ME)(rT:Cs->Q1->MT)(c:Cs):Q1->MT
 | .BoolOp op vs _=>rA op (vs.map (rT c))
 | .UnaryOp op a p=>NW (rE c) (cL (rT c a)) a p op
 | .Compare a ops bs p=>xH S (rE c) a ops bs p
 | e=>oN (rE c) e
noncomputable def tr (S:Sig)(F:Str->MF):Nat->(Cs->Q1->ME)×(Cs->Q1->MT)
 | 0=>(fun _ _=>bG,fun _ _=>kP)
 | n+1=>(Dh S F (tr S F n).1 (tr S F n).2,Di S (tr S F n).1 (tr S F n).2)
structure Okx (S:Sig)(F:Str->MF)(k:Nat)(c:Cs)(X:Cx):Prop where
 N:X.N=c.N
 nd:X.N.Nodup
 ks:X.env.scope.names=c.ks
 kind:X.env.scope.kind=.function
 calm:X.calm=true
 room:Room k X.A
 never:a1g (Rl X.prog X.w) X.A X.env X.xe
 fn:∀ x n,S.fn.lookup x=some n->∃ (f:Addr)(fd:T3)(ps:List Str),FnOk X.prog X.w X.K X.mg X.base d5 k f fd ps (fS X.K n (F x))/\X.mg x=some (.ref f)/\Te X.K (.ref f)=true/\Binds X.K fd ps []
 con:∀ x d,S.con.lookup x=some d->∃ v u,X.mg x=some u/\RelV v u/\∀ π n H,IsD X.K π n H v d
 tab:∀ x kvs,S.tab.lookup x=some kvs->TabOk X x kvs
 no:∀ x,S.no.contains x=true->X.mg x=none
section
variable {S:Sig}{F:Str->MF}{k:Nat}{c:Cs}{X:Cx}
theorem Okx.gl (O:Okx S F k c X){x:Str}(h:glob c x=true):Gl X x/\(x == ("__debug__":Str))=false:=by
 unfold glob at h
 rw [Q7] at h
 refine ⟨?_,by simpa using h.2⟩
 show X.env.scope.names.lookup x=_
 rw [O.ks]
 exact of_decide_eq_true h.1
theorem Okx.vis (O:Okx S F k c X){x:Str}(h:lF c x=true):nD X.env.scope x/\(x == ("__debug__":Str))=false/\(x == ("__classdict__":Str))=false:=by
 unfold lF at h
 rw [Q7,Q7,UZ,UZ] at h
 obtain ⟨⟨h1,h2⟩,h3⟩:=h
 refine ⟨?_,by simpa using h2,by simpa using h3⟩
 unfold nD
 rw [O.ks]
 rcases h1 with (h1|h1)|h1
 ·exact .inl (of_decide_eq_true h1)
 ·exact .inr (.inl (of_decide_eq_true h1))
 ·exact .inr (.inr (of_decide_eq_true h1))
theorem NX (O:Okx S F k c X)(x:Str)(pos:Ta):QE X (.Name x pos) (wD S c x):=by
 unfold wD
 split
 ·rename_i h
  obtain ⟨h1,h2,h3⟩:=O.vis h
  split
  ·rename_i i hi
   exact Jn i (by rw [O.N];exact oJ hi) h1 h2 h3
  ·exact bJ
 split
 ·rename_i h
  obtain ⟨h1,h2⟩:=O.gl h
  split
  ·rename_i d hd
   obtain ⟨v,u,m,r,i⟩:=O.con x d hd
   exact ⟨lI (Fc h1 m r h2) i⟩
  ·split
   ·rename_i hn
    split
    ·rename_i n ht
     obtain ⟨b1,b2⟩:=NI ht
     exact JV (O.no x hn) b1 h1 b2 h2
    ·exact bJ
   ·exact bJ
 ·exact bJ
theorem fK {r:Q1->ME}(hr:∀ e,QE X e (r e)):∀ (es:List Q1),es.all cS=true->QA X es (dZ r es) es.length
 | [],_=>JL
 | e::es,h=>by
  rw [Sa,Q7] at h
  exact JM (hr e) (fK hr es h.2) h.1
theorem Dj {r:Q1->ME}(hr:∀ e,QE X e (r e))(op:BoolOp)(pos:Ta):∀ (vs:List Q1),QE X (.BoolOp op vs pos) (q9 op (vs.map r))
 | []=>bJ
 | [e]=>JG (hr e)
 | e::e2::es=>by
  have ih:=Dj hr op pos (e2::es)
  cases op with
  | And=>exact JI (hr e) ih
  | Or=>exact JJ (hr e) ih
theorem Dk {r:Q1->MT}(hr:∀ e,QT X e (r e))(op:BoolOp)(pos:Ta):∀ (vs:List Q1),QW X (.BoolOp op vs pos) (rA op (vs.map r))
 | []=>Kz
 | [e]=>by
  cases op with
  | And=>exact J7 (hr e)
  | Or=>exact J8 (hr e)
 | e::e2::es=>by
  have ih:=Dk hr op pos (e2::es)
  cases op with
  | And=>exact J9 (hr e) ih
  | Or=>exact Ka (hr e) ih
theorem NY {a b:Q1}{ma mb:ME}(ha:QE X a ma)(hb:QE X b mb)(op:YE)(pos:Ta):QE X (.BinOp a op b pos) (C2 op ma mb):=by
 cases op with
 | Add=>exact Js ha hb
 | Sub=>exact Jt ha hb
 | Mult=>exact Ju ha hb
 | FloorDiv=>exact Jv ha hb
 | Mod=>exact Jw ha hb
 | Pow=>exact Jx ha hb
 | _=>exact bJ
theorem NZ (O:Okx S F k c X){a b:Q1}{ma mb:ME}(ha:QE X a ma)(hb:QE X b mb)(op:U9)(pos:Ta):QE X (.Compare a [op] [b] pos) (jJ op (d9 b) ma mb):=by
 cases op with
 | Eq=>exact JA O.room ha hb
 | NotEq=>exact JB O.room ha hb
 | Lt=>exact JC ha hb
 | LtE=>exact JD ha hb
 | Gt=>exact JE ha hb
 | GtE=>exact JF ha hb
 | In=>
  simp only [jJ]
  split
  ·rename_i h;exact Mm O.room ha hb h
  ·exact bJ
 | NotIn=>
  simp only [jJ]
  split
  ·rename_i h;exact Mn O.room ha hb h
  ·exact bJ
 | Is=>exact Lz ha hb
 | IsNot=>exact LA ha hb
theorem Dl {e:Q1}:QT X e (a8 bG):=⟨fun a2j s σ H Q I h=>by
 obtain ⟨π,ρ,μ,d,μ',R,E,hm,k⟩:=h
 cases hm⟩
theorem N0 (O:Okx S F k c X){a b:Q1}{ma mb:ME}(ha:QE X a ma)(hb:QE X b mb)(op:U9)(pos:Ta):QT X (.Compare a [op] [b] pos) (a8 (jJ op (d9 b) ma mb)):=by
 cases op with
 | Eq=>exact JZ O.room ha hb
 | NotEq=>exact J0 O.room ha hb
 | Lt=>exact J1 ha hb
 | LtE=>exact J2 ha hb
 | Gt=>exact J3 ha hb
 | GtE=>exact J4 ha hb
 | In=>
  simp only [jJ]
  split
  ·rename_i h;exact Mo O.room ha hb h
  ·exact Dl
 | NotIn=>
  simp only [jJ]
  split
  ·rename_i h;exact Mp O.room ha hb h
  ·exact Dl
 | Is=>exact LB ha hb
 | IsNot=>exact LC ha hb
theorem Dm {r:Q1->ME}(hr:∀ e,QE X e (r e))(pos:Ta):∀ (ks:List (Option Q1))(vs:List Q1)(prs:List (ME×ME)),wF r ks vs=some prs->QP X pos ks vs prs
 | [],[],prs,h=>by cases h;exact JW
 | some k::ks,v::vs,prs,h=>by
  obtain ⟨t,h1,h2⟩:=QR.mp h
  subst h2
  exact JX (hr k) (hr v) (Dm hr pos ks vs t h1)
 | none::ks,vs,prs,h=>by cases vs<;>cases h
 | some k::ks,[],prs,h=>by cases h
 | [],v::vs,prs,h=>by cases h
theorem Dp {r:Q1->ME}(hr:∀ e,QE X e (r e)):∀ o:Option Q1,QO X o (wG r o)
 | none=>JR
 | some e=>JS (hr e)
theorem N1 (O:Okx S F k c X){r:Q1->ME}(hr:∀ e,QE X e (r e))(f:Q1)(args:List Q1)(cpos:Ta):QE X (.Call f args [] cpos) (wO S F r c f args cpos):=by
 unfold wO
 split
 ·rename_i x p
  split
  ·rename_i hg
   rw [Q7] at hg
   obtain ⟨g1,g2⟩:=O.gl hg.1
   have ha:=fK hr args hg.2
   split
   ·rename_i n hn
    split
    ·rename_i hl
     obtain ⟨fa,fd,ps,FO,hm,hk,hb⟩:=O.fn x n hn
     subst hl
     cases args with
     | nil=>exact KY FO O.room hm hk hb g1 g2
     | cons e es=>exact JU FO O.room hm hk hb ha g1 g2
    ·exact bJ
   ·split
    ·rename_i hno
     rw [Q7] at hno
     split
     ·rename_i g hb
      obtain ⟨v,rr,b1,b2,b3,b4,b5⟩:=NO (X:=X) O.calm O.room.units hb
      cases args with
      | nil=>exact absurd hno.2 (by simp)
      | cons e es=>
       rcases b2 with ⟨id,rfl⟩|⟨T,rfl⟩
       ·exact uD b3 b4 (O.no x hno.1) b1 ha g1 b5 g2
       ·exact AY b3 b4 (O.no x hno.1) b1 ha g1 b5 g2
     ·exact bJ
    ·exact bJ
  ·exact bJ
 ·rename_i o m apos
  split
  ·rename_i hg
   rw [Q7,Q7] at hg
   obtain ⟨⟨h1,h2⟩,h3⟩:=hg
   have ha:=fK hr args h3
   split
   ·rename_i g hm
    unfold C5 at hm
    split at hm
    ·rename_i hl
     obtain ⟨rfl,hl⟩:=hl
     cases hm
     cases args with
     | nil=>cases hl
     | cons e es=>exact vY Vd Yh (Ny (by have:=O.room.units;omega)) Nx (hr o) ha h1 h2 (by rw [hl];decide)
    split at hm
    ·rename_i hl
     obtain ⟨rfl,hl⟩:=hl
     cases hm
     cases args with
     | nil=>cases hl
     | cons e es=>exact vY W8 PySem.F.type_dict_setdefault (Nb (by have:=O.room.units;omega)) Na (hr o) ha h1 h2 (by rw [hl];decide)
    split at hm
    ·rename_i hl
     obtain ⟨rfl,hl⟩:=hl
     cases hm
     cases args with
     | nil=>cases hl
     | cons e es=>exact vY Vd Yh (M7 (by have:=O.room.units;omega)) M6 (hr o) ha h1 h2 (by rw [hl];decide)
    split at hm
    ·rename_i hl
     obtain ⟨rfl,hl⟩:=hl
     split at hm
     ·split at hm
      ·cases hm
       cases args with
       | cons e es=>cases hl
       | nil=>exact M5 XW PySem.F.type_dict_clear Nf Nc (hr _) h1 h2
      ·cases hm
     ·cases hm
    ·cases hm
   split
   ·rename_i e1
    obtain ⟨rfl,_⟩:=e1
    split
    ·exact LJ PySem.F.slot_str_index PySem.F.type_str_index NA Nz (hr o) ha h1 h2 (by show 1<30;decide)
    ·exact bJ
   split
   ·rename_i g hm
    unfold C3 at hm
    split at hm
    ·rename_i hl
     cases args with
     | nil=>cases hl
     | cons e es=>
      have hn:(e::es).length<30:=by rw [hl];decide
      split at hm
      ·rename_i e1;subst e1;cases hm
       exact KN PySem.F.slot_list_append PySem.F.type_list_append Aa KP (hr o) ha h1 h2 hn
      ·cases hm
    split at hm
    ·rename_i hl
     cases args with
     | cons e es=>cases hl
     | nil=>
      split at hm
      ·rename_i e1;subst e1;cases hm
       exact uN PySem.F.slot_list_clear PySem.F.type_list_clear Hl KQ (hr o) h1 h2
      split at hm
      ·rename_i e1;subst e1;cases hm
       exact uN PySem.F.slot_list_pop PySem.F.type_list_pop Hj KS (hr o) h1 h2
      split at hm
      ·rename_i e1;subst e1;cases hm
       exact uN PySem.F.slot_list_reverse PySem.F.type_list_reverse Hk KR (hr o) h1 h2
      ·cases hm
    ·cases hm
   ·skip
    ·exact bJ
  ·exact bJ
 ·exact bJ
theorem N2 (O:Okx S F k c X){r:Q1->ME}(hr:∀ e,QE X e (r e))(f:Q1)(args:List Q1)(cpos:Ta):QE X (.Call f args [] cpos) (wU S F r c f args cpos):=by
 unfold wU
 split
 ·rename_i b e h
  split
  ·rename_i hg
   rw [Q7,Q7,Q7,Q7] at hg
   obtain ⟨⟨⟨⟨g1,g2⟩,n1⟩,n2⟩,st⟩:=hg
   have ha:=fK hr [e] (by rw [Sa,st];rfl)
   obtain ⟨t,h1,h2⟩:=QF.mp h
   obtain ⟨p,p2,pos,rfl,rfl⟩:=C9 h1
   split at h2
   ·rename_i hxy
    cases h2
    rw [hxy.1,hxy.2]
    exact LX O.calm (O.no _ n1) (O.no _ n2) ha (O.gl g1).1 (O.gl g2).1
   ·cases h2
  ·exact bJ
 ·exact N1 O hr f args cpos
theorem rD (O:Okx S F k c X){scope:Uo}{xs:List Str}(h:oK c scope xs=true):CompSt X.env.scope X.N scope xs/\xs.Nodup:=by
 unfold oK at h
 rw [Q7,Q7] at h
 obtain ⟨⟨h,h8⟩,h9⟩:=h
 have h8:=of_decide_eq_true h8
 have h9':∀ y∈c.N,xs.contains y=true->scope.names.lookup (lQ y)=none:=fun y hy hc=>by
  have:=Vt.mp h9 y hy
  rw [hc] at this
  simpa using this
 simp only [Q7,Vt,decide_eq_true_eq,UZ,V4,List.contains_eq_mem,decide_eq_false_iff_not] at h
 obtain ⟨⟨⟨⟨⟨⟨h1,h2⟩,h3⟩,h4⟩,h7⟩,h5⟩,h6⟩:=h
 refine ⟨⟨h1,h2,fun y hy hl=>(h3 y hy).resolve_left (fun z=>z hl),h4,fun y hy hf=>?_,fun y hy hl=>?_,O.nd,by rw [O.N];exact h8,by rw [O.N];exact h9'⟩,h7⟩
 ·rw [O.ks]
  rcases h5 y hy with (z|z)|z
  ·exact absurd hf z
  ·exact .inl z
  ·exact .inr z
 ·rw [O.N]
  have:=(h6 y hy).resolve_left (fun z=>z hl)
  exact this
theorem Dq {N xs:List Str}(h:N.Nodup)(h2:xs.Nodup)(h3:∀ x∈xs,x∉N):(N++xs).Nodup:=by
 rw [Uy]
 exact ⟨h,h2,fun a ha b hb e=>by subst e;exact h3 _ hb ha⟩
theorem Okx.comp (O:Okx S F k c X){scope:Uo}{xs:List Str}(h:oK c scope xs=true){cl:List (Str×Addr)}{C:Addr}{s₀:QM}{H₀:Hp}{fp:List Addr}:Okx S F k (oM c scope xs) (bY X scope cl C (aW xs X.N++xs) s₀ H₀ fp):=by
 obtain ⟨St,hnd⟩:=rD O h
 refine ⟨show aW xs X.N++xs=aW xs c.N++xs by rw [O.N],?_,?_,?_,O.calm,O.room,YT,O.fn,O.con,fun y kvs q=>⟨(O.tab y kvs q).ex⟩,O.no⟩
 ·show (aW xs X.N++xs).Nodup
  exact Dq St.hnd hnd fun x hx=>St.own (x,.local) (Sy (St.here x hx)) rfl
 ·show (a0O scope X.env).names=(oM c scope xs).ks
  unfold a0O oM
  dsimp only
  refine SE fun y _=>?_
  obtain ⟨n,kk⟩:=y
  dsimp only
  have:(X.env.scope.kind == ScopeKind.function)=true:=by rw [O.kind];rfl
  rw [this,a0I]
  show (if (kk == TC&&X.env.scope.names.lookup n == some TY)=true then _ else _)=_
  rw [O.ks]
 ·show (a0O scope X.env).kind=.function
  exact St.kind
theorem Dr {r:Q1->MT}(hr:∀ e,QT X e (r e)):∀ es:List Q1,QI X es (De r es)
 | []=>Kc
 | [t]=>Kd (hr t)
 | a::b::es=>⟨fun a2j s σ H Q I h=>by
   obtain ⟨π,ρ,μ,d,μ',R,E,hm,k⟩:=h
   cases hm⟩
theorem Ds (O:Okx S F k c X){e:Q1}{args:List Q1}(h:wX S c e=some args):∃ p pos,e=.Call (.Name "range" p) args [] pos/\Gl X "range"/\X.mg "range" = none/\args.all cS=true:=by
 unfold wX at h
 split at h
 ·split at h
  ·rename_i e1
   subst e1
   split at h
   ·rename_i hg
    cases h
    rw [Q7,Q7] at hg
    exact ⟨_,_,rfl,(O.gl hg.1.1).1,O.no _ hg.1.2,hg.2⟩
   ·cases h
  ·cases h
 ·cases h
theorem Dt (O:Okx S F k c X){r:Q1->ME}(hr:∀ e,QE X e (r e))(e:Q1):QJ X e (rC S r c e):=by
 unfold rC
 split
 ·rename_i a h
  obtain ⟨p,pos,rfl,h1,h2,h3⟩:=Ds O h
  exact Kr h1 h2 (fK hr [a] h3)
 ·rename_i a b h
  obtain ⟨p,pos,rfl,h1,h2,h3⟩:=Ds O h
  exact Ks h1 h2 (fK hr [a,b] h3)
 ·exact j_bad
 ·exact Kq (hr e)
theorem N3 (O:Okx S F k c X){e a:Q1}(h:wY S c e=some a):∃ p pos,e=.Call (.Name "enumerate" p) [a] [] pos/\Gl X "enumerate"/\X.mg "enumerate" = none/\cS a=true:=by
 unfold wY at h
 split at h
 ·split at h
  ·rename_i e1
   subst e1
   split at h
   ·rename_i hg
    cases h
    rw [Q7,Q7] at hg
    exact ⟨_,_,rfl,(O.gl hg.1.1).1,O.no _ hg.1.2,hg.2⟩
   ·cases h
  ·cases h
 ·cases h
theorem N4 (O:Okx S F k c X){r:Q1->ME}(hr:∀ e,QE X e (r e))(e:Q1):QJT X e (wZ S r c e):=by
 unfold wZ
 split
 ·rename_i a h
  obtain ⟨p,pos,rfl,h1,h2,h3⟩:=N3 O h
  exact j_bad.t
 ·exact (Dt O hr e).t
theorem N5 (O:Okx S F k c X){r:Q1->ME}(hr:∀ e,QE X e (r e))(e:Q1):QJT X e (w4 S r c e):=by
 unfold w4
 exact N4 O hr e
theorem mY (O:Okx S F k c X){r:Q1->ME}(hr:∀ e,QE X e (r e))(tg e:Q1):PI X tg e (iG X.K (jK S r c tg e)):=by
 unfold jK
 split
 ·exact (N5 O hr e).h _ _ _
 ·exact (Dt O hr e).h _
theorem Du {iter:Q1}{env:W3}(h:d9 iter=true):∀ x,Vx iter env x=pure x:=by
 intro z
 cases iter<;>first|rfl|cases h
end
theorem Dv {X:Cx}(hN:X.N.Nodup):∀ (es:List Q1)(xs:List Str)(n:Nat),(es.mapM fun e=>match e with|.Name x _=>some x|_=>none)=some xs->(∀ j x,xs[j]? = some x->X.N[n+j]? = some x/\X.env.scope.names.lookup x=some .local)->QGs X es (VF n xs.length)
 | [],xs,n,h,hx=>by
  cases h
  exact AZ
 | e::es,xs,n,h,hx=>by
  rw [List.mapM_cons] at h
  obtain ⟨x,h1,h⟩:=QF.mp h
  obtain ⟨ys,h2,h⟩:=QF.mp h
  cases h
  cases e with
  | Name y p=>
   cases h1
   rw [Rq,Vr]
   have h0:=hx 0 x rfl
   refine A0 n hN (Dv hN es ys (n+1) h2 fun j z hz=>?_) (by simpa using h0.1) (.inl h0.2) (.inr h0.2)
   have:=hx (j+1) z (by simpa using hz)
   rw [show n+1+j=n+(j+1) by omega]
   exact this
  | _=>cases h1
theorem rF {S:Sig}{F:Str->MF}{k:Nat}{c:Cs}{X:Cx}(O:Okx S F k c X){scope:Uo}{tg:Q1}{xs:List Str}(hx:w5 tg=some xs)(h:oK c scope xs=true)(cl:List (Str×Addr))(C:Addr)(s₀:QM)(H₀:Hp)(fp:List Addr) :
  PG (bY X scope cl C (aW xs X.N++xs) s₀ H₀ fp) tg (eJ X.K (gB X.N.length (w6 tg xs.length)))/\∀ d μ z,w6 tg xs.length d μ=some z->z.length=xs.length:=by
 obtain ⟨St,hnd⟩:=rD O h
 have hN:(aW xs X.N++xs).Nodup:=Dq St.hnd hnd fun x hx=>St.own (x,.local) (Sy (St.here x hx)) rfl
 have hloc:∀ x∈xs,(a0O scope X.env).names.lookup x=some .local:=fun x hx=>lookup_relabel_local (St.here x hx)
 unfold w5 at hx
 split at hx
 ·rename_i x p
  cases hx
  refine ⟨Kt (X:=bY X scope cl C (aW [x] X.N++[x]) s₀ H₀ fp) (by show (aW [x] X.N++[x]).length=_;rw [Q8,kH];rfl) (AK (X:=bY X scope cl C (aW [x] X.N++[x]) s₀ H₀ fp) hN (by show (aW [x] X.N++[x])[X.N.length]? = _;rw [<- kH [x] X.N];simp) (.inl (hloc x (by simp))) (.inr (hloc x (by simp)))),fun d μ z hz=>?_⟩
  cases hz
  rfl
 ·rename_i es kk pt
  refine ⟨Ku (X:=bY X scope cl C (aW xs X.N++xs) s₀ H₀ fp) (by show (aW xs X.N++xs).length=_;rw [Q8,kH]) (uF (X:=bY X scope cl C (aW xs X.N++xs) s₀ H₀ fp) (Dv (X:=bY X scope cl C (aW xs X.N++xs) s₀ H₀ fp) hN es xs X.N.length hx fun j x hj=>⟨?_,hloc x (Rz hj)⟩) O.calm).h,fun d μ z hz=>?_⟩
  ·show (aW xs X.N++xs)[X.N.length+j]? = some x
   rw [Rg (by rw [kH];omega),kH,show X.N.length+j - X.N.length=j by omega]
   exact hj
  ·obtain ⟨ys,h1,h2⟩:=QF.mp hz
   split at h2
   ·rename_i hl
    cases h2
    rw [QY];exact hl
   ·cases h2
 ·cases hx
theorem N6 (O:Okx S F k c X){r:Q1->ME}(hr:∀ e,QE X e (r e))(f:Q1)(args:List Q1)(cpos:Ta):QE X (.Call f args [] cpos) (wW S F r c f args cpos):=by
 unfold wW
 split
 ·rename_i q h
  split
  ·rename_i hg
   rw [Q7,Q7,Q7,Q7,Q7] at hg
   obtain ⟨⟨⟨⟨⟨g1,g2⟩,n1⟩,n2⟩,st⟩,ln⟩:=hg
   obtain ⟨t,h1,h2⟩:=QF.mp h
   split at h2
   ·rename_i hxy
    obtain ⟨p,p2,pos,rfl,rfl⟩:=C9 h1
    rw [hxy.1,hxy.2,NU h2]
    exact Nw O.calm O.room.units (O.no _ n1) (O.no _ n2) (O.gl g1).1 (O.gl g2).1 (hr _) st ln
   ·cases h2
  ·exact bJ
 split
 ·rename_i e h
  split
  ·rename_i hg
   rw [Q7] at hg
   unfold C4 at h
   split at h
   ·split at h
    ·split at h
     ·rename_i e1;subst e1
      cases h
      exact uD (NH O.room.units) NG (O.no _ hg.2) Ub (fK hr _ rfl) (O.gl hg.1).1 (by decide) (O.gl hg.1).2
     ·cases h
    ·cases h
   ·cases h
  ·exact bJ
 split
 ·rename_i e h
  split
  ·rename_i hg
   rw [Q7] at hg
   unfold wM at h
   split at h
   ·split at h
    ·split at h
     ·rename_i e1;subst e1
      cases h
      exact uD (MY O.calm) NP (O.no _ hg.2) Ub (fK hr _ rfl) (O.gl hg.1).1 (by decide) (O.gl hg.1).2
     ·split at h
      ·cases h
      ·cases h
    ·cases h
   ·cases h
  ·exact bJ
 ·rename_i e h
  split
  ·rename_i hg
   rw [Q7] at hg
   unfold wM at h
   split at h
   ·split at h
    ·split at h
     ·cases h
     ·split at h
      ·rename_i e1;subst e1
       cases h
       exact AY Nj NQ (O.no _ hg.2) Vj (fK hr _ rfl) (O.gl hg.1).1 (by decide) (O.gl hg.1).2
      ·cases h
    ·cases h
   ·cases h
  ·exact bJ
 exact N2 O hr _ _ _
theorem rG {S:Sig}{F:Str->MF}{k:Nat}{rE:Cs->Q1->ME}{rT:Cs->Q1->MT}(hE:∀ c X,Okx S F k c X->∀ e,QE X e (rE c e))(hT:∀ c X,Okx S F k c X->∀ e,QT X e (rT c e))(c:Cs)(X:Cx)(O:Okx S F k c X)
  (elt tg iter:Q1)(ifs:List Q1)(scope:Uo)(pos:Ta){mi:MI}(hi:PI X tg iter (iG X.K mi)):QE X (.ListComp elt [⟨tg,iter,ifs,0⟩] scope pos) (gO mi rE rT c elt tg iter ifs scope):=by
 unfold gO
 split
 ·rename_i xs hx
  split
  ·rename_i h
   rw [Q7] at h
   refine ⟨fun a2j s σ H Q I q=>?_⟩
   exact Kw ((rD O h.1).1.ok I.ok) O.calm hi (fun d μ z=>(rF O hx h.1 [] 0 s H []).2 d μ z) (fun C s₀ H₀ fp=>(rF O hx h.1 _ C s₀ H₀ fp).1) (fun C s₀ H₀ fp=>(Dr (hT _ _ (O.comp h.1)) _).h) (fun C s₀ H₀ fp=>(hE _ _ (O.comp h.1) _).h) (Du h.2) a2j s σ H Q I q
  ·exact bJ
 ·exact bJ
theorem N7 {S:Sig}{F:Str->MF}{k:Nat}{rE:Cs->Q1->ME}{rT:Cs->Q1->MT}(hE:∀ c X,Okx S F k c X->∀ e,QE X e (rE c e))(hT:∀ c X,Okx S F k c X->∀ e,QT X e (rT c e))(c:Cs)(X:Cx)(O:Okx S F k c X)
  (elt tg iter:Q1)(ifs:List Q1)(scope:Uo)(pos:Ta):QE X (.ListComp elt [⟨tg,iter,ifs,0⟩] scope pos) (w8 S rE rT c elt tg iter ifs scope):=by
 unfold w8
 split
 ·exact MQ (rG hE hT c X O elt tg iter ifs scope pos ((vX (hE c X O iter)).h tg)) (rG hE hT c X O elt tg iter ifs scope pos (mY O (hE c X O) tg iter))
 exact rG hE hT c X O elt tg iter ifs scope pos (mY O (hE c X O) tg iter)
theorem N8 {X:Cx}{pos:Ta}{keys:List (Option Q1)}{values:List Q1}{prs:List (ME×ME)}(h:QP X pos keys values prs)(h0:(!keys.isEmpty)=true)(h15:keys.length<=15):QE X (.Dict keys values pos) (kK prs):=by
 cases keys with
 | nil=>exact absurd h0 (by simp)
 | cons kk ks=>exact JY h h15
theorem N9 {S:Sig}{F:Str->MF}{k:Nat}{c:Cs}{X:Cx}(O:Okx S F k c X){a b:Q1}{ma mb:ME}(ha:QE X a ma)(hb:QE X b mb)(op:U9)(pos:Ta):QE X (.Compare a [op] [b] pos) (mX op ma mb):=by
 unfold mX
 split
 ·exact Nm O.room ha hb
 ·exact Nn O.room ha hb
 ·exact bJ
theorem Oa {S:Sig}{F:Str->MF}{k:Nat}{c:Cs}{X:Cx}(O:Okx S F k c X){a b:Q1}{ma mb:ME}(ha:QE X a ma)(hb:QE X b mb)(op:U9)(pos:Ta):QT X (.Compare a [op] [b] pos) (a8 (mX op ma mb)):=by
 unfold mX
 split
 ·exact Np O.room ha hb
 ·exact Nq O.room ha hb
 ·exact ⟨fun a2j s σ H Q I q=>by
   obtain ⟨π,ρ,μ,b,μ',R,E,hm,k⟩:=q
   cases hm⟩
section
variable {S:Sig}{F:Str->MF}{k:Nat}{c:Cs}{X:Cx}{r:Q1->ME}
theorem Ob (v:Const)(n:Nat)(p:Ta):QE X (.Constant v n p) (Df v):=by
 cases v<;>first|exact Jo|exact Jp|exact Jq|exact Jr|exact bJ
theorem Oc (hr:∀ e,QE X e (r e))(op:UnaryOp)(a:Q1)(p:Ta):QE X (.UnaryOp op a p) (Dg (r a) op):=by
 cases op<;>first|exact Jy (hr _)|exact Jz (hr _)|exact bJ
theorem Od (O:Okx S F k c X)(hr:∀ e,QE X e (r e))(a:Q1)(ops:List U9)(bs:List Q1)(p:Ta):QE X (.Compare a ops bs p) (w9 S r a ops bs):=by
 unfold w9
 split
 ·split
  ·exact N9 O (hr _) (hr _) _ _
  ·exact NZ O (hr _) (hr _) _ _
 ·split
  ·rename_i h1 h2
   exact Lx h1 h2 (hr _) (hr _) (hr _)
  ·exact bJ
 ·exact bJ
theorem Oe (hr:∀ e,QE X e (r e))(ks:List (Option Q1))(vs:List Q1)(p:Ta):QE X (.Dict ks vs p) (xA r ks vs):=by
 unfold xA
 split
 ·rename_i prs h
  split
  ·rename_i h2
   rw [Q7] at h2
   exact N8 (Dm hr _ _ _ _ h) h2.1 (of_decide_eq_true h2.2)
  ·exact bJ
 ·exact bJ
theorem Of (O:Okx S F k c X)(hr:∀ e,QE X e (r e))(ks:List (Option Q1))(vs:List Q1)(p:Ta):QE X (.Dict ks vs p) (xB r ks vs):=by
 unfold xB
 try split
 ·exact L8
 ·exact Oe hr _ _ _
theorem Og (O:Okx S F k c X)(hr:∀ e,QE X e (r e))(a b:Q1)(p:Ta):QE X (.Subscript a b p) (xC S r c a b):=by
 unfold xC
 split
 ·exact JT (hr _) (Dp hr _) (Dp hr _)
 ·split
  ·rename_i h
   ·exact Ml O.room (hr _) (hr _) h
  ·exact bJ
theorem xI (hr:∀ e,QE X e (r e))(e:Q1):QT X e (oN r e):=by
 unfold oN
 split
 ·rename_i h;exact KW (hr _) h
 ·exact uI
theorem Oh (O:Okx S F k c X)(hr:∀ e,QE X e (r e))(a:Q1)(ops:List U9)(bs:List Q1)(p:Ta):QT X (.Compare a ops bs p) (xH S r a ops bs p):=by
 unfold xH
 split
 ·split
  ·exact Oa O (hr _) (hr _) _ _
  ·exact N0 O (hr _) (hr _) _ _
 ·split
  ·rename_i h1 h2
   exact Ly h1 h2 (hr _) (hr _) (hr _)
  ·exact uI
 ·exact xI hr _
theorem Oi (hr:∀ e,QE X e (r e))(es:List Q1)(n:Nat)(p:Ta):QE X (.Tuple es n p) (xD r es):=by
 unfold xD
 split
 ·rename_i h;exact JN (fK hr _ h)
 ·exact bJ
theorem Oj (hr:∀ e,QE X e (r e))(es:List Q1)(p:Ta):QE X (.List es p) (xE r es):=by
 unfold xE
 split
 ·rename_i h;exact JO (fK hr _ h)
 ·exact bJ
theorem Ol (O:Okx S F k c X)(hr:∀ e,QE X e (r e))(f:Q1)(args:List Q1)(kws:List UY)(p:Ta):QE X (.Call f args kws p) (xF S F r c f args p kws):=by
 unfold xF
 split
 ·exact N6 O hr _ _ _
 ·exact bJ
end
theorem Dw {S:Sig}{F:Str->MF}{k:Nat}{rE:Cs->Q1->ME}{rT:Cs->Q1->MT}(hE:∀ c X,Okx S F k c X->∀ e,QE X e (rE c e))(hT:∀ c X,Okx S F k c X->∀ e,QT X e (rT c e))(c:Cs)(X:Cx)(O:Okx S F k c X) :
  (∀ e,QE X e (Dh S F rE rT c e))/\∀ e,QT X e (Di S rE rT c e):=by
 have hr:=hE c X O
 have ht:=hT c X O
 constructor
 ·intro e
  cases e with
  | Name x p=>exact NX O _ _
  | Constant v n p=>exact Ob v n p
  | BinOp a op b p=>exact NY (hr _) (hr _) _ _
  | UnaryOp op a p=>exact Oc hr op a p
  | Compare a ops bs p=>exact Od O hr a ops bs p
  | BoolOp op vs p=>exact Dj hr _ _ _
  | IfExp t a b p=>exact JK (ht _) (hr _) (hr _)
  | Tuple es n p=>exact Oi hr es n p
  | List es p=>exact Oj hr es p
  | Dict ks vs p=>exact Of O hr ks vs p
  | Subscript a b p=>exact Og O hr a b p
  | Call f args kws cpos=>exact Ol O hr f args kws cpos
  | ListComp elt gs scope p=>
   show QE X _ (xG S rE rT c elt scope gs)
   unfold xG
   split
   ·exact N7 hE hT c X O _ _ _ _ _ _
   ·exact bJ
  | _=>exact bJ
 ·intro e
  cases e with
  | BoolOp op vs p=>exact Kb (Dk ht _ _ _)
  | UnaryOp op a p=>
   cases op
   case Not=>exact J6 (ht _)
   all_goals exact xI hr _
  | Compare a ops bs p=>exact Oh O hr a ops bs p
  | _=>exact xI hr _
theorem xJ {S:Sig}{F:Str->MF}{k:Nat}:∀ (n:Nat),(∀ c X,Okx S F k c X->∀ e,QE X e ((tr S F n).1 c e))/\∀ c X,Okx S F k c X->∀ e,QT X e ((tr S F n).2 c e)
 | 0=>⟨fun c X O e=>bJ,fun c X O e=>uI⟩
 | n+1=>by
  have ih:=xJ (S:=S) (F:=F) (k:=k) n
  exact ⟨fun c X O e=>(Dw ih.1 ih.2 c X O).1 e,fun c X O e=>(Dw ih.1 ih.2 c X O).2 e⟩
end L3
namespace L3
open PySem L2
noncomputable def rH:MG:=fun _ _ _=>none
noncomputable def oO (c:Cs):List Q1->Option (List Nat)
 | []=>some []
 | .Name x _::r=>if k7 c x then (jI x c.N).bind fun i=>(oO c r).map (i::·) else none
 | _=>none
noncomputable def oP (c:Cs):Q1->MG
 | .Name x _=>if k7 c x then (match jI x c.N with|some i=>c4 i|none=>rH) else rH
 | .Tuple es _ _=>match oO c es with|some is=>lU is|none=>rH
 | _=>rH
noncomputable def jL (r:Stmt->MS):List Stmt->MS
 | []=>b9
 | [s]=>r s
 | s::t=>aV (r s) (jL r t)
noncomputable def xK (S:Sig)(E:Cs->Q1->ME)(T:Cs->Q1->MT)(c:Cs)(i:Nat):Q1->MS
 | .ListComp elt [⟨tg,iter,ifs,0⟩] scope _=>match wN S c tg iter with
  | some j=>fJ j (bK i (gO (eW (E c iter)) E T c elt tg iter ifs scope)) (bK i (gO (jK S (E c) c tg iter) E T c elt tg iter ifs scope))
  | none=>bK i (gO (jK S (E c) c tg iter) E T c elt tg iter ifs scope)
 | _=>dN
noncomputable def xM (S:Sig)(E:Cs->Q1->ME)(T:Cs->Q1->MT)(c:Cs)(tg e:Q1):MS:=match tg with
 | .Name y _=>if k7 c y then (match jI y c.N with
   | some i=>if fX e then bK i (E c e) else xK S E T c i e
   | none=>dN) else dN
 | .Tuple es _ _=>if uG e then (match oO c es with|some is=>t9 (E c e) (lU is)|none=>dN)
   else dN
 | .Subscript o i _=>if fX e&&kL i then eC (E c o) (E c i) (E c e) else dN
 | _=>dN
noncomputable def xN (S:Sig)(E:Cs->Q1->ME)(T:Cs->Q1->MT)(c:Cs)(r:Stmt->MS):Stmt->MS
 | .Return (some e) _=>bF (E c e)
 | .Return none _=>bF (mC .non)
 | .If t a b _=>cA (T c t) (jL r a) (jL r b)
 | .Assign [tg] e _=>xM S E T c tg e
 | .Expr e _=>if fX e then lK (E c e) else dN
 | .For tg iter body [] _=>if d9 iter then
  (match wN S c tg iter with
  | some j=>fJ j (cT (eW (E c iter)) (oP c tg) (jL r body)) (cT (jK S (E c) c tg iter) (oP c tg) (jL r body))
  | none=>cT (jK S (E c) c tg iter) (oP c tg) (jL r body))
  else dN
 | .Pass _=>b9
 | _=>dN
noncomputable def xO (S:Sig)(F:Str->MF)(m:Nat)(c:Cs):Nat->Stmt->MS
 | 0=>fun _=>dN
 | n+1=>xN S (tr S F m).1 (tr S F m).2 c (xO S F m c n)
section
variable {S:Sig}{F:Str->MF}{k:Nat}{c:Cs}{X:Cx}
theorem Okx.own (O:Okx S F k c X){x:Str}(h:k7 c x=true):L2.Loc X.env.scope x:=by
 unfold k7 at h
 rw [UZ] at h
 unfold L2.Loc
 rw [O.ks]
 exact h.imp of_decide_eq_true of_decide_eq_true
theorem xP (O:Okx S F k c X)(hf:∀ x,X.fn x=true):∀ (es:List Q1)(is:List Nat),oO c es=some is->QGs X es is
 | [],is,h=>by cases h;exact AZ
 | e::es,is,h=>by
  cases e with
  | Name x p=>
   unfold oO at h
   split at h
   ·rename_i ho
    obtain ⟨i,h1,h⟩:=QF.mp h
    obtain ⟨js,h2,h⟩:=QR.mp h
    subst h
    exact A0 i O.nd (xP O hf es js h2) (by rw [O.N];exact oJ h1) (O.own ho) (.inl (hf x))
   ·cases h
  | _=>cases h
theorem xQ (O:Okx S F k c X)(hf:∀ x,X.fn x=true)(e:Q1):QG X e (oP c e):=by
 unfold oP
 split
 ·split
  ·rename_i ho
   split
   ·rename_i i hi
    exact Km i O.nd (by rw [O.N];exact oJ hi) (O.own ho) (.inl (hf _))
   ·exact p8 fun _ _ _=>rfl
  ·exact p8 fun _ _ _=>rfl
 ·split
  ·rename_i is hi
   exact uF (xP O hf _ is hi) O.calm
  ·exact p8 fun _ _ _=>rfl
 ·exact p8 fun _ _ _=>rfl
theorem k8 {r:Stmt->MS}(hr:∀ s,QS X s (r s)):∀ ss:List Stmt,QB X ss (jL r ss)
 | []=>Ke
 | [s]=>Kg (hr s)
 | s::t::ts=>Kf (hr s) (k8 hr (t::ts))
theorem Om {elt tg iter:Q1}{ifs:List Q1}{scope:Uo}{pos py:Ta}{y:Str}{n:Nat}{env:W3} :
  ∃ b:Bool,Vo (.ListComp elt [⟨tg,iter,ifs,0⟩] scope pos) (some (.Name y py)) n env=pure b/\(b=true->env.kindOf y=some .local):=by
 refine ⟨env.blockKind == .function&&env.kindOf y == some .local&&py.line == pos.line&&!(scope.names.any fun (n,k)=>n == y&&(k == .local||k == .cell)),rfl,fun h=>?_⟩
 simp only [Q7,beq_iff_eq] at h
 exact h.1.1.2
theorem xR (O:Okx S F k c X)(hf:∀ x,X.fn x=true){E:Cs->Q1->ME}{T:Cs->Q1->MT}(hE:∀ c X,Okx S F k c X->∀ e,QE X e (E c e))(hT:∀ c X,Okx S F k c X->∀ e,QT X e (T c e))
  {i:Nat}{y:Str}{py spos:Ta}(hi:X.N[i]? = some y)(hy:k7 c y=true)(elt tg iter:Q1)(ifs:List Q1)(scope:Uo)(pos:Ta){mi:MI}(hmi:PI X tg iter (iG X.K mi)):QS X (.Assign [.Name y py] (.ListComp elt [⟨tg,iter,ifs,0⟩] scope pos) spos) (bK i (gO mi E T c elt tg iter ifs scope)):=by
  obtain ⟨b,hb1,hb2⟩:=Om (elt:=elt) (tg:=tg) (iter:=iter) (ifs:=ifs) (scope:=scope) (pos:=pos) (py:=py) (y:=y) (n:=spos.line) (env:=X.env)
  cases b with
  | false=>exact ⟨Aw O.nd hi (O.own hy) (rG hE hT c X O elt tg iter ifs scope pos hmi).h hb1 (.inl (hf y))⟩
  | true=>
   unfold gO
   split
   ·rename_i xs hx
    split
    ·rename_i h
     rw [Q7] at h
     refine ⟨fun a2j s σ H D I q=>?_⟩
     exact Ky ((rD O h.1).1.ok I.ok) O.nd O.calm hmi (fun d μ z=>(rF O hx h.1 [] 0 s H []).2 d μ z) (fun C s₀ H₀ fp=>(rF O hx h.1 _ C s₀ H₀ fp).1) (fun C s₀ H₀ fp=>(Dr (hT _ _ (O.comp h.1)) _).h) (fun C s₀ H₀ fp=>(hE _ _ (O.comp h.1) _).h) (Du h.2) hi (hb2 rfl) hb1 a2j s σ H D I q
    ·exact B4
   ·exact B4
theorem Oo (O:Okx S F k c X)(hf:∀ x,X.fn x=true){E:Cs->Q1->ME}{T:Cs->Q1->MT}(hE:∀ c X,Okx S F k c X->∀ e,QE X e (E c e))(hT:∀ c X,Okx S F k c X->∀ e,QT X e (T c e))
  {i:Nat}{y:Str}{py spos:Ta}(hi:X.N[i]? = some y)(hy:k7 c y=true)(e:Q1):QS X (.Assign [.Name y py] e spos) (xK S E T c i e):=by
 unfold xK
 split
 ·split
  ·exact CH (xR O hf hE hT hi hy _ _ _ _ _ _ ((vX (hE c X O _)).h _)) (xR O hf hE hT hi hy _ _ _ _ _ _ (mY O (hE c X O) _ _))
  ·exact xR O hf hE hT hi hy _ _ _ _ _ _ (mY O (hE c X O) _ _)
 ·exact fF
theorem Oq (O:Okx S F k c X)(hf:∀ x,X.fn x=true){E:Cs->Q1->ME}{T:Cs->Q1->MT}(hE:∀ c X,Okx S F k c X->∀ e,QE X e (E c e))(hT:∀ c X,Okx S F k c X->∀ e,QT X e (T c e))(tg e:Q1)(pos:Ta) :
  QS X (.Assign [tg] e pos) (xM S E T c tg e):=by
 unfold xM
 split
 ·split
  ·rename_i ho
   split
   ·rename_i i hi
    have hi':=oJ hi
    rw [<- O.N] at hi'
    split
    ·rename_i hn
     exact Kl i O.nd (hE c X O e) hn hi' (O.own ho) (.inl (hf _))
    ·exact Oo O hf hE hT hi' ho e
   ·exact fF
  ·exact fF
 ·split
  ·rename_i hn
   split
   ·rename_i is hi
    exact Ko (hE c X O e) (uF (xP O hf _ is hi) O.calm) hn
   ·exact fF
  ·exact fF
 ·split
  ·rename_i h
   rw [Q7] at h
   exact Mq O.room (hE c X O _) (hE c X O _) (hE c X O _) h.1
  ·exact fF
 ·exact fF
theorem Ot (O:Okx S F k c X)(hf:∀ x,X.fn x=true){E:Cs->Q1->ME}{T:Cs->Q1->MT}(hE:∀ c X,Okx S F k c X->∀ e,QE X e (E c e))(hT:∀ c X,Okx S F k c X->∀ e,QT X e (T c e)){r:Stmt->MS}(hr:∀ s,QS X s (r s))(st:Stmt) :
  QS X st (xN S E T c r st):=by
 unfold xN
 split
 ·exact Ki (hE c X O _)
 ·exact KZ
 ·exact Kk (hT c X O _) (k8 hr _) (k8 hr _)
 ·exact Oq O hf hE hT _ _ _
 ·split
  ·rename_i h;exact Kj (hE c X O _) h
  ·exact fF
 ·split
  ·rename_i h
   split
   ·exact CH (vE ((vX (hE c X O _)).h _) (xQ O hf _) (k8 hr _) O.never O.calm h) (vE (mY O (hE c X O) _ _) (xQ O hf _) (k8 hr _) O.never O.calm h)
   exact vE (mY O (hE c X O) _ _) (xQ O hf _) (k8 hr _) O.never O.calm h
  ·exact fF
 ·exact Kh
 ·exact fF
theorem Dx (O:Okx S F k c X)(hf:∀ x,X.fn x=true)(m:Nat):∀ (n:Nat)(st:Stmt),QS X st (xO S F m c n st)
 | 0,_=>fF
 | n+1,st=>Ot O hf (xJ m).1 (xJ m).2 (Dx O hf m n) st
end
noncomputable def cP (st:Stmt):List Str:=(g8 st).args.map (·.arg)
noncomputable def jM (st:Stmt):List Str:=cP st++(bU st).names.filterMap fun y=>if (y.2 == NameKind.local||y.2 == TY)&&!(cP st).contains y.1 then some y.1 else none
noncomputable def k9 (st:Stmt):Bool:=
 decide ((bU st).kind=.function)&&!(bU st).isCoroutine&&!(bU st).isGenerator&&decide (jM st).Nodup &&
 ((cP st).all fun x=>decide ((bU st).names.lookup x=some .local)||decide ((bU st).names.lookup x=some .cell))&&((bU st).names.all fun y=>decide (y.2≠.free))
theorem Ou {st:Stmt}(h:k9 st=true):FnScope (jM st) (cP st) (bU st):=by
 unfold k9 at h
 simp only [Q7,decide_eq_true_eq,V4,Vt,UZ] at h
 obtain ⟨⟨⟨⟨⟨h1,h2⟩,h3⟩,h4⟩,h5⟩,h6⟩:=h
 exact ⟨h1,h2,h3,h4,by unfold jM;simp,h5,h6⟩
noncomputable def Dy:Nat:=40
noncomputable def Dz:Nat:=40
noncomputable def xS (S:Sig)(F:Str->MF)(st:Stmt):MF:=tN (jM st).length (jL (xO S F Dy ⟨jM st,(bU st).names⟩ Dz) (eE st))
noncomputable def gP (S:Sig)(ds:List (Str×Stmt)):Nat->Str->MF
 | 0,_=>fun _ _=>none
 | k+1,x=>match ds.lookup x with
  | none=>fun _ _=>none
  | some st=>xS S (gP S ds k) st
structure DefAt (K:QH)(mg:Str->Option QL)(x:Str)(st:Stmt):Prop where
 ex:∃ f fd,Fun K x x st f fd/\mg x=some (.ref f)/\Binds K fd (cP st) []
structure TxtOk (P:Rk)(w:RG)(K:QH)(mg:Str->Option QL)(S:Sig)(ds:List (Str×Stmt)):Prop where
 fns:∀ x n,S.fn.lookup x=some n->∃ st,ds.lookup x=some st/\(cP st).length=n
 defs:∀ x st,ds.lookup x=some st->DefAt K mg x st/\k9 st=true
 con:∀ x d,S.con.lookup x=some d->∃ v u,mg x=some u/\RelV v u/\∀ π n H,IsD K π n H v d
 tab:∀ x kvs,S.tab.lookup x=some kvs->∃ (p:Addr)(vs:List (aD×V))(ws:List (aD×QL)),mg x=some (.ref p)/\(∀ h:Si,K.In h->h.DictOf (cK P w) p ws)/\KV vs ws/\∀ π n H,IsKs K π n H vs kvs
 no:∀ x,S.no.contains x=true->mg x=none
theorem DA {P:Rk}{w:RG}{K:QH}{mg:Str->Option QL}{base:Si}{S:Sig}{ds:List (Str×Stmt)}(T:TxtOk P w K mg S ds):∀ (k:Nat)(x:Str)(st:Stmt)(f:Addr)(fd:T3),ds.lookup x=some st->Fun K x x st f fd->
  FnOk P w K mg base d5 k f fd (cP st) (fS K (cP st).length (gP S ds k x))
 | 0,x,st,f,fd,hl,hF=>⟨fun vs H Q E h=>h.1,fun A outer s H args us vs Q E hr he hb hv hs=>by
   obtain ⟨_,π,ds',μ,d,μ',R,i,hm,kc⟩:=hs
   cases hm⟩
 | k+1,x,st,f,fd,hl,hF=>by
  have ih:=DA (base:=base) T k
  have e:gP S ds (k+1) x=xS S (gP S ds k) st:=by
   show (match ds.lookup x with|none=>fun _ _=>none|some st=>xS S (gP S ds k) st)=_
   rw [hl]
  rw [e]
  have Sc:=Ou (T.defs x st hl).2
  refine Kp hF Sc (by unfold jM;simp) rfl fun cdv A outer s H E hr=>?_
  have O:Okx S (gP S ds k) k ⟨jM st,(bU st).names⟩ (gY d5 P w K mg base (jM st) x (bU st) f cdv A outer s H E).nox:=by
   refine ⟨rfl,Sc.nd,rfl,Sc.kind,rfl,hr,YT,fun y n hy=>?_,T.con,fun y kvs q=>⟨T.tab y kvs q⟩,T.no⟩
   obtain ⟨st',h1,h2⟩:=T.fns y n hy
   obtain ⟨f',fd',F',m',b'⟩:=(T.defs y st' h1).1.ex
   subst h2
   exact ⟨f',fd',cP st',ih y st' f' fd' h1 F',m',F'.kp,b'⟩
  exact k8 (Dx O (fun _=>rfl) Dy Dz) (eE st)
theorem DB:∀ {ns:List Int}{b:Nat},VL (ns.map VD)<=b->∀ n∈ns,RI n<=b
 | [],_,_,n,hn=>nomatch hn
 | m::ns,b,h,n,hn=>by
  have e:VL ((m::ns).map VD)=Xl (.int m)+1+VL (ns.map VD):=rfl
  have e2:Xl (.int m)=RI m:=rfl
  rw [e,e2] at h
  rcases RD.mp hn with rfl|hn
  ·omega
  ·exact DB (b:=b) (by omega) n hn
section
open PySem PySem.W PySem.Calls PyProof.Rows
theorem Ov {l:Zk}{n:Nat}{q:Rk}{loose:List Str}{XP:(Str->Option QL)->Si->Prop}{YP:RG->Si->Prop}{d:DefRec}
  (hn:l.most=some n)(hdf:d.params.defaults=[])
  (call:∀ (w:RG)(s₀ s₁:QM)(mg mb:Str->Option QL)(fa:Addr)(o:Td)(pm cd doc:QL)(a:Addr)(vs:List QL)(ns:List Int),
   Ground q loose [] XP w s₀ mg mb s₁.heap->YP w s₁.heap->
   s₁.heap.get? fa=some o->o.data=.func (docDef d.name d.params d.body d.scope pm cd doc)->s₁.heap.CodeRec cd d.name->mg d.name=some (.ref fa)->
   s₁.heap.get? a=some { cls:=.type "list",data:=.seq vs.toArray }->Uz vs ns->ns.length<=n->(∀ m∈ns,RI m<=2 ^ 20)->s₁.gens = #[]->
   Vz (Rl l.prog w) XH (.call (.ref fa) ⟨[.ref a],[]⟩) (fun r s'=>r=.ok (.ret (.bool true))/\OldK s₁.heap s'.heap/\s'.os=s₁.os/\W5 s'.gens) s₁) :
  ZQ q loose XP YP l.row.toRowW d [] (fun f vs=>a1e f vs):=by
 intro w s₀ s₁ mg mb G Y fa o pm cd doc dV kV ho hd hcd hD hmg hg args vals as hpre hlay hrd hwl hlo
 obtain rfl:dV=.none:=Dflts.none hD hdf
 obtain rfl:kV=.none:=Dflts.noKw hD
 obtain ⟨a,vs,ns,rfl,rfl,hobj,hints,hlen⟩:=Att.script_of hn hpre hwl
 have hb:∀ m∈ns,RI m<=2 ^ 20:=by
  have h1:Xc (.list (ns.map VD))=true:=by
   have:=hlay
   unfold a1f at this
   simpa using this
  unfold Xc at h1
  rw [Q7] at h1
  exact DB (of_decide_eq_true h1.2)
 refine enter_call (XG (call w s₀ s₁ mg mb fa o pm cd doc a vs ns G Y ho (fd_plain hd) hcd hmg hobj hints hlen hb hg) fun r s' hq=>?_)
 obtain ⟨rfl,h2,h3,h4⟩:=hq
 exact ⟨.inl ⟨.bool true,.bool true,[],rfl,fun _=>rfl,.bool true,Att.post_true l _,fun _=>⟨Wj,fun _ hm=>(nomatch hm)⟩⟩,h2,h3,h4⟩
end
theorem walkM {l:Zk}{q:Rk}{loose:List Str}{XP:(Str->Option QL)->Si->Prop}{YP:RG->Si->Prop}{d:DefRec}{K:Params->QH}{S:Sig}{ds:List (Str×Stmt)}{k:Nat}{st:Stmt}{x:Str}(hn:l.most=some 63)(hdf:d.params.defaults=[])
  (hr:Room k XH)(hY:∀ (w:RG)(h:Si),YP w h->(K w.params).In h)(hl:ds.lookup d.name=some st)(hx:cP st=[x])
  (T:∀ (w:RG)(mg:Str->Option QL)(h:Si),(K w.params).In h->h.Ns S6 mg->TxtOk l.prog w (K w.params) mg S ds/\∃ f fd,Fun (K w.params) d.name d.name st f fd/\mg d.name=some (.ref f)/\∀ (s:QM)(u:QL),XS s fd ⟨[u],[]⟩ [(x,u)])
  (M:∀ ns:List Int,ns.length<=63->(∀ m∈ns,RI m<=2 ^ 20)->∃ μ',gP S ds k d.name [.rol (ns.map D.int)] []=some (.bl true,μ')) :
  ZQ q loose XP YP l.row.toRowW d [] (fun f vs=>a1e f vs):=by
 refine Ov hn hdf fun w s₀ s₁ mg mb fa o pm cd doc a vs ns G Y ho hd hcd hmg hobj hints hlen hbd hg=>?_
 have KX:=hY w _ Y
 obtain ⟨hT,f,fd,hF,hm,hb⟩:=T w mg _ KX G.T.g
 rw [hmg] at hm
 cases hm
 refine L2.law_call (CX:=d5) (sp:=fS (K w.params) 1 (gP S ds k d.name)) KX G.T.g G.T.b G.T.builtins G.T.nolimit hg hobj hints (SR hlen (by decide)) hr (fun base hb1 hb2=>?_) hb (fun H hO hS=>?_) fun H e s' z=>z
 ·have:=DA (base:=base) hT k d.name st fa fd hl hF
  rw [hx] at this
  exact this
 ·refine ⟨rfl,fun _=>0,[.rol (ns.map D.int)],[],.bl true,?_⟩
  obtain ⟨μ',hM⟩:=M ns hlen hbd
  have hro:RoL (K w.params) H a (ns.map V.int):=by
   rcases hS with (h|h)|h
   ·rcases hO a with z|⟨o,xs,z⟩
    ·rw [z] at h;cases h
    ·rw [z] at h;cases h
   ·exact .inl h
   ·exact .inr h
  refine ⟨μ',⟨fun i j hi=>absurd hi (VM _),fun i hi=>absurd hi (VM _),fun i xs h=>(by cases h),fun i xs h=>(by cases h),fun i xs h=>(by cases h)
   ,fun i xs h=>(by cases h)
   ,fun i xs h=>(by cases h)
   ⟩,.cons (.rol hro ?_) .nil,hM,fun π' v H' _ _ hv=>?_⟩
  ·have:∀ ns:List Int,IsDs (K w.params) (fun _=>0) ([]:Hm).length H (ns.map V.int) (ns.map D.int):=fun ns=>by
    induction ns with
    | nil=>exact .nil
    | cons n r ih=>exact .cons (.int n) ih
   exact this ns
  ·cases hv
   rfl
end L3
namespace L3
open PySem L2
theorem rJ {β:Type}:∀ {l:List (Str×β)}{x:Str}{b:β},l.lookup x=some b->(x,b)∈l:=fun h=>Sy h
theorem Ox {S:Sig}{ds:List (Str×Stmt)}(h:(S.fn.all fun p=>match ds.lookup p.1 with|some st=>decide ((cP st).length=p.2)|none=>false)=true):∀ x n,S.fn.lookup x=some n->∃ st,ds.lookup x=some st/\(cP st).length=n:=by
 intro x n e
 have:=Vt.mp h (x,n) (rJ e)
 dsimp only at this
 split at this
 ·rename_i st hs
  exact ⟨st,hs,of_decide_eq_true this⟩
 ·cases this
theorem Oy {K:QH}{mg:Str->Option QL}{ds:List (Str×Stmt)}(h:∀ p∈ds,DefAt K mg p.1 p.2/\k9 p.2=true):∀ x st,ds.lookup x=some st->DefAt K mg x st/\k9 st=true:=fun x st e=>h (x,st) (rJ e)
theorem Oz {K:QH}{mg:Str->Option QL}{cs:List (Str×D)}(h:∀ p∈cs,∃ v u,mg p.1=some u/\RelV v u/\∀ π n H,IsD K π n H v p.2):∀ x d,cs.lookup x=some d->∃ v u,mg x=some u/\RelV v u/\∀ π n H,IsD K π n H v d:=fun x d e=>h (x,d) (rJ e)
inductive EntsOf (w:RG):List Sj->List (aD×QL)->Prop where
 | nil:EntsOf w [] []
 | cons {e:Sj}{k:aD}{v:QL}{es:List Sj}{kvs:List (aD×QL)}(h:jV k e.key=true)(hh:e.hash=yJ w k)(hv:e.val=v)(t:EntsOf w es kvs):EntsOf w (e::es) ((k,v)::kvs)
theorem EntsOf.keys {P:Rk}{w:RG}{es:List Sj}{kvs:List (aD×QL)}(x:EntsOf w es kvs):∀ e∈es,∃ k,(cK P w).is k e.key=true/\e.hash=(cK P w).hash k:=by
 induction x with
 | nil=>intro e he;exact nomatch he
 | @cons e k v es kvs h hh hv _ ih=>
  intro e' he
  rcases RD.mp he with rfl|he
  ·exact ⟨k,h,hh⟩
  ·exact ih e' he
theorem OA {mg:Str->Option QL}{ns:List Str}(h:∀ x∈ns,mg x=none):∀ x,ns.contains x=true->mg x=none:=fun x e=>h x (by simpa using e)
noncomputable def rK:Nat->(Nat->QL)->List QL
 | 0,_=>[]
 | n+1,u=>u 0::rK n fun i=>u (i+1)
theorem DC:∀ us:List QL,∃ u,us=rK us.length u
 | []=>⟨fun _=>.none,rfl⟩
 | v::us=>let ⟨u,hu⟩:=DC us;⟨fun i=>match i with|0=>v|i+1=>u i,congrArg (v::·) hu⟩
noncomputable abbrev DD:Type:=QL->QL->QL->Option Addr->QL->QL->(Nat->QL)->Zy (List (Str×QL))
noncomputable def OB (x:Str)(st:Stmt)(m:QL)(c:Addr):Td:=⟨Tu "function",none,.func (TX x x (g8 st) (eE st) (bU st) .none .none .none m none (.ref c) .none),#[]⟩
noncomputable def DE (K:QH)(d:(Str×Stmt)×QL×Addr×Addr):Option (Option QL)×Option Td×Bool×Bool×Bool×DD:=(Wa K S6 d.1.1,K.lookup d.2.2.2,Wh K (.ref d.2.2.1) d.1.1,Te K (.ref d.2.2.2),k9 d.1.2,fun kV doc pm an cdv ct u=>YC (TX d.1.1 d.1.1 (g8 d.1.2) (eE d.1.2) (bU d.1.2) .none kV doc pm an cdv ct) ⟨rK (cP d.1.2).length u,[]⟩)
noncomputable def DF (d:(Str×Stmt)×QL×Addr×Addr):Option (Option QL)×Option Td×Bool×Bool×Bool×DD:=(some (some (.ref d.2.2.2)),some (OB d.1.1 d.1.2 d.2.1 d.2.2.1),true,true,true,fun _ _ _ _ _ _ u=>pure ((cP d.1.2).zip (rK (cP d.1.2).length u)))
noncomputable def rL (K:QH)(d:Str×Stmt):(Str×Stmt)×QL×Addr×Addr:=(d,match Wa K S6 d.1 with
 | some (some (.ref f))=>(match K.lookup f with
  | some ⟨_,_,.func fd,_⟩=>(match fd.code with
   | .ref c=>(fd.pyModule,c,f)
   | _=>(.none,0,0))
  | _=>(.none,0,0))
 | _=>(.none,0,0))
noncomputable def rM (K:QH)(ds:List (Str×Stmt)):Prop:=ds.map (fun d=>DE K (rL K d))=ds.map fun d=>DF (rL K d)
theorem DG {K:QH}{h:Si}{mg:Str->Option QL}(X:K.In h)(G:h.Ns S6 mg){ds:List (Str×Stmt)}(q:rM K ds):∀ p∈ds,(DefAt K mg p.1 p.2/\k9 p.2=true)/\∃ f fd,Fun K p.1 p.1 p.2 f fd/\mg p.1=some (.ref f)/\∀ us:List QL,us.length=(cP p.2).length->YC fd ⟨us,[]⟩=pure ((cP p.2).zip us):=by
 intro p0 hp
 have t:=ZL.mp q p0 hp
 have e:(rL K p0).1=p0:=rfl
 generalize rL K p0=d at t e
 obtain ⟨p,m,c,f⟩:=d
 cases e
 unfold DE DF at t
 obtain ⟨a,t⟩:=Wi t
 obtain ⟨l,t⟩:=Wi t
 obtain ⟨c,t⟩:=Wi t
 obtain ⟨k,t⟩:=Wi t
 obtain ⟨s,b⟩:=Wi t
 have F:=Hq (st:=p.2) l c k
 have D:=fun kV doc pm an cdv ct (us:List QL)(hl:us.length=(cP p.2).length)=>(by
  obtain ⟨u,hu⟩:=DC us
  rw [hl] at hu
  rw [hu]
  exact congrFun (congrFun (congrFun (congrFun (congrFun (congrFun (congrFun b kV) doc) pm) an) cdv) ct) u:YC (TX p.1 p.1 (g8 p.2) (eE p.2) (bU p.2) .none kV doc pm an cdv ct) ⟨us,[]⟩=pure ((cP p.2).zip us))
 exact ⟨⟨⟨_,_,F,XM X G a,F.binds D⟩,s⟩,_,_,F,XM X G a,D _ _ _ _ _ _⟩
theorem OC {K:QH}{h:Si}{mg:Str->Option QL}(X:K.In h)(G:h.Ns S6 mg){ds:List (Str×Stmt)}(q:rM K ds){x y:Str}{st:Stmt}(hl:ds.lookup x=some st)(hp:cP st=[y]):∃ f fd,Fun K x x st f fd/\mg x=some (.ref f)/\∀ (s:QM)(u:QL),XS s fd ⟨[u],[]⟩ [(y,u)]:=by
 obtain ⟨f,fd,F,m,b⟩:=(DG X G q (x,st) (rJ hl)).2
 dsimp only at b
 rw [hp] at b
 exact ⟨f,fd,F,m,fun s u=>.of_eq (b [u] rfl)⟩
theorem OD {K:QH}{h:Si}{mg:Str->Option QL}(X:K.In h)(G:h.Ns S6 mg){ns:List Str}(q:ns.map (Wa K S6)=ns.map fun _=>some none):∀ x∈ns,mg x=none:=fun x hx=>PySem.W.mg_none_of X G (ZL.mp q x hx)
noncomputable def oQ {α β:Type}(f:α->β->Bool):List α->List β->Bool
 | [],[]=>true
 | a::as,b::bs=>f a b&&oQ f as bs
 | _,_=>false
noncomputable def oR (K:QH):Nat->QL->D->Bool
 | 0,_,_=>false
 | k+1,u,d=>match d with
  | .non=>(match u with|.none=>true|_=>false)
  | .bl b=>(match u with|.bool c=>decide (b=c)|_=>false)
  | .int i=>(match u with|.int j _=>decide (i=j)|_=>false)
  | .str x=>(match u with|.str y _=>decide (x=y)|_=>false)
  | .tup ds=>(match u with
   | .ref p=>(match K.lookup p with
    | some ⟨.type t,none,.seq its _,_⟩=>decide (t = "tuple")&&decide (its.size<=1000)&&oQ (oR K k) its.toList ds
    | _=>false)
   | _=>false)
  | .rol ds=>(match u with
   | .ref p=>(match K.lookup p with
    | some ⟨.type t,none,.seq its _,_⟩=>decide (t = "list")&&decide (its.size<=1000)&&oQ (oR K k) its.toList ds
    | _=>false)
   | _=>false)
  | _=>false
theorem DH {K:QH}{f:QL->D->Bool}(h:∀ u d,f u d=true->∃ v,RelV v u/\∀ π n H,IsD K π n H v d):∀ us ds,oQ f us ds=true->∃ vs,Vals vs us/\∀ π n H,IsDs K π n H vs ds
 | [],[],_=>⟨[],.nil,fun _ _ _=>.nil⟩
 | u::us,d::ds,e=>by
  obtain ⟨a,b⟩:=UJ.mp e
  obtain ⟨v,r,q⟩:=h u d a
  obtain ⟨vs,rs,qs⟩:=DH h us ds b
  exact ⟨v::vs,.cons r rs,fun _ _ _=>.cons (q _ _ _) (qs _ _ _)⟩
 | [],_::_,e=>nomatch e
 | _::_,[],e=>nomatch e
theorem DI {K:QH}:∀ (k:Nat)(u:QL)(d:D),oR K k u d=true->∃ v,RelV v u/\∀ π n H,IsD K π n H v d
 | 0,_,_,e=>nomatch e
 | k+1,u,d,e=>by
  have seq:∀ {p:Addr}{ds:List D}{c:String},(match K.lookup p with|some ⟨.type t,none,.seq its _,_⟩=>decide (t=c)&&decide (its.size<=1000)&&oQ (oR K k) its.toList ds|_=>false)=true->∃ vs its n sl,K.lookup p=some ⟨.type c,none,.seq its n,sl⟩/\its.size<=Q6/\Vals vs its.toList/\∀ π n H,IsDs K π n H vs ds:=fun {p ds c} e=>by
   split at e
   ·rename_i t its n sl hk
    obtain ⟨e,q⟩:=UJ.mp e
    obtain ⟨a,b⟩:=UJ.mp e
    cases of_decide_eq_true a
    obtain ⟨vs,r,i⟩:=DH (DI k) _ _ q
    exact ⟨vs,its,n,sl,hk,SR (of_decide_eq_true b) (by decide),r,i⟩
   ·cases e
  cases d with
  | non=>cases u with
   | none=>exact ⟨.non,rfl,fun _ _ _=>.non⟩
   | _=>cases e
  | bl b=>cases u with
   | bool c=>cases of_decide_eq_true e;exact ⟨.bl b,rfl,fun _ _ _=>.bl _⟩
   | _=>cases e
  | int b=>cases u with
   | int c=>cases of_decide_eq_true e;exact ⟨.int b,⟨_,rfl⟩,fun _ _ _=>.int _⟩
   | _=>cases e
  | str b=>cases u with
   | str c=>cases of_decide_eq_true e;exact ⟨.str b,⟨_,rfl⟩,fun _ _ _=>.str _⟩
   | _=>cases e
  | tup ds=>cases u with
   | ref p=>
    obtain ⟨vs,its,n,sl,hk,hs,r,i⟩:=seq e
    exact ⟨.ref p,rfl,fun _ _ _=>.tup (vs:=vs) (.inr ⟨_,its,n,hk,rfl,rfl,rfl,hs,r⟩) (i _ _ _)⟩
   | _=>cases e
  | rol ds=>cases u with
   | ref p=>
    obtain ⟨vs,its,n,sl,hk,hs,r,i⟩:=seq e
    exact ⟨.ref p,rfl,fun _ _ _=>.rol (vs:=vs) (.inr ⟨_,its,n,hk,rfl,rfl,rfl,hs,r⟩) (i _ _ _)⟩
   | _=>cases e
  | _=>cases e
noncomputable def DJ (K:QH)(cs:List (Str×D)):Bool:=cs.all fun c=>match Wa K S6 c.1 with|some (some u)=>oR K 8 u c.2|_=>false
theorem OE {K:QH}{h:Si}{mg:Str->Option QL}(X:K.In h)(G:h.Ns S6 mg){cs:List (Str×D)}(q:DJ K cs=true):∀ p∈cs,∃ v u,mg p.1=some u/\RelV v u/\∀ π n H,IsD K π n H v p.2:=fun p hp=>by
 have t:=Vt.mp q p hp
 split at t
 ·rename_i u hu
  obtain ⟨v,r,i⟩:=DI _ _ _ t
  exact ⟨v,u,XM X G hu,r,i⟩
 ·cases t
end L3
namespace L3
open PySem L2
noncomputable def W {α:Type}(o:Option α)(Q:α->Prop):Prop:=∃ r,o=some r/\Q r
section
variable {α β:Type}{o:Option α}{Q:α->Prop}
theorem W_some {r:α}{Q:α->Prop}:W (some r) Q↔Q r:=⟨fun ⟨_,h,q⟩=>by cases h;exact q,fun q=>⟨r,rfl,q⟩⟩
theorem W_none {Q:α->Prop}:W none Q↔False:=⟨fun ⟨_,h,_⟩=>(by cases h),fun h=>h.elim⟩
theorem W_bind {g:α->Option β}{Q:β->Prop}:W (o.bind g) Q↔W o fun r=>W (g r) Q:=by
 cases o with
 | none=>exact ⟨fun ⟨_,h,_⟩=>(by cases h),fun ⟨_,h,_⟩=>(by cases h)⟩
 | some a=>simp [W_some]
theorem gQ {g:α->β}{Q:β->Prop}:W (o.map g) Q↔W o fun r=>Q (g r):=by
 cases o with
 | none=>exact ⟨fun ⟨_,h,_⟩=>(by cases h),fun ⟨_,h,_⟩=>(by cases h)⟩
 | some a=>simp [W_some]
theorem bR {Q':α->Prop}(h:W o Q)(k:∀ r,Q r->Q' r):W o Q':=let ⟨r,e,q⟩:=h;⟨r,e,k r q⟩
theorem rN {c:Prop} [Decidable c] {a b:Option α}:W (if c then a else b) Q↔if c then W a Q else W b Q:=by split<;>rfl
end
noncomputable def fin:Option (Fl×aG×Hm)->Option (D×Hm):=fun o=>o.bind fun p=>match p.1 with|.rt d=>some (d,p.2.2)|.nx=>some (.non,p.2.2)|_=>none
theorem cE {o:Option (Fl×aG×Hm)}{Q:D×Hm->Prop}:W (fin o) Q↔W o fun p=>match p.1 with|.rt d=>Q (d,p.2.2)|.nx=>Q (.non,p.2.2)|_=>False:=by
 unfold fin
 rw [W_bind]
 constructor
 ·exact fun h=>bR h fun p q=>by
   obtain ⟨fl,ρ,μ⟩:=p
   cases fl<;>simpa [W_some,W_none] using q
 ·exact fun h=>bR h fun p q=>by
   obtain ⟨fl,ρ,μ⟩:=p
   cases fl<;>simpa [W_some,W_none] using q
theorem bM {μ μ':Hm}(h:μ <+: μ'){a:Nat}{c:C}(e:μ[a]? = some c):μ'[a]? = some c:=by
 obtain ⟨t,rfl⟩:=h
 have hl:=(QN.mp e).1
 rw [Q9 hl]
 exact e
theorem oS {μ μ':Hm}(h:μ <+: μ'):μ.length<=μ'.length:=h.length_le
theorem cQ (μ:Hm)(c:C):μ <+: μ++[c]:=⟨[c],rfl⟩
theorem jN {μ μ':Hm}(h:μ <+: μ'){a:Nat}(ha:μ.length<=a)(c:C):μ <+: μ'.set a c:=by
 obtain ⟨t,rfl⟩:=h
 rw [Wn _ _ ha]
 exact ⟨_,rfl⟩
theorem bC {a b:MS}{ρ:aG}{μ:Hm} {Q}:W (aV a b ρ μ) Q↔W (a ρ μ) fun p=>match p.1 with|.nx=>W (b p.2.1 p.2.2) Q|_=>Q p:=by
 unfold aV
 rw [W_bind]
 constructor
 ·exact fun h=>bR h fun p q=>by
   obtain ⟨fl,ρ,μ⟩:=p
   cases fl<;>simpa [W_some,W_none] using q
 ·exact fun h=>bR h fun p q=>by
   obtain ⟨fl,ρ,μ⟩:=p
   cases fl<;>simpa [W_some,W_none] using q
theorem b6 {m:ME}{ρ:aG}{μ:Hm} {Q}:W (bF m ρ μ) Q↔W (m ρ μ) fun p=>Q (.rt p.1,ρ,p.2):=gQ
theorem DK {m:ME}{ρ:aG}{μ:Hm} {Q}:W (lK m ρ μ) Q↔W (m ρ μ) fun p=>Q (.nx,ρ,p.2):=gQ
theorem cF {i:Nat}{m:ME}{ρ:aG}{μ:Hm} {Q}:W (bK i m ρ μ) Q↔W (m ρ μ) fun p=>Q (.nx,ρ.set i (some p.1),p.2):=gQ
theorem cW {ρ:aG}{μ:Hm} {Q}:W (b9 ρ μ) Q↔Q (.nx,ρ,μ):=W_some
theorem cX {t:MT}{a b:MS}{ρ:aG}{μ:Hm} {Q}:W (cA t a b ρ μ) Q↔W (t ρ μ) fun p=>if p.1=true then W (a ρ p.2) Q else W (b ρ p.2) Q:=by
 unfold cA
 rw [W_bind]
 constructor<;>exact fun h=>bR h fun p q=>by
   obtain ⟨x,μ⟩:=p
   cases x<;>simpa using q
theorem rO {a b:MT}{ρ:aG}{μ:Hm} {Q}:W (i6 a b ρ μ) Q↔W (a ρ μ) fun p=>if p.1=true then W (b ρ p.2) Q else Q (false,p.2):=by
 unfold i6
 rw [W_bind]
 constructor<;>exact fun h=>bR h fun p q=>by
   obtain ⟨x,μ⟩:=p
   cases x<;>simpa [W_some] using q
theorem mZ {a b:MT}{ρ:aG}{μ:Hm} {Q}:W (dG a b ρ μ) Q↔W (a ρ μ) fun p=>if p.1=true then Q (true,p.2) else W (b ρ p.2) Q:=by
 unfold dG
 rw [W_bind]
 constructor<;>exact fun h=>bR h fun p q=>by
   obtain ⟨x,μ⟩:=p
   cases x<;>simpa [W_some] using q
theorem fL {a:MT}{ρ:aG}{μ:Hm} {Q}:W (cL a ρ μ) Q↔W (a ρ μ) fun p=>Q (!p.1,p.2):=gQ
theorem bA {f:D->D->Hm->Option (D×Hm)}{a b:ME}{ρ:aG}{μ:Hm} {Q}:W (aB f a b ρ μ) Q↔W (a ρ μ) fun p=>W (b ρ p.2) fun q=>W (f p.1 q.1 q.2) Q:=by
 unfold aB
 rw [W_bind]
 simp only [W_bind]
theorem aY {d:D}{ρ:aG}{μ:Hm} {Q}:W (mC d ρ μ) Q↔Q (d,μ):=W_some
theorem aI {d:D}{ρ:aG}{μ:Hm} {Q}:W (aA 0 (some d::ρ) μ) Q↔Q (d,μ):=by
 show W (some (d,μ)) Q↔_
 exact W_some
theorem aM {i:Nat}{x:Option D}{ρ:aG}{μ:Hm} {Q}:W (aA (i+1) (x::ρ) μ) Q↔W (aA i ρ μ) Q:=by
 unfold aA
 rw [U2]
theorem aR {ρ:aG}{μ:Hm} {Q}:W (aF ρ μ) Q↔Q ([],μ):=W_some
theorem aT {a:ME}{r:MA}{ρ:aG}{μ:Hm} {Q}:W (aC a r ρ μ) Q↔W (a ρ μ) fun p=>W (r ρ p.2) fun q=>Q (p.1::q.1,q.2):=by
 unfold aC
 simp only [W_bind,W_some]
theorem lA {ms:MA}{ρ:aG}{μ:Hm} {Q}:W (eF ms ρ μ) Q↔W (ms ρ μ) fun p=>p.1.length<=Q6/\Q (.tup p.1,p.2):=by
 unfold eF
 rw [W_bind]
 constructor<;>exact fun h=>bR h fun p q=>by
  first
  | (rw [rN] at q;split at q
     ·exact ⟨by assumption,W_some.mp q⟩
     ·exact (W_none.mp q).elim)
  | (rw [if_pos q.1];exact W_some.mpr q.2)
theorem rP {ms:MA}{ρ:aG}{μ:Hm} {Q}:W (hZ ms ρ μ) Q↔W (ms ρ μ) fun p=>p.1.length<=Q6/\Q (.loc p.2.length,p.2++[.lst p.1]):=by
 unfold hZ
 rw [W_bind]
 constructor<;>exact fun h=>bR h fun p q=>by
  first
  | (rw [rN] at q;split at q
     ·exact ⟨by assumption,W_some.mp q⟩
     ·exact (W_none.mp q).elim)
  | (rw [if_pos q.1];exact W_some.mpr q.2)
theorem bE {f:MF}{ms:MA}{ρ:aG}{μ:Hm} {Q}:W (aK f ms ρ μ) Q↔W (ms ρ μ) fun p=>W (f p.1 p.2) Q:=W_bind
theorem d4 {m:ME}{ρ:aG}{μ:Hm} {Q}:W (a8 m ρ μ) Q↔W (m ρ μ) fun p=>match p.1 with|.bl b=>Q (b,p.2)|_=>False:=by
 unfold a8
 rw [W_bind]
 constructor<;>exact fun h=>bR h fun p q=>by
  obtain ⟨d,μ⟩:=p
  cases d<;>simpa [W_some,W_none] using q
theorem fM {m:ME}{ρ:aG}{μ:Hm} {Q}:W (cI m ρ μ) Q↔W (m ρ μ) fun p=>W (mF p.2 p.1) fun b=>Q (b,p.2):=by
 unfold cI
 simp only [W_bind,gQ]
theorem OF {a:ME}{ρ:aG}{μ:Hm} {Q}:W (nV a ρ μ) Q↔W (a ρ μ) fun p=>match p.1 with|.int i=>Q (.int (-i),p.2)|_=>False:=by
 unfold nV
 rw [W_bind]
 constructor<;>exact fun h=>bR h fun p q=>by
  obtain ⟨d,μ⟩:=p
  cases d<;>simpa [W_some,W_none,gQ,tV] using q
theorem DL {a:ME}{ρ:aG}{μ:Hm} {Q}:W (kB a ρ μ) Q↔W (a ρ μ) fun p=>match p.1 with|.bl b=>Q (.bl (!b),p.2)|_=>False:=by
 unfold kB
 rw [W_bind]
 constructor<;>exact fun h=>bR h fun p q=>by
  obtain ⟨d,μ⟩:=p
  cases d<;>simpa [W_some,W_none] using q
theorem iX {a b:ME}{ρ:aG}{μ:Hm} {Q}:W (c8 a b ρ μ) Q↔W (a ρ μ) fun p=>match p.1 with|.bl c=>if c=true then W (b ρ p.2) Q else Q (.bl false,p.2)|_=>False:=by
 unfold c8
 rw [W_bind]
 constructor<;>exact fun h=>bR h fun p q=>by
  obtain ⟨d,μ⟩:=p
  cases d with
  | bl c=>cases c<;>simpa [W_some] using q
  | _=>simpa [W_none] using q
section
variable {i j:Int}{μ:Hm}{Q:D×Hm->Prop}{a b c d e g:D}
theorem m3:W (dH (.int i) (.int j) μ) Q↔Q (.int (i+j),μ):=W_some
theorem OG:W (nN (.int i) (.int j) μ) Q↔Q (.int (i - j),μ):=W_some
theorem iY (h:0<j):W (bQ (.int i) (.int j) μ) Q↔Q (.int (i % j),μ):=by
 show W ((if 0<j then some (i % j) else none).map fun z=>(D.int z,μ)) Q↔_
 rw [if_pos h]
 exact W_some
theorem OH:(1073741824:Int)<2 ^ 4000:=by decide +kernel
theorem OI (h:0<j)(h2:j<2 ^ 4000):W (dW (.int i) (.int j) μ) Q↔Q (.int (i / j),μ):=by
 show W ((if 0<j/\j<2 ^ 4000 then some (i / j) else none).map fun z=>(D.int z,μ)) Q↔_
 rw [if_pos ⟨h,h2⟩]
 exact W_some
theorem oT (h:0<j)(h2:j<1073741824):W (dW (.int i) (.int j) μ) Q↔Q (.int (i / j),μ):=OI h (Int.lt_trans h2 OH)
theorem m4 (h:(-(2 ^ 64)<i/\i<2 ^ 64)\/(-(2 ^ 64)<j/\j<2 ^ 64)):W (dU (.int i) (.int j) μ) Q↔Q (.int (i * j),μ):=by
 show W ((if ((-(2 ^ 64)<i/\i<2 ^ 64)\/(-(2 ^ 64)<j/\j<2 ^ 64))\/(i.natAbs<2 ^ 4000/\j.natAbs<2 ^ 4000)\/RI i+RI j<=134217728 then some (i * j) else none).map fun z=>(D.int z,μ)) Q↔_
 rw [if_pos (.inl h)]
 exact W_some
theorem rQ:W (bL false (.int i) (.int j) μ) Q↔Q (.bl (i == j),μ):=W_some
theorem rR:W (bL true (.int i) (.int j) μ) Q↔Q (.bl (!(i == j)),μ):=W_some
theorem DM:W (fV (.int i) (.int j) μ) Q↔Q (.bl (decide (i<j)),μ):=W_some
theorem OJ:W (lP (.int i) (.int j) μ) Q↔Q (.bl (decide (i<=j)),μ):=W_some
theorem jO:W (aL (.tup [a,b]) (.int 0) μ) Q↔Q (a,μ):=W_some
theorem iZ:W (aL (.tup [a,b]) (.int 1) μ) Q↔Q (b,μ):=W_some
theorem fB {b:Bool}{Q:Bool->Prop}:W (mF μ (.bl b)) Q↔Q b:=W_some
end
theorem m5 {μ:Hm}{a:Nat}{xs:List D}{i:Int}{d:D}{Q:D×Hm->Prop}(h:μ[a]? = some (.lst xs))(hi:atI xs i=some d):W (aL (.loc a) (.int i) μ) Q↔Q (d,μ):=by
 have:aL (.loc a) (.int i) μ=some (d,μ):=by
  simp only [aL,eZ,bH,h,RM,hi,RL]
 rw [this]
 exact W_some
end L3
namespace L3
open PySem L2
theorem m7 {m:ME}{ρ:aG}{μ:Hm}{Q:kM×Nat×Hm->Prop}:W (dM m ρ μ) Q↔W (m ρ μ) fun p=>W (fY p.2 p.1) fun xs=>Q (dJ p.1,xs.length+1,p.2):=by
 unfold dM
 simp only [W_bind,gQ]
theorem jP {it:MI}{g:MG}{b:MS}{ρ:aG}{μ:Hm} {Q}:W (cT it g b ρ μ) Q↔W (it ρ μ) fun p=>W (eK p.1 g b p.2.1 0 ρ p.2.2) Q:=W_bind
theorem DN {j:Int}{ms:MA}{ρ:aG}{μ:Hm}{Q:kM×Nat×Hm->Prop}:W (kN ms ρ μ) Q↔W (ms ρ μ) fun p=>match p.1 with|[.int j]=>(-(2 ^ 62)<=j/\j<2 ^ 62)/\Q (fW 0 j.toNat,j.toNat+1,p.2)|_=>False:=by
 unfold kN
 rw [W_bind]
 constructor<;>exact fun h=>bR h fun p q=>by
  obtain ⟨l,μ⟩:=p
  match l,q with
  | [],q=>simpa [W_none] using q
  | [d],q=>
   cases d with
   | int j=>
    first
    | (dsimp only at q;rw [rN] at q;split at q
       ·rename_i hb;exact ⟨hb,W_some.mp q⟩
       ·exact (W_none.mp q).elim)
    | (dsimp only;rw [if_pos q.1];exact W_some.mpr q.2)
   | _=>simpa [W_none] using q
  | a::b::l,q=>simpa [W_none] using q
theorem DO {ms:MA}{ρ:aG}{μ:Hm}{Q:kM×Nat×Hm->Prop}:W (lX ms ρ μ) Q↔W (ms ρ μ) fun p=>match p.1 with|[.int i,.int j]=>(-(2 ^ 62)<=i/\i<2 ^ 62/\-(2 ^ 62)<=j/\j<2 ^ 62)/\Q (fW i (j - i).toNat,(j - i).toNat+1,p.2)|_=>False:=by
 unfold lX
 rw [W_bind]
 constructor<;>exact fun h=>bR h fun p q=>by
  split at q
  ·rename_i e
   try rw [e]
   first
   | (rw [rN] at q;split at q
      ·rename_i hb;exact ⟨hb,W_some.mp q⟩
      ·exact (W_none.mp q).elim)
   | ((try dsimp only);rw [if_pos q.1];exact W_some.mpr q.2)
  ·first
   | exact (W_none.mp q).elim
   | exact q.elim
theorem m8 {src:kM}{g:MG}{b:MS}{N:Nat}{Q:Fl×aG×Hm->Prop}(I:Nat->aG->Hm->Prop)
  (go:∀ i ρ μ,i<N->I i ρ μ->∃ d ρ1,src μ i=some (some d)/\g d ρ μ=some ρ1/\W (b ρ1 μ) fun p=>match p.1 with|.nx=>I (i+1) p.2.1 p.2.2|.ct=>I (i+1) p.2.1 p.2.2|.bk=>Q (.nx,p.2.1,p.2.2)|.rt d=>Q (.rt d,p.2.1,p.2.2))
  (stop:∀ ρ μ,I N ρ μ->src μ N=some none/\Q (.nx,ρ,μ)):∀ (m i:Nat)(ρ:aG)(μ:Hm),i+m=N->I i ρ μ->W (eK src g b (m+1) i ρ μ) Q
 | 0,i,ρ,μ,h,hI=>by
  have:i=N:=by omega
  subst this
  obtain ⟨h1,h2⟩:=stop ρ μ hI
  unfold eK
  rw [h1]
  exact W_some.mpr h2
 | m+1,i,ρ,μ,h,hI=>by
  obtain ⟨d,ρ1,h1,h2,h3⟩:=go i ρ μ (by omega) hI
  unfold eK
  rw [h1]
  simp only [RM,h2]
  rw [W_bind]
  refine bR h3 fun p q=>?_
  obtain ⟨fl,ρ2,μ2⟩:=p
  cases fl with
  | nx=>exact m8 I go stop m (i+1) ρ2 μ2 (by omega) q
  | ct=>exact m8 I go stop m (i+1) ρ2 μ2 (by omega) q
  | bk=>exact W_some.mpr q
  | rt d=>exact W_some.mpr q
theorem xT {a:Nat}{xs:List D}{g:MG}{b:MS}{ρ:aG}{μ:Hm}{Q:Fl×aG×Hm->Prop}(I:Nat->aG->Hm->Prop)(h0:I 0 ρ μ)(hl:∀ i ρ μ,I i ρ μ->μ[a]? = some (.lst xs))
  (go:∀ i d ρ μ,xs[i]? = some d->I i ρ μ->∃ ρ1,g d ρ μ=some ρ1/\W (b ρ1 μ) fun p=>match p.1 with|.nx=>I (i+1) p.2.1 p.2.2|.ct=>I (i+1) p.2.1 p.2.2|.bk=>Q (.nx,p.2.1,p.2.2)|.rt d=>Q (.rt d,p.2.1,p.2.2))
  (stop:∀ ρ μ,I xs.length ρ μ->Q (.nx,ρ,μ)):W (eK (dJ (.loc a)) g b (xs.length+1) 0 ρ μ) Q:=by
 refine m8 (N:=xs.length) I (fun i ρ μ hi hI=>?_) (fun ρ μ hI=>⟨?_,stop ρ μ hI⟩) xs.length 0 ρ μ (by omega) h0
 ·have e:xs[i]? = some xs[i]:=QV hi
  obtain ⟨ρ1,h1,h2⟩:=go i xs[i] ρ μ e hI
  refine ⟨xs[i],ρ1,?_,h1,h2⟩
  simp only [dJ,fY,bH,hl i ρ μ hI,RL,e]
 ·simp only [dJ,fY,bH,hl _ ρ μ hI,RL]
  simp
theorem OK {x:D}{xs:List D}(hx:∀ μ,fY μ x=some xs){g:MG}{b:MS}{ρ:aG}{μ:Hm}{Q:Fl×aG×Hm->Prop}(I:Nat->aG->Hm->Prop)(h0:I 0 ρ μ)
  (go:∀ i d ρ μ,xs[i]? = some d->I i ρ μ->∃ ρ1,g d ρ μ=some ρ1/\W (b ρ1 μ) fun p=>match p.1 with|.nx=>I (i+1) p.2.1 p.2.2|.ct=>I (i+1) p.2.1 p.2.2|.bk=>Q (.nx,p.2.1,p.2.2)|.rt d=>Q (.rt d,p.2.1,p.2.2))
  (stop:∀ ρ μ,I xs.length ρ μ->Q (.nx,ρ,μ)):W (eK (dJ x) g b (xs.length+1) 0 ρ μ) Q:=by
 refine m8 (N:=xs.length) I (fun i ρ μ hi hI=>?_) (fun ρ μ hI=>⟨?_,stop ρ μ hI⟩) xs.length 0 ρ μ (by omega) h0
 ·have e:xs[i]? = some xs[i]:=QV hi
  obtain ⟨ρ1,h1,h2⟩:=go i xs[i] ρ μ e hI
  refine ⟨xs[i],ρ1,?_,h1,h2⟩
  simp only [dJ,hx,RL,e]
 ·simp only [dJ,hx,RL]
  simp
theorem xU {lo:Int}{n:Nat}{g:MG}{b:MS}{ρ:aG}{μ:Hm}{Q:Fl×aG×Hm->Prop}(I:Nat->aG->Hm->Prop)(h0:I 0 ρ μ)
  (go:∀ (i:Nat) ρ μ,i<n->I i ρ μ->∃ ρ1,g (.int (lo+i)) ρ μ=some ρ1/\W (b ρ1 μ) fun p=>match p.1 with|.nx=>I (i+1) p.2.1 p.2.2|.ct=>I (i+1) p.2.1 p.2.2|.bk=>Q (.nx,p.2.1,p.2.2)|.rt d=>Q (.rt d,p.2.1,p.2.2))
  (stop:∀ ρ μ,I n ρ μ->Q (.nx,ρ,μ)):W (eK (fW lo n) g b (n+1) 0 ρ μ) Q:=by
 refine m8 (N:=n) I (fun i ρ μ hi hI=>?_) (fun ρ μ hI=>⟨?_,stop ρ μ hI⟩) n 0 ρ μ (by omega) h0
 ·obtain ⟨ρ1,h1,h2⟩:=go i ρ μ hi hI
  exact ⟨_,ρ1,by simp only [fW,if_pos hi],h1,h2⟩
 ·simp only [fW,Us,if_false]
theorem OL {μ:Hm}{a:Nat}{ys:List D}{y:D}(h:μ[a]? = some (.lst ys))(hl:ys.length<Q6):lR μ a y=some (μ.set a (.lst (ys++[y]))):=by
 unfold lR
 rw [h]
 exact if_pos hl
theorem xV {src:kM}{c:MT}{e:ME}{ρ:aG}{μ0:Hm}{xs:List D}{p:D->Bool}{v:D->D}{Q:Hm->Prop}(hs:∀ μ i,μ0 <+: μ->src μ i=some xs[i]?)(hl:xs.length<=Q6)
  (hc:∀ d μ,d∈xs->μ0 <+: μ->W (c (ρ++[some d]) μ) fun r=>r.1=p d/\μ <+: r.2)
  (he:∀ d μ,d∈xs->p d=true->μ0 <+: μ->W (e (ρ++[some d]) μ) fun r=>r.1=v d/\μ <+: r.2)
  (fin:∀ μ,μ0 <+: μ->μ[μ0.length]? = some (.lst ((xs.filter p).map v))->Q μ) :
  ∀ (m i:Nat)(μ:Hm),i+m=xs.length->μ0 <+: μ->μ[μ0.length]? = some (.lst (((xs.take i).filter p).map v))->W (iD src nO c e ρ μ0.length (m+1) i μ) Q
 | 0,i,μ,hi,hp,ha=>by
  have:i=xs.length:=by omega
  subst this
  unfold iD
  rw [hs μ _ hp]
  rw [R8 (Q0 _)]
  simp only [RM]
  refine W_some.mpr (fin μ hp ?_)
  simpa using ha
 | m+1,i,μ,hi,hp,ha=>by
  have hlt:i<xs.length:=by omega
  have hx:xs[i]? = some xs[i]:=QV hlt
  have hmem:xs[i]∈xs:=To hlt
  unfold iD
  rw [hs μ _ hp,hx]
  simp only [RM,nO]
  rw [W_bind]
  refine bR (hc _ μ hmem hp) fun r q=>?_
  obtain ⟨b,μ1⟩:=r
  obtain ⟨q1,q2⟩:=q
  dsimp only at q1 q2 ⊢
  subst q1
  have htake:xs.take (i+1)=xs.take i++[xs[i]]:=by rw [List.take_succ,hx];rfl
  have ha1:=bM q2 ha
  cases hpd:p xs[i] with
  | false=>
   refine xV hs hl hc he fin m (i+1) μ1 (by omega) (hp.trans q2) ?_
   rw [ha1,htake,WU]
   simp [hpd]
  | true=>
   dsimp only
   rw [W_bind]
   refine bR (he _ μ1 hmem hpd (hp.trans q2)) fun r q=>?_
   obtain ⟨y,μ2⟩:=r
   obtain ⟨q3,q4⟩:=q
   dsimp only at q3 q4 ⊢
   subst q3
   have ha2:=bM q4 ha1
   have hlen:(((xs.take i).filter p).map v).length<Q6:=by
    have h1:=TV p (xs.take i)
    rw [QY]
    rw [RC] at h1
    omega
   rw [OL ha2 hlen,RM]
   have hp2:μ0 <+: μ2:=(hp.trans q2).trans q4
   refine xV hs hl hc he fin m (i+1) _ (by omega) (jN hp2 (Q0 _) _) ?_
   rw [Sf (QN.mp ha2).1,htake,WU]
   simp [hpd]
theorem rS {it:MI}{c:MT}{e:ME}{ρ:aG}{μ:Hm}{xs:List D}{p:D->Bool}{v:D->D}{Q:D×Hm->Prop}
  (hit:W (it ρ μ) fun r=>(∀ μ' i,r.2.2 <+: μ'->r.1 μ' i=some xs[i]?)/\r.2.1=xs.length+1/\xs.length<=Q6 /\
   (∀ d μ',d∈xs->r.2.2 <+: μ'->W (c (ρ++[some d]) μ') fun s=>s.1=p d/\μ' <+: s.2)/\(∀ d μ',d∈xs->p d=true->r.2.2 <+: μ'->W (e (ρ++[some d]) μ') fun s=>s.1=v d/\μ' <+: s.2) /\
   ∀ μ',r.2.2 <+: μ'->μ'[r.2.2.length]? = some (.lst ((xs.filter p).map v))->Q (.loc r.2.2.length,μ')):W (fZ it c e ρ μ) Q:=by
 unfold fZ lY
 rw [W_bind]
 refine bR hit fun r q=>?_
 obtain ⟨src,n,μ1⟩:=r
 obtain ⟨h1,h2,h3,h4,h5,h6⟩:=q
 dsimp only at h1 h2 h3 h4 h5 h6 ⊢
 subst h2
 rw [gQ]
 exact xV h1 h3 h4 h5 h6 xs.length 0 (μ1++[.lst []]) (by omega) (cQ _ _) (by simp)
theorem OM {μ:Hm}{a:Nat}{xs:List D}(h:μ[a]? = some (.lst xs)):∀ μ' i,μ <+: μ'->dJ (.loc a) μ' i=some xs[i]?:=fun μ' i hp=>by
 simp only [dJ,fY,bH,bM hp h,RL]
theorem DP {xs:List D}{μ:Hm}:∀ μ' i,μ <+: μ'->dJ (.tup xs) μ' i=some xs[i]?:=fun μ' i hp=>rfl
noncomputable def i0 (lo:Int)(n:Nat):List D:=(Se n).map fun (i:Nat)=>.int (lo+(i:Int))
theorem ON {lo:Int}{n:Nat}{μ:Hm}:∀ μ' i,μ <+: μ'->fW lo n μ' i=some (i0 lo n)[i]?:=fun μ' i _=>by
 unfold fW i0
 rw [RH]
 by_cases h:i<n
 ·rw [if_pos h,Y9 h];rfl
 ·rw [if_neg h,R8 (by simpa using Up.mp h)];rfl
noncomputable abbrev P (x y:Int):D:=.tup [.int x,.int y]
noncomputable abbrev PP (p:Int×Int):D:=P p.1 p.2
theorem OO (n:Nat)(μ:Hm)(p q:Int×Int):bP (n+2) μ (PP p) (PP q)=some (p == q):=by
 obtain ⟨a,b⟩:=p
 obtain ⟨c,d⟩:=q
 show some (a == c&&(b == d&&true))=some ((a,b) == (c,d))
 rw [a0I]
 rfl
theorem DQ (n:Nat)(μ:Hm):∀ ps qs:List (Int×Int),eI (bP (n+2) μ) (ps.map PP) (qs.map PP)=some (ps == qs)
 | [],[]=>rfl
 | [],_::_=>rfl
 | _::_,[]=>rfl
 | p::ps,q::qs=>by
  rw [Ra,Ra]
  show (bP (n+2) μ (PP p) (PP q)).bind (fun b=>(eI (bP (n+2) μ) (ps.map PP) (qs.map PP)).map fun c=>b&&c)=_
  rw [OO,DQ n μ ps qs]
  rfl
theorem OP {μ:Hm}{a b:Nat}{ps qs:List (Int×Int)}(ha:μ[a]? = some (.lst (ps.map PP)))(hb:μ[b]? = some (.lst (qs.map PP))):bP 8 μ (.loc a) (.loc b)=some (ps == qs):=by
 have h1:d6 μ (.loc a)=some (.lst (ps.map PP)):=by simp only [d6,ha]
 have h2:d6 μ (.loc b)=some (.lst (qs.map PP)):=by simp only [d6,hb]
 show (d6 μ (.loc a)).bind (fun x=>(d6 μ (.loc b)).bind fun y=>fU (bP 7 μ) x y)=_
 rw [h1,h2]
 exact DQ 5 μ ps qs
theorem OQ {μ:Hm}{a b:Nat}{ps qs:List (Int×Int)}{ne:Bool}{Q:D×Hm->Prop}(ha:μ[a]? = some (.lst (ps.map PP)))(hb:μ[b]? = some (.lst (qs.map PP))):W (bL ne (.loc a) (.loc b) μ) Q↔Q (.bl (if ne then !(ps == qs) else ps == qs),μ):=by
 unfold bL
 rw [OP ha hb]
 exact W_some
theorem DR {μ:Hm}{a b:Nat}{xs ys:List D}{Q:D×Hm->Prop}(ha:μ[a]? = some (.lst xs))(hb:μ[b]? = some (.lst ys))(hl:xs.length+ys.length<=Q6):W (dH (.loc a) (.loc b) μ) Q↔Q (.loc μ.length,μ++[.lst (xs++ys)]):=by
 simp only [dH,ha,hb,if_pos hl]
 exact W_some
theorem OR {ρ:aG}{μ:Hm}{Q:List (aD×D)×Hm->Prop}:W (kJ [] ρ μ) Q↔Q ([],μ):=W_some
theorem OS {k v:ME}{r:List (ME×ME)}{ρ:aG}{μ:Hm}{Q:List (aD×D)×Hm->Prop}:W (kJ ((k,v)::r) ρ μ) Q↔W (k ρ μ) fun p=>W (v ρ p.2) fun q=>W (iF p.1) fun kk=>W (kJ r ρ q.2) fun t=>Q ((kk,q.1)::t.1,t.2):=by
 show W ((k ρ μ).bind _) Q↔_
 simp only [W_bind,gQ]
theorem OT {x:Str}{Q:aD->Prop}:W (iF (.str x)) Q↔Q (.inr x):=W_some
theorem OU {prs:List (ME×ME)}{ρ:aG}{μ:Hm}{Q:D×Hm->Prop}(h:W (kJ prs ρ (μ++[.dK []])) fun p=>p.2[μ.length]? = some (.dK [])/\p.1.length<=15/\Q (.loc μ.length,p.2.set μ.length (.dK (nT [] p.1)))):W (kK prs ρ μ) Q:=by
 unfold kK
 rw [W_bind]
 refine bR h fun p q=>?_
 obtain ⟨q1,q2,q3⟩:=q
 rw [q1]
 dsimp only
 rw [if_pos q2]
 exact W_some.mpr q3
theorem OV {μ:Hm}{a:Nat}{kvs:List (aD×D)}{y d:D}{k:aD}{Q:D×Hm->Prop}(h:μ[a]? = some (.dK kvs))(hk:iF y=some k)(hv:eM kvs k=some d):W (aL (.loc a) y μ) Q↔Q (d,μ):=by
 have:aL (.loc a) y μ=some (d,μ):=by
  simp only [aL,h,hk,RM,hv,RL]
 rw [this]
 exact W_some
theorem OW {f:D->List D->Hm->Option (D×Hm)}{mo:ME}{ms:MA}{ρ:aG}{μ:Hm}{Q:D×Hm->Prop}(h:W (mo ρ μ) fun p=>mD p.2 p.1=true/\W (ms ρ p.2) fun q=>W (f p.1 q.1 q.2) Q):W (jA f mo ms ρ μ) Q:=by
 unfold jA
 rw [W_bind]
 refine bR h fun p q=>?_
 rw [q.1]
 exact W_bind.mpr q.2
theorem OX {μ:Hm}{a:Nat}{xs:List D}(h:μ[a]? = some (.lst xs)):mD μ (.loc a)=true:=by
 simp only [mD,h]
theorem OY {μ:Hm}{a:Nat}{xs:List D}{Q:D×Hm->Prop}(h:μ[a]? = some (.lst xs)):W (mE (.loc a) [] μ) Q↔Q (.non,μ.set a (.lst [])):=by
 simp only [mE,h]
 exact W_some
theorem rV {μ:Hm}{xs:List D}{Q:D×Hm->Prop}:W (cD [.tup xs,.ty "tuple"] μ) Q↔Q (.bl true,μ):=W_some
theorem DS {μ:Hm}{i:Int}{Q:D×Hm->Prop}:W (cD [.int i,.ty "bool"] μ) Q↔Q (.bl false,μ):=W_some
theorem DT {μ:Hm}{i:Int}{Q:D×Hm->Prop}:W (cD [.int i,.ty "int"] μ) Q↔Q (.bl true,μ):=W_some
theorem xW {μ:Hm}{b:Str}{Q:D×Hm->Prop}:W (cD [.str b,.ty "str"] μ) Q↔Q (.bl true,μ):=W_some
theorem OZ {μ:Hm}{a:Nat}{xs:List D}{Q:D×Hm->Prop}(h:μ[a]? = some (.lst xs)):W (cD [.loc a,.ty "list"] μ) Q↔Q (.bl true,μ):=by
 have:cD [.loc a,.ty "list"] μ=some (.bl true,μ):=by
  simp only [cD,pT,h,RM]
  rfl
 rw [this]
 exact W_some
theorem DU {μ:Hm}{xs:List D}{Q:D×Hm->Prop}:W (dS [.tup xs] μ) Q↔Q (.int xs.length,μ):=W_some
theorem xX {μ:Hm}{a:Nat}{xs:List D}{Q:D×Hm->Prop}(h:μ[a]? = some (.lst xs)):W (dS [.loc a] μ) Q↔Q (.int xs.length,μ):=by
 simp only [dS,nP,bH,h,RL]
 exact W_some
theorem rW {μ:Hm}{a:Nat}{xs:List D}{Q:List D->Prop}(h:μ[a]? = some (.lst xs)):W (fY μ (.loc a)) Q↔Q xs:=by
 simp only [fY,bH,h]
 exact W_some
theorem DV {μ:Hm}{xs:List D}{Q:List D->Prop}:W (fY μ (.tup xs)) Q↔Q xs:=W_some
theorem O0 {ρ:aG}{μ:Hm}{Q:Option Int×Hm->Prop}:W (nK ρ μ) Q↔Q (none,μ):=W_some
theorem DW {m:ME}{ρ:aG}{μ:Hm}{Q:Option Int×Hm->Prop}:W (i7 m ρ μ) Q↔W (m ρ μ) fun p=>match p.1 with|.int i=>Q (some i,p.2)|_=>False:=by
 unfold i7
 rw [W_bind]
 constructor<;>exact fun h=>bR h fun p q=>by
  obtain ⟨d,μ⟩:=p
  cases d<;>simpa [W_some,W_none] using q
theorem DX {a:ME}{lo hi:MO}{ρ:aG}{μ:Hm}{Q:D×Hm->Prop}(h:W (a ρ μ) fun p=>∃ xs,p.1=.rol xs/\W (lo ρ p.2) fun q=>W (hi ρ q.2) fun r=>Q (.loc r.2.length,r.2++[.lst (fT xs q.1 r.1)])):W (kC a lo hi ρ μ) Q:=by
 unfold kC
 rw [W_bind]
 refine bR h fun p q=>?_
 obtain ⟨d,μ1⟩:=p
 obtain ⟨xs,q1,q2⟩:=q
 dsimp only at q1 q2 ⊢
 subst q1
 rw [W_bind]
 refine bR q2 fun s q=>?_
 rw [W_bind]
 refine bR q fun r q=>?_
 exact W_some.mpr q
theorem c5 (μ:Hm)(c:C):(μ++[c])[μ.length]? = some c:=by simp
end L3
namespace L3
open PySem L2
theorem DY {f g:D->D->Hm->Option (D×Hm)}{a b c:ME}{ρ:aG}{μ:Hm} {Q}:W (gG f g a b c ρ μ) Q↔W (a ρ μ) fun p=>W (b ρ p.2) fun q=>W (f p.1 q.1 q.2) fun r=>match r.1 with|.bl k=>if k=true then W (c ρ r.2) fun t=>W (g q.1 t.1 t.2) Q else Q (.bl false,r.2)|_=>False:=by
 unfold gG
 simp only [W_bind]
 constructor<;>exact fun h=>bR h fun p q=>bR q fun q1 h1=>bR h1 fun r h2=>by
  obtain ⟨d,μ⟩:=r
  cases d with
  | bl k=>cases k<;>simpa [W_some,W_bind] using h2
  | _=>simpa [W_none] using h2
section
variable {i j:Int}{μ:Hm}{Q:D×Hm->Prop}
theorem O1:W (gH true .non .non μ) Q↔Q (.bl false,μ):=W_some
end
theorem w_mTrue {ρ:aG}{μ:Hm}{Q:Bool×Hm->Prop}:W (iE ρ μ) Q↔Q (true,μ):=W_some
theorem rX {o i v:ME}{ρ:aG}{μ:Hm} {Q}:W (eC o i v ρ μ) Q↔W (v ρ μ) fun p=>W (o ρ p.2) fun q=>W (i ρ q.2) fun r=>W (mP q.1 r.1 p.1 r.2) fun μ'=>Q (.nx,ρ,μ'):=by
 unfold eC iP
 simp only [W_bind,gQ]
section
variable {μ:Hm}{a:Nat}{kvs:List (List Int×D)}{k:List Int}{d y:D}{ρ:aG}{Q:D×Hm->Prop}
theorem rY:W (kX ρ μ) Q↔Q (.loc μ.length,μ++[.dT []]):=W_some
theorem O2 (h:μ[a]? = some (.dT kvs))(hk:bZ y=some k)(hv:bD kvs k=some d):W (aL (.loc a) y μ) Q↔Q (d,μ):=by
 simp only [aL,h,hk,RM,hv,RL]
 exact W_some
theorem rZ {neg:Bool}(h:μ[a]? = some (.dT kvs))(hk:bZ y=some k):W (cM neg y (.loc a) μ) Q↔Q (.bl (if neg then !(bD kvs k).isSome else (bD kvs k).isSome),μ):=by
 have:cM neg y (.loc a) μ=some (.bl (if neg then !(bD kvs k).isSome else (bD kvs k).isSome),μ):=by
  simp only [cM,h,hk,RL]
 rw [this]
 exact W_some
theorem xY {Q:Hm->Prop}(h:μ[a]? = some (.dT kvs))(hk:bZ y=some k)(hl:kvs.length<Q6):W (mP (.loc a) y d μ) Q↔Q (μ.set a (.dT (cU kvs k d))):=by
 simp only [mP,kW,h,hk,RM,if_pos hl]
 exact W_some
theorem O3 {xs:List D}(h:μ[a]? = some (.lst xs)):W (mW [.loc a] μ) Q↔Q (.loc μ.length,μ++[.lst xs]):=by
 simp only [mW,h,nR,bH,RL]
 exact W_some
end
theorem O4 {f:D->List D->Hm->Option (D×Hm)}{mo:ME}{ms:MA}{ρ:aG}{μ:Hm}{Q:D×Hm->Prop}(h:W (mo ρ μ) fun p=>∃ x,p.1=.str x/\W (ms ρ p.2) fun q=>W (f (.str x) q.1 q.2) Q):W (gJ f mo ms ρ μ) Q:=by
 obtain ⟨⟨d,μ1⟩,h1,x,h2,⟨ys,μ2⟩,h3,h4⟩:=h
 dsimp only at h2 h3 h4
 subst h2
 obtain ⟨r,h5,h6⟩:=h4
 refine ⟨r,?_,h6⟩
 simp only [gJ,h1,RM,h3]
 exact h5
theorem O5 {μ:Hm}{a:Nat}{xs:List D}{Q:D×Hm->Prop}(h:μ[a]? = some (.lst xs)):W (jB [.loc a] μ) Q↔Q (.loc μ.length,μ++[.lst xs.reverse]):=by
 simp only [jB,h]
 exact W_some
end L3
namespace Lw
open PySem L2 L3
noncomputable def ds:List (Str×Stmt):=[("is_whole",aP 7),("is_place",aP 8),("is_edge",aP 9),("is_size",aP 12),("check_size",aP 13),("is_mark",aP 14),("is_within",aP 15),("is_inner_edge",aP 16),("sheet_of",aP 17),("marks_in",aP 18),("mark_at",aP 19),("_law_draw",aP 21),("_law_kind",aP 22),("_law_int",aP 23),("_law_are",aP 24),("_law_amid",aP 25),("_law_size",aP 26),("_law_line",aP 27),("_law_creases",aP 28),("_law_is_sheet",aP 29),("_law_list",aP 30),("_law_right",aP 31),("law",aP 32)]
noncomputable def xZ:D:=(.tup [(.str "h"),(.str "v"),(.str "o")])
noncomputable def S:Sig:=⟨[("is_whole",1),("is_place",1),("is_edge",1),("is_size",1),("check_size",2),("is_mark",1),("is_within",3),("is_inner_edge",3),("sheet_of",3),("marks_in",1),("mark_at",2),("_law_draw",2),("_law_kind",1),("_law_int",1),("_law_are",2),("_law_amid",3),("_law_size",1),("_law_line",1),("_law_creases",3),("_law_is_sheet",2),("_law_list",2),("_law_right",4),("law",1)],[("MARKS",xZ)],[],["bool","dict","int","isinstance","len","list","range","reversed","sorted","str","tuple"],["_law_marks"],["_law_some"],[]⟩
@[irreducible] noncomputable def f (k:Nat)(x:Str):MF:=gP S ds k x
end Lw
namespace Lw
open PySem L2 L3
theorem O6 (k:Nat)(d0:D)(μ:Hm):f (k+1) "is_whole" [d0] μ=fin ((bF (c8 (aK cD (aC (aA 0) (aC (mC (.ty "int")) aF))) (kB (aK cD (aC (aA 0) (aC (mC (.ty "bool")) aF)))))) [some d0] μ):=by
 kernel_rfl
theorem O7 (k:Nat)(d0:D)(μ:Hm):f (k+1) "is_place" [d0] μ=fin ((bF (c8 (aK cD (aC (aA 0) (aC (mC (.ty "tuple")) aF))) (c8 (aB (bL false) (aK dS (aC (aA 0) aF)) (mC (.int 2))) (c8 (aK (f k "is_whole") (aC (aB aL (aA 0) (mC (.int 0))) aF)) (aK (f k "is_whole") (aC (aB aL (aA 0) (mC (.int 1))) aF)))))) [some d0] μ):=by
 kernel_rfl
theorem O8 (k:Nat)(d0:D)(μ:Hm):f (k+1) "is_edge" [d0] μ=fin ((aV (cA (a8 (aB (bL false) (aB bQ (aB aL (aA 0) (mC (.int 0))) (mC (.int 2))) (mC (.int 1)))) (bF (aB (bL false) (aB bQ (aB aL (aA 0) (mC (.int 1))) (mC (.int 2))) (mC (.int 1)))) b9) (bF (c8 (aB (bL false) (aB bQ (aB aL (aA 0) (mC (.int 1))) (mC (.int 2))) (mC (.int 0))) (aB (bL true) (aB bQ (aB aL (aA 0) (mC (.int 0))) (mC (.int 4))) (aB bQ (aB aL (aA 0) (mC (.int 1))) (mC (.int 4))))))) [some d0] μ):=by
 kernel_rfl
theorem O9 (k:Nat)(d0:D)(μ:Hm):f (k+1) "is_size" [d0] μ=fin ((bF (c8 (aK (f k "is_whole") (aC (aA 0) aF)) (gG lP lP (mC (.int 1)) (aA 0) (mC (.int 6))))) [some d0] μ):=by
 kernel_rfl
theorem Pa (k:Nat)(d0 d1:D)(μ:Hm):f (k+1) "check_size" [d0,d1] μ=fin ((cA (cL (i6 (cI (aK (f k "is_size") (aC (aA 0) aF))) (cI (aK (f k "is_size") (aC (aA 1) aF))))) dN b9) [some d0,some d1] μ):=by
 kernel_rfl
theorem Pb (k:Nat)(d0:D)(μ:Hm):f (k+1) "is_mark" [d0] μ=fin ((bF (c8 (aK cD (aC (aA 0) (aC (mC (.ty "str")) aF))) (aB (cM false) (aA 0) (mC xZ)))) [some d0] μ):=by
 kernel_rfl
theorem Pc (k:Nat)(d0 d1 d2:D)(μ:Hm):f (k+1) "is_within" [d0,d1,d2] μ=fin ((bF (c8 (gG fV fV (mC (.int 0)) (aB aL (aA 2) (mC (.int 0))) (aB dU (mC (.int 4)) (aA 0))) (gG fV fV (mC (.int 0)) (aB aL (aA 2) (mC (.int 1))) (aB dU (mC (.int 4)) (aA 1))))) [some d0,some d1,some d2] μ):=by
 kernel_rfl
theorem Pd (k:Nat)(d0 d1 d2:D)(μ:Hm):f (k+1) "is_inner_edge" [d0,d1,d2] μ=fin ((bF (c8 (aK (f k "is_place") (aC (aA 2) aF)) (c8 (aK (f k "is_within") (aC (aA 0) (aC (aA 1) (aC (aA 2) aF)))) (aK (f k "is_edge") (aC (aA 2) aF))))) [some d0,some d1,some d2] μ):=by
 kernel_rfl
theorem Pe (k:Nat)(d0 d1 d2:D)(μ:Hm):f (k+1) "sheet_of" [d0,d1,d2] μ=fin ((aV (lK (aK (f k "check_size") (aC (aA 0) (aC (aA 1) aF)))) (aV (bK 3 kX) (aV (cT (dM (aA 2)) (c4 4) (aV (bK 5 (aB aL (aA 4) (mC (.int 0)))) (aV (cA (cL (cI (aK (f k "is_inner_edge") (aC (aA 0) (aC (aA 1) (aC (aA 5) aF)))))) dN b9) (aV (cA (cL (cI (aK (f k "is_mark") (aC (aB aL (aA 4) (mC (.int 1))) aF)))) dN b9) (aV (cA (a8 (aB (cM false) (aA 5) (aA 3))) dN b9) (eC (aA 3) (aA 5) (aB aL (aA 4) (mC (.int 1))))))))) (bF (eF (aC (aA 0) (aC (aA 1) (aC (iV (aA 3)) aF)))))))) [some d0,some d1,some d2,none,none,none] μ):=by
 kernel_rfl
theorem Pf (k:Nat)(d0:D)(μ:Hm):f (k+1) "marks_in" [d0] μ=fin ((bF (aK k4 (aC (aB aL (aA 0) (mC (.int 2))) aF))) [some d0] μ):=by
 kernel_rfl
theorem Pg (k:Nat)(d0 d1:D)(μ:Hm):f (k+1) "mark_at" [d0,d1] μ=fin ((bF (jF mV (aK (f k "marks_in") (aC (aA 0) aF)) (aC (aA 1) aF))) [some d0,some d1] μ):=by
 kernel_rfl
theorem Ph (k:Nat)(d0 d1:D)(μ:Hm):f (k+1) "_law_draw" [d0,d1] μ=fin ((bF (aB aL (aB dH (hZ (aC (mC (.int 0)) aF)) (kC (aA 0) (i7 (aA 1)) (i7 (aB dH (aA 1) (mC (.int 1)))))) (nV (mC (.int 1))))) [some d0,some d1] μ):=by
 kernel_rfl
theorem Pj (k:Nat)(d0:D)(μ:Hm):f (k+1) "_law_kind" [d0] μ=fin ((bF (aB aL (aB aL (hZ (aC (mC (.str "c.l.")) (aC (mC (.str ".fqr")) (aC (mC (.str "uqcq")) (aC (mC (.str ".rqf")) aF))))) (aB bQ (aB aL (aA 0) (mC (.int 1))) (mC (.int 4)))) (aB bQ (aB aL (aA 0) (mC (.int 0))) (mC (.int 4))))) [some d0] μ):=by
 kernel_rfl
theorem Pk (k:Nat)(d0:D)(μ:Hm):f (k+1) "_law_int" [d0] μ=fin ((bF (c8 (kB (aK cD (aC (aA 0) (aC (mC (.ty "bool")) aF)))) (aK cD (aC (aA 0) (aC (mC (.ty "int")) aF))))) [some d0] μ):=by
 kernel_rfl
theorem Pl (k:Nat)(d0 d1:D)(μ:Hm):f (k+1) "_law_are" [d0,d1] μ=fin ((aV (cA (dG (cL (cI (aK cD (aC (aA 0) (aC (mC (.ty "list")) aF))))) (a8 (aB (bL true) (aA 0) (aA 1)))) (bF (mC (.bl false))) b9) (aV (cT (dM (aA 0)) (c4 2) (cA (dG (cL (cI (aK cD (aC (aA 2) (aC (mC (.ty "tuple")) aF))))) (dG (a8 (aB (bL true) (aK dS (aC (aA 2) aF)) (mC (.int 2)))) (dG (cL (cI (aK (f k "_law_int") (aC (aB aL (aA 2) (mC (.int 0))) aF)))) (cL (cI (aK (f k "_law_int") (aC (aB aL (aA 2) (mC (.int 1))) aF))))))) (bF (mC (.bl false))) b9)) (bF (mC (.bl true))))) [some d0,some d1,none] μ):=by
 kernel_rfl
theorem Pm (k:Nat)(d0 d1 d2:D)(μ:Hm):f (k+1) "_law_amid" [d0,d1,d2] μ=fin ((aV (bK 3 (hZ aF)) (aV (cT (lX (aC (mC (.int 1)) (aC (aB dU (mC (.int 4)) (aA 0)) aF))) (c4 4) (bK 3 (aB dH (aA 3) (fZ (lX (aC (mC (.int 1)) (aC (aB dU (mC (.int 4)) (aA 1)) aF))) (a8 (aB (cM false) (aK (f k "_law_kind") (aC (eF (aC (aA 4) (aC (aA 5) aF))) aF)) (aA 2))) (eF (aC (aA 4) (aC (aA 5) aF))))))) (bF (aA 3)))) [some d0,some d1,some d2,none,none] μ):=by
 kernel_rfl
theorem Pn (k:Nat)(d0:D)(μ:Hm):f (k+1) "_law_size" [d0] μ=fin ((bF (aB aL (hZ (aC (mC (.int 1)) (aC (mC (.int 2)) (aC (mC (.int 3)) (aC (aB dH (mC (.int 1)) (aB bQ (aB dW (aA 0) (mC (.int 4))) (mC (.int 6)))) aF))))) (aB bQ (aA 0) (mC (.int 4))))) [some d0] μ):=by
 kernel_rfl
theorem Po (k:Nat)(d0:D)(μ:Hm):f (k+1) "_law_line" [d0] μ=fin ((aV (bK 1 (aK (f k "_law_kind") (aC (aA 0) aF))) (bF (eF (aC (aA 1) (aC (aB aL (kK [((mC (.str "l")),(aB aL (aA 0) (mC (.int 1)))),((mC (.str "u")),(aB aL (aA 0) (mC (.int 0)))),((mC (.str "f")),(aB nN (aB aL (aA 0) (mC (.int 0))) (aB aL (aA 0) (mC (.int 1))))),((mC (.str "r")),(aB dH (aB aL (aA 0) (mC (.int 0))) (aB aL (aA 0) (mC (.int 1)))))]) (aA 1)) aF))))) [some d0,none] μ):=by
 kernel_rfl
theorem Pp (k:Nat)(d0 d1 d2:D)(μ:Hm):f (k+1) "_law_creases" [d0,d1,d2] μ=fin ((aV (bK 3 (aK (f k "_law_amid") (aC (aA 0) (aC (aA 1) (aC (mC (.str "lufr")) aF))))) (aV (bK 4 kX) (aV (cT (kN (aC (aK dS (aC (aA 2) aF)) aF)) (c4 5) (aV (bK 6 (aB bQ (aB dH (aB dH (aB dU (aB aL (aA 2) (aA 5)) (mC (.int 48271))) (aB dU (aB dU (aA 5) (aA 5)) (mC (.int 40693)))) (mC (.int 7919))) (mC (.int 2147483647)))) (aV (bK 6 (aB bQ (aB dU (aA 6) (aA 6)) (mC (.int 2147483563)))) (aV (bK 7 (aB aL (aA 3) (aB bQ (aB dW (aA 6) (mC (.int 9))) (aK dS (aC (aA 3) aF))))) (cA (a8 (aB fV (aB bQ (aA 6) (mC (.int 9))) (mC (.int 7)))) (eC (aA 4) (aA 7) (aB aL (mC (.str "hvo")) (aB bQ (aB dW (aA 6) (mC (.int 2003))) (mC (.int 3))))) (aV (bK 8 (fZ (dM (aA 3)) (a8 (aB (bL false) (aK (f k "_law_line") (aC (aA 10) aF)) (aK (f k "_law_line") (aC (aA 7) aF)))) (aA 10))) (cT (kN (aC (aK dS (aC (aA 8) aF)) aF)) (c4 9) (eC (aA 4) (aB aL (aA 8) (aA 9)) (aB aL (mC (.str "hvo")) (aB bQ (aB dH (aB dW (aA 6) (mC (.int 2003))) (aB dU (aA 9) (aB bQ (aA 6) (mC (.int 2))))) (mC (.int 3)))))))))))) (bF (aA 4))))) [some d0,some d1,some d2,none,none,none,none,none,none,none] μ):=by
 kernel_rfl
theorem Pq (k:Nat)(d0 d1:D)(μ:Hm):f (k+1) "_law_is_sheet" [d0,d1] μ=fin ((aV (cA (dG (cL (cI (aK cD (aC (aA 0) (aC (mC (.ty "tuple")) aF))))) (dG (a8 (aB (bL true) (aK dS (aC (aA 0) aF)) (mC (.int 3)))) (dG (cL (cI (aK cD (aC (aB aL (aA 0) (mC (.int 2))) (aC (mC (.ty "tuple")) aF))))) (a8 (aB (bL true) (aA 0) (aA 1)))))) (bF (mC (.bl false))) b9) (aV (cA (dG (cL (cI (aK (f k "_law_int") (aC (aB aL (aA 0) (mC (.int 0))) aF)))) (cL (cI (aK (f k "_law_int") (aC (aB aL (aA 0) (mC (.int 1))) aF))))) (bF (mC (.bl false))) b9) (aV (cT (dM (aB aL (aA 0) (mC (.int 2)))) (c4 2) (cA (dG (cL (cI (aK cD (aC (aA 2) (aC (mC (.ty "tuple")) aF))))) (dG (a8 (aB (bL true) (aK dS (aC (aA 2) aF)) (mC (.int 2)))) (cL (cI (aK cD (aC (aB aL (aA 2) (mC (.int 1))) (aC (mC (.ty "str")) aF))))))) (bF (mC (.bl false))) b9)) (bF (aK (f k "_law_are") (aC (fZ (dM (aB aL (aA 0) (mC (.int 2)))) iE (aB aL (aA 3) (mC (.int 0)))) (aC (fZ (dM (aB aL (aA 1) (mC (.int 2)))) iE (aB aL (aA 3) (mC (.int 0)))) aF))))))) [some d0,some d1,none] μ):=by
 kernel_rfl
theorem Pr (k:Nat)(d0 d1:D)(μ:Hm):f (k+1) "_law_list" [d0,d1] μ=fin ((aV (fJ 0 (bK 2 (fZ (eW (aA 0)) iE (eF (aC (aA 3) (aC (aB aL (aA 0) (aA 3)) aF))))) (bK 2 (fZ (dM (aA 0)) iE (eF (aC (aA 3) (aC (aB aL (aA 0) (aA 3)) aF)))))) (aV (cA (a8 (aB (bL false) (aB bQ (aA 1) (mC (.int 3))) (mC (.int 1)))) (bF (aK jB (aC (aA 2) aF))) b9) (aV (cA (a8 (aB (bL false) (aB bQ (aA 1) (mC (.int 3))) (mC (.int 2)))) (bF (aK k6 (aC (aA 2) aF))) b9) (bF (aA 2))))) [some d0,some d1,none] μ):=by
 kernel_rfl
theorem Pt (k:Nat)(d0 d1 d2 d3:D)(μ:Hm):f (k+1) "_law_right" [d0,d1,d2,d3] μ=fin ((aV (cA (cL (cI (aK (f k "_law_is_sheet") (aC (aA 0) (aC (eF (aC (aA 1) (aC (aA 2) (aC (iV (aA 3)) aF)))) aF))))) (bF (mC (.bl false))) b9) (aV (cT (dM (aK (f k "_law_amid") (aC (aA 1) (aC (aA 2) (aC (mC (.str "lufr")) aF))))) (c4 4) (aV (bK 5 (aK (f k "mark_at") (aC (aA 0) (aC (aA 4) aF)))) (aV (cA (i6 (a8 (aB (cM true) (aA 4) (aA 3))) (a8 (aB (gH true) (aA 5) (mC .non)))) (bF (mC (.bl false))) b9) (cA (i6 (a8 (aB (cM false) (aA 4) (aA 3))) (dG (cL (cI (aK cD (aC (aA 5) (aC (mC (.ty "str")) aF))))) (a8 (aB (bL true) (aA 5) (aB aL (aA 3) (aA 4)))))) (bF (mC (.bl false))) b9)))) (bF (mC (.bl true))))) [some d0,some d1,some d2,some d3,none,none] μ):=by
 kernel_rfl
theorem Pu (k:Nat)(d0:D)(μ:Hm):f (k+1) "law" [d0] μ=fin ((aV (bK 1 (aK (f k "_law_size") (aC (aK (f k "_law_draw") (aC (aA 0) (aC (mC (.int 0)) aF))) aF))) (aV (bK 2 (aK (f k "_law_size") (aC (aK (f k "_law_draw") (aC (aA 0) (aC (mC (.int 1)) aF))) aF))) (aV (bK 3 (aK (f k "_law_draw") (aC (aA 0) (aC (mC (.int 2)) aF)))) (aV (bK 4 (aK (f k "_law_creases") (aC (aA 1) (aC (aA 2) (aC (kC (aA 0) (i7 (mC (.int 3))) nK) aF))))) (aV (bK 5 (aK (f k "_law_list") (aC (aA 4) (aC (aA 3) aF)))) (aV (bK 6 (aK mW (aC (aA 5) aF))) (aV (bK 7 (aK (f k "sheet_of") (aC (aA 1) (aC (aA 2) (aC (aA 5) aF))))) (aV (cA (a8 (aB (bL true) (aA 5) (aA 6))) (bF (mC (.bl false))) b9) (aV (lK (jA mE (aA 5) aF)) (aV (bK 8 kX) (aV (fJ 4 (cT (eW (aA 4)) (c4 9) (eC (aA 8) (aA 9) (aB aL (mC (.str "hvo")) (gJ iW (mC (.str "ovh")) (aC (aB aL (aA 4) (aA 9)) aF))))) (cT (dM (aA 4)) (c4 9) (eC (aA 8) (aA 9) (aB aL (mC (.str "hvo")) (gJ iW (mC (.str "ovh")) (aC (aB aL (aA 4) (aA 9)) aF)))))) (aV (bK 10 (aK (f k "sheet_of") (aC (aA 1) (aC (aA 2) (aC (aK (f k "_law_list") (aC (aA 8) (aC (aB dW (aA 3) (mC (.int 3))) aF))) aF))))) (aV (bK 11 kX) (aV (fJ 4 (cT (eW (aA 4)) (c4 9) (eC (aA 11) (aA 9) (aB aL (mC (.str "hvo")) (gJ iW (mC (.str "voh")) (aC (aB aL (aA 4) (aA 9)) aF))))) (cT (dM (aA 4)) (c4 9) (eC (aA 11) (aA 9) (aB aL (mC (.str "hvo")) (gJ iW (mC (.str "voh")) (aC (aB aL (aA 4) (aA 9)) aF)))))) (aV (cA (cL (cI (aK (f k "_law_right") (aC (eF (aC (aA 1) (aC (aA 2) (aC (iV (aA 11)) aF)))) (aC (aA 1) (aC (aA 2) (aC (aA 11) aF))))))) (bF (mC (.bl false))) b9) (bF (c8 (aK (f k "_law_right") (aC (aA 7) (aC (aA 1) (aC (aA 2) (aC (aA 4) aF))))) (aK (f k "_law_right") (aC (aA 10) (aC (aA 1) (aC (aA 2) (aC (aA 8) aF)))))))))))))))))))))) [some d0,none,none,none,none,none,none,none,none,none,none,none] μ):=by
 kernel_rfl
end Lw
namespace Lw
open PySem L2 L3
theorem yA {z:Int}{μ:Hm}{Q:D×Hm->Prop}:W (dU (.int 4) (.int z) μ) Q↔Q (.int (4 * z),μ):=m4 (.inl ⟨by decide,by decide⟩)
theorem DZ {z:Int}{μ:Hm}{Q:D×Hm->Prop}:W (bQ (.int z) (.int 2) μ) Q↔Q (.int (z % 2),μ):=iY (by decide)
theorem D0 {z:Int}{μ:Hm}{Q:D×Hm->Prop}:W (bQ (.int z) (.int 4) μ) Q↔Q (.int (z % 4),μ):=iY (by decide)
theorem Pw {z:Int}{μ:Hm}{Q:D×Hm->Prop}:W (bQ (.int z) (.int 6) μ) Q↔Q (.int (z % 6),μ):=iY (by decide)
theorem Px {z:Int}{μ:Hm}{Q:D×Hm->Prop}:W (dW (.int z) (.int 4) μ) Q↔Q (.int (z / 4),μ):=oT (by decide) (by decide)
theorem Py:(2:Nat)<=Q6:=by decide
theorem r6 {a b:D}:([a,b]:List D).length<=Q6:=Py
theorem Pz {z:Int}{μ:Hm}{Q:D×Hm->Prop}:W (dW (.int z) (.int 9) μ) Q↔Q (.int (z / 9),μ):=oT (by decide) (by decide)
theorem PB {z:Int}{μ:Hm}{Q:D×Hm->Prop}:W (bQ (.int z) (.int 9) μ) Q↔Q (.int (z % 9),μ):=iY (by decide)
noncomputable def lE:D->Int
 | .int i=>i
 | _=>0
theorem D1 {lo:Int}{n:Nat}{d:D}(h:d∈i0 lo n):∃ j:Nat,j<n/\d=.int (lo+(j:Int)):=by
 unfold i0 at h
 obtain ⟨j,h1,rfl⟩:=RE.mp h
 exact ⟨j,Ss.mp h1,rfl⟩
noncomputable def jQ (i j:Int):Str:=
 if j=0 then (if i=0 then "c" else if i=2 then "l" else ".") else if j=1 then (if i=1 then "f" else if i=2 then "q" else if i=3 then "r" else ".")
 else if j=2 then (if i=0 then "u" else if i=2 then "c" else "q") else (if i=1 then "r" else if i=2 then "q" else if i=3 then "f" else ".")
noncomputable def bN (x y:Int):Str:=jQ (x % 4) (y % 4)
theorem oU (x:Int):x % 4=0\/x % 4=1\/x % 4=2\/x % 4=3:=by omega
noncomputable def r8:List D:=[.str "c.l.",.str ".fqr",.str "uqcq",.str ".rqf"]
theorem PC (i j:Int)(hi:i=0\/i=1\/i=2\/i=3)(hj:j=0\/j=1\/j=2\/j=3)(μ:Hm):∃ r,atI r8 j=some r/\aL r (.int i) μ=some (.str (jQ i j),μ):=by
 rcases hj with rfl|rfl|rfl|rfl<;>rcases hi with rfl|rfl|rfl|rfl<;>exact ⟨_,rfl,by kernel_rfl⟩
theorem D2 (k:Nat)(x y:Int)(μ:Hm)(Q:D×Hm->Prop)(h:∀ μ',μ <+: μ'->Q (.str (bN x y),μ')):W (f (k+1) "_law_kind" [P x y] μ) Q:=by
 rw [Pj,cE]
 simp only [b6,bA,aY,aI,aR,aT,rP,jO,iZ,iY (show (0:Int)<4 by decide)]
 refine ⟨by decide,?_⟩
 obtain ⟨r,h1,h2⟩:=PC (x % 4) (y % 4) (oU x) (oU y) (μ++[.lst r8])
 refine (m5 (xs:=r8) (c5 μ _) h1).mpr ?_
 show W (aL r (.int (x % 4)) (μ++[.lst r8])) _
 rw [h2]
 exact W_some.mpr (h _ (cQ _ _))
noncomputable def c6 (s t:Str):Bool:=!(R0 t s 0 t.length 1).isEmpty
theorem PD {s t:Str}{μ:Hm}{Q:D×Hm->Prop}:W (cM false (.str s) (.str t) μ) Q↔Q (.bl (c6 s t),μ):=W_some
noncomputable def cell (ns:List Int)(i:Int):Int:=ns.getD i.toNat 0
theorem PF (ns:List Int)(i:Nat):fT (ns.map D.int) (some (i:Int)) (some ((i:Int)+1))=((ns.drop i).take 1).map D.int:=by
 have h1:((i:Int)+1)=((i+1:Nat):Int):=by omega
 unfold fT
 rw [h1,HT.sIx_nat,HT.sIx_nat]
 by_cases h:i<ns.length
 ·have e1:min i (ns.map D.int).length=i:=by rw [QY];omega
  have e2:min (i+1) (ns.map D.int).length - i=1:=by rw [QY];omega
  rw [e1,e2,List.map_take,a0H]
 ·have e1:min i (ns.map D.int).length=ns.length:=by rw [QY];omega
  rw [e1,SM (by rw [QY];omega),SM (by omega)]
  simp
theorem PH (ns:List Int)(i:Nat):atI ((.int 0:D)::((ns.drop i).take 1).map D.int) (-1)=some (.int (ns.getD i 0)):=by
 by_cases h:i<ns.length
 ·have e:(ns.drop i).take 1=[ns[i]]:=by
   rw [Tj h];rfl
  rw [e]
  have:ns.getD i 0=ns[i]:=by simp [RS,h]
  rw [this]
  rfl
 ·have e:ns.drop i=[]:=SM (by omega)
  rw [e]
  have:ns.getD i 0=0:=by simp [RS,R8 (Up.mp h)]
  rw [this]
  rfl
theorem yB (k:Nat)(ns:List Int)(i:Int)(hi:0<=i)(μ:Hm)(Q:D×Hm->Prop)(h:∀ μ',μ <+: μ'->Q (.int (cell ns i),μ')):W (f (k+1) "_law_draw" [.rol (ns.map D.int),.int i] μ) Q:=by
 rw [Ph,cE]
 simp only [b6,bA,aY,aI,aM,aR,aT,rP]
 refine ⟨by decide,?_⟩
 refine DX ?_
 simp only [aI]
 refine ⟨_,rfl,?_⟩
 simp only [DW,bA,aY,aI,aM,m3]
 obtain ⟨n,rfl⟩:∃ n:Nat,i=n:=⟨i.toNat,by omega⟩
 rw [PF]
 generalize hl:(ns.drop n).take 1=l
 have hlen:l.length<=1:=by rw [<- hl,RC];omega
 have hz:(1:Nat)+(l.map D.int).length<=Q6:=by
  rw [QY,Sn];omega
 have g1:(μ++[C.lst [D.int 0]]++[C.lst (l.map D.int)])[μ.length]? = some (C.lst [D.int 0]):=bM (cQ _ _) (c5 _ _)
 have g2:(μ++[C.lst [D.int 0]]++[C.lst (l.map D.int)])[(μ++[C.lst [D.int 0]]).length]? = some (C.lst (l.map D.int)):=c5 _ _
 rw [DR g1 g2 hz]
 simp only [OF,aY]
 have hat:=PH ns n
 rw [hl] at hat
 refine (m5 (c5 _ _) hat).mpr ?_
 exact h _ ((cQ _ _).trans ((cQ _ _).trans (cQ _ _)))
noncomputable def c7:D->Int×Int
 | .tup [.int x,.int y]=>(x,y)
 | _=>(0,0)
theorem PJ {d:D}{l:List (Int×Int)}(h:d∈l.map PP):∃ x y,d=P x y:=by
 obtain ⟨p,_,rfl⟩:=RE.mp h
 exact ⟨p.1,p.2,rfl⟩
theorem D3 (k:Nat)(i:Int)(μ:Hm)(Q:D×Hm->Prop):W (f (k+1) "_law_int" [.int i] μ) Q↔Q (.bl true,μ):=by
 rw [Pk,cE]
 simp only [b6,iX,DL,bE,aT,aR,aI,aY,DS,DT]
 simp
theorem PK (k:Nat)(a b:Nat)(ps qs:List (Int×Int))(μ:Hm)(Q:D×Hm->Prop)(ha:μ[a]? = some (.lst (ps.map PP)))(hb:μ[b]? = some (.lst (qs.map PP)))(h:Q (.bl (ps == qs),μ)):W (f (k+2) "_law_are" [.loc a,.loc b] μ) Q:=by
 rw [Pl,cE]
 simp only [bC,cX,mZ,fL,fM,bE,aT,aR,aI,aM,aY,d4,bA]
 refine (OZ ha).mpr ?_
 simp only [fB,Sh,Q3,if_false]
 refine (OQ ha hb).mpr ?_
 dsimp only
 cases e:ps == qs with
 | false=>
  simp only [if_true,Ui,b6,aY]
  rw [e] at h
  exact h
 | true=>
  simp only [if_true,Sh,Q3,if_false,cW]
  rw [e] at h
  simp only [jP,m7,aI]
  refine (rW ha).mpr ?_
  refine xT (fun i ρ μ'=>μ'=μ/\∃ o,ρ=[some (.loc a),some (.loc b),o]) ⟨rfl,none,rfl⟩ (fun i ρ μ' hI=>by rw [hI.1];exact ha) ?_ ?_
  ·rintro i d ρ μ' hd ⟨rfl,o,rfl⟩
   obtain ⟨u,v,rfl⟩:=PJ (Rz hd)
   refine ⟨_,rfl,?_⟩
   simp only [Rf,Rh,cX,mZ,fL,fM,bE,aT,aR,aI,aM,aY,d4,bA,rV,fB,DU,rR,jO,iZ,D3,cW,Sh,Q3,if_false]
   exact ⟨trivial,_,rfl⟩
  ·rintro ρ μ' ⟨rfl,o,rfl⟩
   simp only [b6,aY]
   exact h
theorem D4 {M:Int->Int->Prop}(h:∀ i j:Int,(i=0\/i=1\/i=2\/i=3)->(j=0\/j=1\/j=2\/j=3)->M i j)(x y:Int):M (x % 4) (y % 4):=h _ _ (oU x) (oU y)
theorem D5 (x:Int):x % 2=x % 4 % 2:=by omega
theorem kE (x y:Int):c6 (bN x y) "lufr" = (if x % 2=1 then y % 2 == 1 else (y % 2 == 0&&!(x % 4 == y % 4))):=by
 unfold bN
 rw [D5 x,D5 y]
 refine D4 (M:=fun i j=>c6 (jQ i j) "lufr" = (if i % 2=1 then j % 2 == 1 else (j % 2 == 0&&!(i == j)))) (fun i j hi hj=>?_) x y
 rcases hi with rfl|rfl|rfl|rfl<;>rcases hj with rfl|rfl|rfl|rfl<;>decide +kernel
theorem PL (k:Nat)(x y:Int)(μ:Hm)(Q:D×Hm->Prop):W (f (k+1) "is_edge" [P x y] μ) Q↔Q (.bl (c6 (bN x y) "lufr"),μ):=by
 rw [O8,cE,kE]
 simp only [bC,b6,cW,cX,d4,iX,bA,aY,aI,jO,iZ,rQ,rR,DZ,D0]
 by_cases h:x % 2=1
 ·simp [h]
 ·by_cases g:y % 2=0
  ·simp [h,g]
  ·have e:(y % 2 == 0)=false:=by simpa using g
   simp only [e,X3]
   simp [h]
noncomputable def gR (h:Int)(x:Int):List (Int×Int):=(Se (4 * h - 1).toNat).map fun (j:Nat)=>(x,1+(j:Int))
noncomputable def fC (h:Int)(n:Nat):List (Int×Int):=(Se n).flatMap fun (i:Nat)=>gR h (1+(i:Int))
noncomputable def jR (w h:Int):List (Int×Int):=fC h (4 * w - 1).toNat
noncomputable def cG (w h:Int)(s:Str):List (Int×Int):=(jR w h).filter fun p=>c6 (bN p.1 p.2) s
theorem D6 (h:Int)(n:Nat):fC h (n+1)=fC h n++gR h (1+(n:Int)):=by
 unfold fC;rw [List.range_succ,List.flatMap_append];simp
theorem D7 (h x:Int):(gR h x).length=(4 * h - 1).toNat:=by unfold gR;simp
theorem yC (h:Int):∀ n:Nat,(fC h n).length=n * (4 * h - 1).toNat
 | 0=>by simp [fC]
 | n+1=>by rw [D6,Q8,yC h n,D7,a1i]
theorem D8 {h:Int}(hh:h<=6){n:Nat}(hn:n<=23):n * (4 * h - 1).toNat<=529:=by
 have:n * (4 * h - 1).toNat<=23 * 23:=Nat.mul_le_mul hn (by omega)
 omega
theorem D9 {w h:Int}(hw:w<=6)(hh:h<=6):(jR w h).length<=529:=by
 unfold jR
 rw [yC]
 exact D8 hh (by omega)
theorem PM (h:Int)(p:Int×Int->Bool)(n:Nat):(fC h (n+1)).filter p=(fC h n).filter p++(gR h (1+(n:Int))).filter p:=by
 rw [D6,WU]
theorem PN (h x:Int)(s:Str):((i0 1 (4 * h - 1).toNat).filter fun d=>c6 (bN x (lE d)) s).map (fun d=>P x (lE d))=((gR h x).filter fun p=>c6 (bN p.1 p.2) s).map PP:=by
 unfold i0 gR
 rw [a0g,a0g,RJ,RJ]
 rfl
theorem Ea (k:Nat)(w h:Int)(s:Str)(hw:1<=w/\w<=6)(hh:1<=h/\h<=6)(μ:Hm)(Q:D×Hm->Prop)(H:∀ a μ',μ <+: μ'->μ'[a]? = some (.lst ((cG w h s).map PP))->μ.length<=a->Q (.loc a,μ')):W (f (k+2) "_law_amid" [.int w,.int h,.str s] μ) Q:=by
 rw [Pm,cE]
 simp only [bC,cF,rP,aR]
 refine ⟨Su _,?_⟩
 simp only [Rf,Rh,jP,DO,aT,aR,aY,bA,aI,aM,yA]
 refine ⟨by omega,?_⟩
 refine xU (lo:=1) (fun i ρ μ'=>μ <+: μ'/\∃ a o,μ.length<=a/\μ'[a]? = some (.lst (((fC h i).filter fun p=>c6 (bN p.1 p.2) s).map PP))/\ρ=[some (.int w),some (.int h),some (.str s),some (.loc a),o]) ⟨cQ _ _,μ.length,none,Q0 _,c5 _ _,rfl⟩ ?_ ?_
 ·rintro i ρ μ1 hi ⟨hp,a,o,la,hg,rfl⟩
  refine ⟨_,rfl,?_⟩
  simp only [Rf,Rh,cF,bA,aI,aM]
  refine rS (xs:=i0 1 (4 * h - 1).toNat) (p:=fun d=>c6 (bN (1+(i:Int)) (lE d)) s) (v:=fun d=>P (1+(i:Int)) (lE d)) ?_
  simp only [DO,aT,aR,aY,bA,aI,aM,yA]
  refine ⟨by omega,ON,by simp [i0],by rw [Sn];simp [i0];omega,?_,?_,?_⟩
  ·intro d μ' hd hp
   obtain ⟨j,hj,rfl⟩:=D1 hd
   simp only [SY,Tx,d4,bA,bE,lA,aT,aR,aI,aM,r6,true_and]
   refine D2 _ _ _ _ _ fun μ2 p2=>?_
   refine (PD).mpr ?_
   exact ⟨rfl,p2⟩
  ·intro d μ' hd _ hp
   obtain ⟨j,hj,rfl⟩:=D1 hd
   simp only [SY,Tx,lA,aT,aR,aI,aM,r6,true_and]
   exact ⟨rfl,Ue _⟩
  ·intro μ2 hp2 hg2
   rw [PN] at hg2
   have hlen:(((fC h i).filter fun p=>c6 (bN p.1 p.2) s).map PP).length+(((gR h (1+(i:Int))).filter fun p=>c6 (bN p.1 p.2) s).map PP).length<=Q6:=by
    have h1:=D8 (h:=h) hh.2 (n:=i+1) (by omega)
    have h2:=TV (fun p=>c6 (bN p.1 p.2) s) (fC h i)
    have h3:=TV (fun p=>c6 (bN p.1 p.2) s) (gR h (1+(i:Int)))
    rw [yC] at h2
    rw [D7] at h3
    rw [a1i] at h1
    rw [QY,QY,Sn]
    omega
   refine (DR (bM hp2 hg) hg2 hlen).mpr ?_
   refine ⟨(hp.trans hp2).trans (cQ _ _),_,_,SR (oS hp) (oS hp2),?_,rfl⟩
   rw [c5,PM,Th]
 ·rintro ρ μ1 ⟨hp,a,o,la,hg,rfl⟩
  simp only [b6,aI,aM]
  exact H _ _ hp hg la
noncomputable def r9 (p:Int×Int):Bool:=if p.1 % 2=1 then p.2 % 2 == 1 else (p.2 % 2 == 0&&!(p.1 % 4 == p.2 % 4))
theorem PQ (w h:Int):cG w h "lufr" = (jR w h).filter r9:=by
 unfold cG r9;refine List.filter_congr fun p _=>?_;rw [kE]
noncomputable def a9 (p:Int×Int):List Int:=[p.1,p.2]
theorem PR {α:Type}(l:List α)(d:α):(Se l.length).map (fun i=>l.getD i d)=l:=by
 refine Z0 (by simp) fun i h1 h2=>?_
 simp [RS,h2]
theorem PU {es:List (Int×Int)}{i:Nat}{d:D}(h:(es.map PP)[i]? = some d):∃ p,es[i]? = some p/\d=PP p:=by
 rw [RH] at h
 obtain ⟨p,h1,h2⟩:=QR.mp h
 exact ⟨p,h1,h2.symm⟩
theorem fN (q:Int×Int):bZ (PP q)=some (a9 q):=rfl
theorem PV {l:List (List Int×D)}(nd:(l.map (·.1)).Nodup){k:List Int}{d:D}(h:(k,d)∈l):bD l k=some d:=by
 induction l with
 | nil=>cases h
 | cons p l ih=>
  rw [Ra,So] at nd
  unfold bD
  rw [Sq]
  rcases RD.mp h with h|h
  ·rw [<- h]
   simp
  ·have:decide (p.1=k)=false:=decide_eq_false fun z=>nd.1 (RE.mpr ⟨_,h,z.symm⟩)
   rw [this]
   exact ih nd.2 h
theorem m9 {p q:Int×Int}(h:a9 p=a9 q):p=q:=by
 unfold a9 at h
 injection h with h1 h2
 injection h2 with h2
 exact Prod.ext h1 h2
theorem gT {μ:Hm}{a:Nat}{c c':C}(h:μ[a]? = some c):(μ.set a c')[a]? = some c':=by
 rw [Sf (QN.mp h).1]
theorem PX {μ:Hm}{a:Nat}{c:C}(h:μ[a]? = some c):μ.set a c=μ:=by
 obtain ⟨hl,rfl⟩:=QN.mp h
 exact YH hl
noncomputable abbrev Zr:=List ((Int×Int)×List (Int×Int)×Nat)
noncomputable def fP (Z:Zr):List (List Int×D):=Z.map fun z=>(a9 z.1,D.loc z.2.2)
structure GI (μ0 μ:Hm)(a:Nat)(Z:Zr):Prop where
 pre:μ0 <+: μ
 lo:μ0.length<=a
 dic:μ[a]? = some (.dT (fP Z))
 kd:(Z.map (·.1)).Nodup
 bd:(Z.map (·.2.2)).Nodup
 at_:∀ z∈Z,μ0.length<=z.2.2/\μ[z.2.2]? = some (.lst (z.2.1.map PP))
theorem PY {Z:Zr}{p:Int×Int}(h:p∉Z.map (·.1)):bD (fP Z) (a9 p)=none:=by
 unfold bD
 rw [Zo.mpr]
 ·rfl
 ·intro x hx
  obtain ⟨z,hz,rfl⟩:=RE.mp hx
  rw [decide_eq_true_iff]
  exact fun e=>h (RE.mpr ⟨z,hz,m9 e⟩)
theorem PZ {Z:Zr}(kd:(Z.map (·.1)).Nodup){z y:(Int×Int)×List (Int×Int)×Nat}(hz:z∈Z)(hy:y∈Z)(e:z.1=y.1):z=y:=by
 induction Z with
 | nil=>cases hz
 | cons x Z ih=>
  rw [Ra,So] at kd
  rcases RD.mp hz with h1|h1<;>rcases RD.mp hy with h2|h2
  ·rw [h1,h2]
  ·exact (kd.1 (RE.mpr ⟨y,h2,by rw [<- h1];exact e.symm⟩)).elim
  ·exact (kd.1 (RE.mpr ⟨z,h1,by rw [<- h2];exact e⟩)).elim
  ·exact ih kd.2 h1 h2
theorem P0 {Z:Zr}(bd:(Z.map (·.2.2)).Nodup){z y:(Int×Int)×List (Int×Int)×Nat}(hz:z∈Z)(hy:y∈Z)(e:z.2.2=y.2.2):z=y:=by
 induction Z with
 | nil=>cases hz
 | cons x Z ih=>
  rw [Ra,So] at bd
  rcases RD.mp hz with h1|h1<;>rcases RD.mp hy with h2|h2
  ·rw [h1,h2]
  ·exact (bd.1 (RE.mpr ⟨y,h2,by rw [<- h1];exact e.symm⟩)).elim
  ·exact (bd.1 (RE.mpr ⟨z,h1,by rw [<- h2];exact e⟩)).elim
  ·exact ih bd.2 h1 h2
theorem GI.more {μ0 μ μ':Hm}{a:Nat}{Z:Zr}(I:GI μ0 μ a Z)(h:μ <+: μ'):GI μ0 μ' a Z:=⟨I.pre.trans h,I.lo,bM h I.dic,I.kd,I.bd,fun z hz=>⟨(I.at_ z hz).1,bM h (I.at_ z hz).2⟩⟩
theorem GI.ne {μ0 μ:Hm}{a:Nat}{Z:Zr}(I:GI μ0 μ a Z){z:(Int×Int)×List (Int×Int)×Nat}(hz:z∈Z):z.2.2≠a:=fun e=>by
 have h1:=(I.at_ z hz).2
 rw [e,I.dic] at h1
 cases h1
theorem GI.hit {μ0 μ:Hm}{a:Nat}{Z:Zr}(I:GI μ0 μ a Z){z:(Int×Int)×List (Int×Int)×Nat}(hz:z∈Z)(q:Int×Int) :
  GI μ0 (μ.set z.2.2 (.lst (z.2.1.map PP++[PP q]))) a (Z.map fun y=>if y.1=z.1 then (y.1,y.2.1++[q],y.2.2) else y):=by
 have ek:(Z.map fun y=>if y.1=z.1 then (y.1,y.2.1++[q],y.2.2) else y).map (·.1)=Z.map (·.1):=by
  rw [RJ]
  refine SE fun y _=>?_
  show (if y.1=z.1 then (y.1,y.2.1++[q],y.2.2) else y).1=y.1
  split<;>rfl
 have eb:(Z.map fun y=>if y.1=z.1 then (y.1,y.2.1++[q],y.2.2) else y).map (·.2.2)=Z.map (·.2.2):=by
  rw [RJ]
  refine SE fun y _=>?_
  show (if y.1=z.1 then (y.1,y.2.1++[q],y.2.2) else y).2.2=y.2.2
  split<;>rfl
 have ev:fP (Z.map fun y=>if y.1=z.1 then (y.1,y.2.1++[q],y.2.2) else y)=fP Z:=by
  unfold fP
  rw [RJ]
  refine SE fun y _=>?_
  show (a9 (if y.1=z.1 then (y.1,y.2.1++[q],y.2.2) else y).1,D.loc (if y.1=z.1 then (y.1,y.2.1++[q],y.2.2) else y).2.2)=_
  split<;>rfl
 refine ⟨jN I.pre (I.at_ z hz).1 _,I.lo,?_,by rw [ek];exact I.kd,by rw [eb];exact I.bd,fun y hy=>?_⟩
 ·rw [ev,Rt (I.ne hz)]
  exact I.dic
 ·obtain ⟨x,hx,rfl⟩:=RE.mp hy
  obtain ⟨l1,l2⟩:=I.at_ x hx
  by_cases e:x.1=z.1
  ·have:x=z:=PZ I.kd hx hz e
   subst this
   rw [if_pos rfl]
   refine ⟨l1,?_⟩
   show (μ.set x.2.2 _)[x.2.2]? = _
   rw [gT l2,Th]
   rfl
  ·rw [if_neg e]
   refine ⟨l1,?_⟩
   rw [Rt fun w=>e (by rw [P0 I.bd hx hz w.symm])]
   exact l2
theorem P1 {Z:Zr}{p:Int×Int}{qs:List (Int×Int)}{b:Nat}(h:p∉Z.map (·.1)):cU (fP Z) (a9 p) (.loc b)=fP (Z++[(p,qs,b)]):=by
 unfold cU
 rw [PY h,if_neg (by simp)]
 unfold fP
 rw [Th]
 rfl
theorem GI.new {μ0 μ:Hm}{a b:Nat}{Z:Zr}(I:GI μ0 μ a Z){p:Int×Int}(hp:p∉Z.map (·.1)){qs:List (Int×Int)}(hb:μ[b]? = some (.lst (qs.map PP)))(h0:μ0.length<=b)(hn:∀ z∈Z,z.2.2≠b) :
  GI μ0 (μ.set a (.dT (cU (fP Z) (a9 p) (.loc b)))) a (Z++[(p,qs,b)]):=by
 have hba:b≠a:=fun e=>by
  rw [e,I.dic] at hb
  cases hb
 refine ⟨jN I.pre I.lo _,I.lo,by rw [gT I.dic,P1 hp],?_,?_,fun z hz=>?_⟩
 ·rw [Th,Uy]
  exact ⟨I.kd,by simp,fun x hx y hy e=>by
   simp only [Ra,Vg,RQ] at hy
   rw [e,hy] at hx
   exact hp hx⟩
 ·rw [Th,Uy]
  exact ⟨I.bd,by simp,fun x hx y hy e=>by
   simp only [Ra,Vg,RQ] at hy
   obtain ⟨z,hz,ez⟩:=RE.mp hx
   exact hn z hz (by rw [ez,e,hy])⟩
 ·rcases Sb.mp hz with hz|hz
  ·rw [Rt (Sw (I.ne hz))]
   exact I.at_ z hz
  ·rw [RQ.mp hz]
   exact ⟨h0,by rw [Rt (Sw hba)];exact hb⟩
theorem n5:∀ a b c:List Int,HT.lexLt a b=true->HT.lexLt b c=true->HT.lexLt a c=true
 | [],[],_,h,_=>by cases h
 | [],_::_,[],_,h=>by cases h
 | [],_::_,_::_,_,_=>rfl
 | _::_,[],_,h,_=>by cases h
 | _::_,_::_,[],_,h=>by cases h
 | x::xs,y::ys,z::zs,h1,h2=>by
  rw [HT.lexLt_cons] at h1 h2 ⊢
  by_cases e1:x=y
  ·subst e1
   rw [if_pos rfl] at h1
   by_cases e2:x=z
   ·rw [if_pos e2] at h2 ⊢
    exact n5 xs ys zs h1 h2
   ·rw [if_neg e2] at h2 ⊢
    exact h2
  ·rw [if_neg e1] at h1
   have h1:=of_decide_eq_true h1
   by_cases e2:y=z
   ·subst e2
    rw [if_neg e1]
    exact decide_eq_true h1
   ·rw [if_neg e2] at h2
    have h2:=of_decide_eq_true h2
    rw [if_neg (by omega)]
    exact decide_eq_true (by omega)
theorem Eb:∀ a b c:List Int,HT.lexLt a b=true->HT.lexLt a c=true\/HT.lexLt c b=true
 | [],[],_,h=>by cases h
 | [],_::_,[],_=>.inr rfl
 | [],_::_,_::_,_=>.inl rfl
 | _::_,[],_,h=>by cases h
 | _::_,_::_,[],_=>.inr rfl
 | x::xs,y::ys,z::zs,h=>by
  rw [HT.lexLt_cons] at h ⊢
  rw [HT.lexLt_cons]
  by_cases e1:x=y
  ·subst e1
   rw [if_pos rfl] at h
   by_cases e2:x=z
   ·subst e2
    rw [if_pos rfl,if_pos rfl]
    exact Eb xs ys zs h
   ·rw [if_neg e2,if_neg (Sw e2),decide_eq_true_iff,decide_eq_true_iff]
    omega
  ·rw [if_neg e1] at h
   have h:=of_decide_eq_true h
   by_cases e2:x=z
   ·subst e2
    rw [if_neg e1]
    exact .inr (decide_eq_true h)
   ·rw [if_neg e2,decide_eq_true_iff]
    by_cases e3:z=y
    ·subst e3
     exact .inl h
    ·rw [if_neg e3,decide_eq_true_iff]
     omega
theorem n4:∀ k:List Int,HT.lexLt k k=false
 | []=>rfl
 | a::k=>by rw [HT.lexLt_cons,if_pos rfl];exact n4 k
theorem Ec:∀ a b:List Int,HT.lexLt a b=false->HT.lexLt b a=false->a=b
 | [],[],_,_=>rfl
 | [],_::_,h,_=>by cases h
 | _::_,[],_,h=>by cases h
 | x::xs,y::ys,h1,h2=>by
  rw [HT.lexLt_cons] at h1 h2
  by_cases e:x=y
  ·subst e
   rw [if_pos rfl] at h1 h2
   rw [Ec xs ys h1 h2]
  ·rw [if_neg e] at h1
   rw [if_neg (Sw e)] at h2
   have h1:=of_decide_eq_false h1
   have h2:=of_decide_eq_false h2
   omega
theorem P2 {f:D->List D->Hm->Option (D×Hm)}{mo:ME}{ms:MA}{ρ:aG}{μ:Hm}{Q:D×Hm->Prop}(h:W (mo ρ μ) fun p=>mT p.2 p.1=true/\W (ms ρ p.2) fun q=>W (f p.1 q.1 q.2) Q):W (jF f mo ms ρ μ) Q:=by
 unfold jF
 rw [W_bind]
 refine bR h fun p q=>?_
 rw [q.1]
 exact W_bind.mpr q.2
theorem P4 {μ:Hm}{a:Nat}{kvs:List (List Int×D)}(h:μ[a]? = some (.dT kvs)):mT μ (.loc a)=true:=by
 simp only [mT,h]
noncomputable def Dc (μ:Hm)(a:Nat)(kvs:List (List Int×D)):Prop:=μ[a]? = some (.dT kvs)\/μ[a]? = some (.dF kvs)
theorem Ed {μ:Hm}{a:Nat}{kvs:List (List Int×D)}{y d:D}{k:List Int}{Q:D×Hm->Prop}(h:Dc μ a kvs)(hk:bZ y=some k)(hv:bD kvs k=some d):W (aL (.loc a) y μ) Q↔Q (d,μ):=by
 have:aL (.loc a) y μ=some (d,μ):=by
  rcases h with h|h<;>simp only [aL,h,hk,RM,hv,RL]
 rw [this]
 exact W_some
theorem Ee {i:Nat}{m1 m2:MS}{ρ:aG}{μ:Hm}{a:Nat}{kvs:List (List Int×D)}{Q:Fl×aG×Hm->Prop}(h:ρ[i]? = some (some (.loc a)))(hc:μ[a]? = some (.dT kvs))
  (H:W (m1 ρ (μ.set a (.dF kvs))) fun r=>r.2.2[a]? = some (.dF kvs)/\Q (r.1,r.2.1,r.2.2.set a (.dT kvs))):W (fJ i m1 m2 ρ μ) Q:=by
 have e:mS i ρ μ=some (a,kvs):=by simp only [mS,h,hc]
 unfold fJ
 rw [e]
 rw [W_bind]
 refine bR H fun r q=>?_
 rw [q.1]
 exact W_some.mpr q.2
theorem P5 {i j:Nat}{body:MS}{m2:MS}{ρ:aG}{μ:Hm}{a:Nat}{kvs:List (List Int×D)}{Q:Fl×aG×Hm->Prop}(hi:ρ[i]? = some (some (.loc a)))(hc:μ[a]? = some (.dT kvs))(I:Nat->aG->Hm->Prop)
  (h0:I 0 ρ (μ.set a (.dF kvs)))(go:∀ n k d ρ' μ',kvs[n]? = some (k,d)->I n ρ' μ'->W (body (ρ'.set j (some (.tup (k.map D.int)))) μ') fun p=>p.1=.nx/\I (n+1) p.2.1 p.2.2)
  (stop:∀ ρ' μ',I kvs.length ρ' μ'->μ'[a]? = some (.dF kvs)/\Q (.nx,ρ',μ'.set a (.dT kvs))):W (fJ i (cT (eW (aA i)) (c4 j) body) m2 ρ μ) Q:=by
 refine Ee hi hc ?_
 have gF:(μ.set a (.dF kvs))[a]? = some (.dF kvs):=gT hc
 have hit:eW (aA i) ρ (μ.set a (.dF kvs))=some (dJ (.tup (eV kvs)),kvs.length+1,μ.set a (.dF kvs)):=by
  simp only [eW,aA,hi,RM,gF]
 rw [jP,hit,W_some]
 refine m8 (N:=kvs.length) I (fun n ρ' μ' hn hI=>?_) (fun ρ' μ' hI=>⟨?_,stop ρ' μ' hI⟩) kvs.length 0 ρ _ (by omega) h0
 ·have e:kvs[n]? = some (kvs[n].1,kvs[n].2):=QV hn
  refine ⟨.tup (kvs[n].1.map D.int),_,?_,rfl,bR (go n _ _ ρ' μ' e hI) fun p q=>?_⟩
  ·show some ((eV kvs)[n]?)=_
   unfold eV
   rw [RH,e]
   rfl
  ·rw [q.1]
   exact q.2
 ·show some ((eV kvs)[kvs.length]?)=_
  rw [R8 (by unfold eV;simp)]
structure HI (μ:Hm)(a:Nat)(Z:Zr):Prop where
 dic:Dc μ a (fP Z)
 kd:(Z.map (·.1)).Nodup
 at_:∀ z∈Z,μ[z.2.2]? = some (.lst (z.2.1.map PP))
theorem Dc.more {μ μ':Hm}{a:Nat}{kvs:List (List Int×D)}(I:Dc μ a kvs)(h:μ <+: μ'):Dc μ' a kvs:=I.elim (fun e=>.inl (bM h e)) fun e=>.inr (bM h e)
theorem HI.more {μ μ':Hm}{a:Nat}{Z:Zr}(I:HI μ a Z)(h:μ <+: μ'):HI μ' a Z:=⟨I.dic.more h,I.kd,fun z hz=>bM h (I.at_ z hz)⟩
theorem HI.ne {μ:Hm}{a b:Nat}{kvs:List (List Int×D)}{Z:Zr}(I:HI μ a Z)(h:Dc μ b kvs){z:(Int×Int)×List (Int×Int)×Nat}(hz:z∈Z):z.2.2≠b:=fun e=>by
 have h1:=I.at_ z hz
 rw [e] at h1
 rcases h with h|h<;>(rw [h] at h1;cases h1)
theorem HI.frz {μ:Hm}{a b:Nat}{kvs:List (List Int×D)}{Z:Zr}(I:HI μ a Z)(h:μ[b]? = some (.dT kvs)):HI (μ.set b (.dF kvs)) a Z:=by
 refine ⟨?_,I.kd,fun z hz=>by rw [Rt (Sw (I.ne (.inl h) hz))];exact I.at_ z hz⟩
 by_cases e:b=a
 ·subst e
  have:kvs=fP Z:=by
   rcases I.dic with w|w
   ·rw [h] at w;injection w with w;injection w
   ·rw [h] at w;cases w
  rw [<- this]
  exact .inr (gT h)
 ·unfold Dc
  rw [Rt e]
  exact I.dic
theorem GI.hi {μ0 μ:Hm}{a:Nat}{Z:Zr}(I:GI μ0 μ a Z):HI μ a Z:=⟨.inl I.dic,I.kd,fun z hz=>(I.at_ z hz).2⟩
theorem Ef {μ μ1:Hm}{a:Nat}{kvs:List (List Int×D)}(hc:μ[a]? = some (.dT kvs))(h:μ.set a (.dF kvs) <+: μ1):μ <+: μ1.set a (.dT kvs):=by
 obtain ⟨t,rfl⟩:=h
 have hl:a<μ.length:=(QN.mp hc).1
 rw [YV _ _ (by rw [SG];exact hl),a0V,PX hc]
 exact Zn _ _
theorem GI.frz {μ0 μ:Hm}{a b:Nat}{kvs kvs':List (List Int×D)}{Z:Zr}(I:GI μ0 μ a Z)(h:Dc μ b kvs)(hb:b≠a)(c:C)(h0:μ0.length<=b):GI μ0 (μ.set b c) a Z:=
 ⟨jN I.pre h0 c,I.lo,by rw [Rt hb];exact I.dic,I.kd,I.bd,fun z hz=>⟨(I.at_ z hz).1,by rw [Rt (Sw (I.hi.ne h hz))];exact (I.at_ z hz).2⟩⟩
theorem sA {i:Nat}{ρ:aG}{μ:Hm}{d:D}{Q:D×Hm->Prop}(h:ρ[i]? = some (some d)):W (aA i ρ μ) Q↔Q (d,μ):=by
 have:aA i ρ μ=some (d,μ):=by simp only [aA,h]
 rw [this]
 exact W_some
theorem Eg {α:Type}{l:List α}{n:Nat}{x:α}(h:l[n]? = some x):l.take (n+1)=l.take n++[x]:=by
 rw [ZK,h]
 rfl
theorem Eh {α:Type}{l:List α}(nd:l.Nodup){n:Nat}{x:α}(h:l[n]? = some x):x∉l.take n:=fun hx=>by
 obtain ⟨j,hj⟩:=Ut.mp hx
 have hjn:j<n:=by
  have:=(QN.mp hj).1
  rw [RC] at this
  omega
 rw [Sv hjn] at hj
 have hn:n<l.length:=(QN.mp h).1
 have e1:=(QN.mp hj).2
 have e2:=(QN.mp h).2
 exact absurd ((ZY nd).mp (e1.trans e2.symm)) (by omega)
noncomputable abbrev aU (v:Int×Int->D)(ps:List (Int×Int)):List (List Int×D):=ps.map fun p=>(a9 p,v p)
theorem nA {v:Int×Int->D}{ps:List (Int×Int)}(nd:ps.Nodup){p:Int×Int}(h:p∈ps):bD (aU v ps) (a9 p)=some (v p):=by
 refine PV ?_ (RE.mpr ⟨p,h,rfl⟩)
 rw [RJ]
 exact X1 _ (fun a b hab x=>hab (m9 x)) nd
theorem nB {v:Int×Int->D}{ps:List (Int×Int)}{p:Int×Int}(h:p∉ps):bD (aU v ps) (a9 p)=none:=by
 unfold bD
 rw [Zo.mpr]
 ·rfl
 ·intro x hx
  obtain ⟨z,hz,rfl⟩:=RE.mp hx
  rw [decide_eq_true_iff]
  exact fun e=>h (m9 e ▸ hz)
theorem yD {v:Int×Int->D}{ps:List (Int×Int)}{p:Int×Int}(h:p∉ps):cU (aU v ps) (a9 p) (v p)=aU v (ps++[p]):=by
 unfold cU
 rw [nB h,if_neg (by simp)]
 show _=List.map _ _
 rw [Th]
 rfl
noncomputable def cJ (ps:List (Int×Int)):List (Int×Int):=(bB (fun i j=>HT.lexLt ((ps.map a9).getD i []) ((ps.map a9).getD j [])) ps.length).map fun i=>ps.getD i (0,0)
theorem lB (ps:List (Int×Int)):(cJ ps).Perm ps:=by
 have p:=(dO (fun i j=>HT.lexLt ((ps.map a9).getD i []) ((ps.map a9).getD j [])) ps.length).map fun i=>ps.getD i (0,0)
 rw [PR] at p
 exact p
theorem Ei (v:Int×Int->D)(ps:List (Int×Int)):jE (aU v ps)=aU v (cJ ps):=by
 unfold jE cJ aU
 have ek:(ps.map fun p=>(a9 p,v p)).map (·.1)=ps.map a9:=by rw [RJ];rfl
 rw [ek,QY,RJ]
 refine SE fun i hi=>?_
 have hi:i<ps.length:=Ss.mp ((dO _ _).mem_iff.mp hi)
 simp [RS,hi]
theorem Ej (ps:List (Int×Int)):((cJ ps).map a9).Pairwise fun x y=>HT.lexLt y x=false:=by
 by_cases h:ps=[]
 ·subst h
  have:cJ []=[]:=by
   have:=(lB []).length_eq
   exact Tc.mp this
  rw [this]
  exact .nil
 have h0:0<ps.length:=Y8.mpr h
 have S:=BV (lt:=HT.lexLt) n4 n5 Eb [] (ps.map a9) (n:=ps.length) h0
 unfold cJ
 rw [RJ,SQ]
 have hm:∀ i∈bB (fun i j=>HT.lexLt ((ps.map a9).getD i []) ((ps.map a9).getD j [])) ps.length,a9 (ps.getD i (0,0))=(ps.map a9).getD i []:=fun i hi=>by
  have hi:i<ps.length:=Ss.mp ((dO _ _).mem_iff.mp hi)
  simp [RS,hi]
 exact S.imp_of_mem fun {i j} hi hj h=>by
  show HT.lexLt (a9 (ps.getD j (0,0))) (a9 (ps.getD i (0,0)))=false
  rw [hm i hi,hm j hj]
  exact h
theorem srt_eq {ps qs:List (Int×Int)}:cJ ps=cJ qs↔ps.Perm qs:=by
 constructor
 ·intro h
  exact (lB ps).symm.trans (h ▸ lB qs)
 ·intro h
  have e:(cJ ps).map a9=(cJ qs).map a9:=VR (le:=fun x y=>HT.lexLt y x=false) (fun a b _ _ h1 h2=>(Ec b a h1 h2).symm) (Ej ps) (Ej qs) ((((lB ps).trans h).trans (lB qs).symm).map _)
  have inj:∀ {a b:List (Int×Int)},a.map a9=b.map a9->a=b:=fun {a}=>by
   induction a with
   | nil=>intro b h;cases b with
    | nil=>rfl
    | cons=>cases h
   | cons x a ih=>intro b h;cases b with
    | nil=>cases h
    | cons y b=>
     rw [Ra,Ra] at h
     injection h with h1 h2
     rw [m9 h1,ih h2]
  exact inj e
noncomputable def aZ (m:Int×Int->Str)(p:Int×Int):D:=.str (m p)
noncomputable def jS (s:Str):Prop:=s = "o"\/s = "v"\/s = "h"
noncomputable abbrev MD (p:(Int×Int)×Str):D:=.tup [PP p.1,.str p.2]
noncomputable abbrev SH (w h:Int)(ms:List ((Int×Int)×Str)):D:=.tup [.int w,.int h,.tup (ms.map MD)]
noncomputable def bS (m:Int×Int->Str)(ps:List (Int×Int)):List ((Int×Int)×Str):=ps.map fun p=>(p,m p)
theorem Ek {l:List ((Int×Int)×Str)}{i:Nat}{d:D}(h:(l.map MD)[i]? = some d):∃ p,l[i]? = some p/\d=MD p:=by
 rw [RH] at h
 obtain ⟨p,h1,h2⟩:=QR.mp h
 exact ⟨p,h1,h2.symm⟩
theorem P6 (m:Int×Int->Str)(ps:List (Int×Int))(p:Int×Int)(c:Str):cU (aU (aZ m) ps) (a9 p) (.str c)=aU (aZ fun q=>if q=p then c else m q) (if p∈ps then ps else ps++[p]):=by
 unfold cU
 by_cases h:p∈ps
 ·have e:(bD (aU (aZ m) ps) (a9 p)).isSome=true:=by
   unfold bD
   rw [U3,List.find?_isSome]
   exact ⟨_,RE.mpr ⟨p,h,rfl⟩,by simp⟩
  rw [if_pos e,if_pos h]
  unfold aU
  rw [RJ]
  refine SE fun q _=>?_
  show (if a9 q=a9 p then (a9 q,D.str c) else (a9 q,aZ m q))=(a9 q,aZ _ q)
  unfold aZ
  dsimp only
  by_cases e:q=p
  ·rw [if_pos (by rw [e]),if_pos e]
  ·rw [if_neg (fun z=>e (m9 z)),if_neg e]
 ·rw [nB h,if_neg (by simp),if_neg h]
  unfold aU
  rw [Th]
  congr 1
  ·refine SE fun q hq=>?_
   unfold aZ
   dsimp only
   rw [if_neg (fun z:q=p=>h (z ▸ hq))]
  ·show [_]=[(a9 p,aZ _ p)]
   unfold aZ
   dsimp only
   rw [if_pos rfl]
theorem Em {α:Type} [DecidableEq α]:∀ {l t:List α},l.Nodup->(∀ x∈l,x∈t)->l.length<=t.length
 | [],_,_,_=>Su _
 | x::l,t,nd,h=>by
  rw [So] at nd
  have hx:=h x (Ru ..)
  have:=Em (l:=l) (t:=t.erase x) nd.2 fun y hy=>(List.mem_erase_of_ne (fun e:y=x=>nd.1 (e ▸ hy))).mpr (h y (Rm _ hy))
  rw [List.length_erase_of_mem hx] at this
  have:0<t.length:=List.length_pos_of_mem hx
  rw [Rq]
  omega
structure Mk (w h:Int)(ps:List (Int×Int))(m:Int×Int->Str):Prop where
 nd:ps.Nodup
 ed:∀ p∈ps,p∈cG w h "lufr"
 ok:∀ p,jS (m p)
theorem Mk.len {w h:Int}{ps:List (Int×Int)}{m:Int×Int->Str}(M:Mk w h ps m)(hw:w<=6)(hh:h<=6):ps.length<=529:=
 SR (Em M.nd M.ed) (SR (TV _ _) (D9 hw hh))
theorem Mk.put {w h:Int}{ps:List (Int×Int)}{m:Int×Int->Str}(M:Mk w h ps m){p:Int×Int}(hp:p∈cG w h "lufr") {c:Str}(hc:jS c):Mk w h (if p∈ps then ps else ps++[p]) fun q=>if q=p then c else m q:=by
 refine ⟨?_,fun q hq=>?_,fun q=>?_⟩
 ·split
  ·exact M.nd
  ·rename_i h
   refine Uy.mpr ⟨M.nd,by simp,fun a ha b hb e=>?_⟩
   rw [RQ] at hb
   exact h (by rw [<- hb,<- e];exact ha)
 ·split at hq
  ·exact M.ed q hq
  ·rcases Sb.mp hq with hq|hq
   ·exact M.ed q hq
   ·rw [RQ.mp hq]
    exact hp
 ·split
  ·exact hc
  ·exact M.ok q
theorem Mk.perm {w h:Int}{ps qs:List (Int×Int)}{m:Int×Int->Str}(M:Mk w h ps m)(hp:qs.Perm ps):Mk w h qs m:=⟨hp.nodup_iff.mpr M.nd,fun p h=>M.ed p (hp.mem_iff.mp h),M.ok⟩
theorem oV (m:Int×Int->Str)(ps:List (Int×Int)):(bS m ps).map MD=ps.map fun p=>D.tup [PP p,aZ m p]:=by
 unfold bS
 rw [RJ]
 rfl
theorem P7 {n i:Nat}(h:i<n):g7 n (i:Int)=some i:=by
 unfold g7
 rw [if_pos (by omega),if_pos (by omega)]
 rfl
theorem yE {α:Type}{xs:List α}{i:Int}{x:α}(h0:0<=i)(h:xs[i.toNat]? = some x):atI xs i=some x:=by
 have hi:i.toNat<xs.length:=(QN.mp h).1
 unfold atI
 have e:i=((i.toNat:Nat):Int):=by omega
 rw [e,P7 hi]
 exact h
noncomputable def jT (c:Int):Int:=if c % 4=0 then 1 else if c % 4=1 then 2 else if c % 4=2 then 3 else 1+c / 4 % 6
theorem Eo (c:Int):1<=jT c/\jT c<=6:=by
 unfold jT
 repeat' split
 all_goals omega
theorem Ep (k:Nat)(c:Int)(μ:Hm)(Q:D×Hm->Prop)(H:∀ μ',μ <+: μ'->Q (.int (jT c),μ')):W (f (k+1) "_law_size" [.int c] μ) Q:=by
 rw [Pn,cE]
 simp only [b6,bA,rP,aT,aR,aY,aI,Px,Pw,D0,m3]
 refine ⟨by show (4:Nat)<=Q6;decide,?_⟩
 have e:atI [D.int 1,D.int 2,D.int 3,D.int (1+c / 4 % 6)] (c % 4)=some (.int (jT c)):=by
  unfold jT
  have:=oU c
  rcases this with h|h|h|h<;>rw [h]<;>rfl
 refine (m5 (c5 _ _) e).mpr ?_
 exact H _ (cQ _ _)
theorem P8 (a b c d:D):nT [] [(.inr "l",a),(.inr "u",b),(.inr "f",c),(.inr "r",d)]=[(.inr "l",a),(.inr "u",b),(.inr "f",c),(.inr "r",d)]:=by kernel_rfl
noncomputable abbrev yF (x y:Int):List (aD×D):=[(.inr "l",D.int y),(.inr "u",D.int x),(.inr "f",D.int (x - y)),(.inr "r",D.int (x+y))]
noncomputable def fQ (x y:Int):Int:=match eM (yF x y) (.inr (bN x y)) with|some (.int i)=>i|_=>0
theorem P9 {x y:Int}:c6 (bN x y) "lufr" = true->bN x y = "l"\/bN x y = "u"\/bN x y = "f"\/bN x y = "r":=by
 unfold bN
 refine D4 (M:=fun i j=>c6 (jQ i j) "lufr" = true->jQ i j = "l"\/jQ i j = "u"\/jQ i j = "f"\/jQ i j = "r") (fun i j hi hj=>?_) x y
 rcases hi with rfl|rfl|rfl|rfl<;>rcases hj with rfl|rfl|rfl|rfl<;>decide +kernel
theorem Qa {x y:Int}(h:c6 (bN x y) "lufr" = true):eM (yF x y) (.inr (bN x y))=some (.int (fQ x y)):=by
 unfold fQ
 rcases P9 h with h|h|h|h<;>rw [h]<;>kernel_rfl
theorem Er (k:Nat)(p:Int×Int)(hp:c6 (bN p.1 p.2) "lufr" = true) (μ:Hm)(Q:D×Hm->Prop)(H:∀ μ',μ <+: μ'->Q (.tup [.str (bN p.1 p.2),.int (fQ p.1 p.2)],μ')):W (f (k+2) "_law_line" [PP p] μ) Q:=by
 rw [Po,cE,bC]
 simp only [cF,bE,aT,aR,aI,PP]
 refine D2 k p.1 p.2 _ _ fun μ1 p1=>?_
 simp only [Rf,Rh,b6,lA,aT,aR,bA,aI,aM]
 refine OU ?_
 simp only [OS,OR,aY,aI,aM,bA,jO,iZ,OG,m3,OT]
 refine ⟨c5 _ _,by show (4:Nat)<=15;decide,?_⟩
 rw [P8]
 refine (OV (kvs:=yF p.1 p.2) (by simp) rfl (Qa hp)).mpr ⟨r6,?_⟩
 exact H _ (p1.trans (jN (cQ _ _) (Q0 _) _))
theorem Qb {a b:Str}{i j:Int}{μ:Hm}{Q:D×Hm->Prop}:W (bL false (.tup [.str a,.int i]) (.tup [.str b,.int j]) μ) Q↔Q (.bl ((a == b)&&((i == j)&&true)),μ):=W_some
theorem Qc {w h:Int}{p:Int×Int}(hp:p∈jR w h):(0<p.1/\p.1<4 * w)/\0<p.2/\p.2<4 * h:=by
 unfold jR fC gR at hp
 obtain ⟨i,hi,hp⟩:=List.mem_flatMap.mp hp
 obtain ⟨j,hj,rfl⟩:=RE.mp hp
 have hi:=Ss.mp hi
 have hj:=Ss.mp hj
 dsimp only
 omega
theorem yG {w h:Int}{s:Str}{p:Int×Int}(hp:p∈cG w h s):((0<p.1/\p.1<4 * w)/\0<p.2/\p.2<4 * h)/\c6 (bN p.1 p.2) s=true:=
 ⟨Qc (VI.mp hp).1,(VI.mp hp).2⟩
theorem Es (k:Nat)(i:Int)(μ:Hm)(Q:D×Hm->Prop):W (f (k+1) "is_whole" [.int i] μ) Q↔Q (.bl true,μ):=by
 rw [O6,cE]
 simp only [b6,iX,DL,bE,aT,aR,aI,aY,DS,DT]
 simp
theorem Et (k:Nat){i:Int}(h:1<=i/\i<=6)(μ:Hm)(Q:D×Hm->Prop)(H:Q (.bl true,μ)):W (f (k+2) "is_size" [.int i] μ) Q:=by
 rw [O9,cE]
 simp only [b6,iX,bE,aT,aR,aI,Es,if_true,DY,aY,OJ,decide_eq_true h.1,decide_eq_true h.2]
 exact H
theorem Qd (k:Nat){w h:Int}(hw:1<=w/\w<=6)(hh:1<=h/\h<=6)(μ:Hm)(Q:D×Hm->Prop)(H:Q (.non,μ)):W (f (k+3) "check_size" [.int w,.int h] μ) Q:=by
 rw [Pa,cE]
 simp only [cX,fL,rO,fM,bE,aT,aR,aI,aM]
 refine Et k hw _ _ ?_
 simp only [fB,if_true]
 refine Et k hh _ _ ?_
 simp only [fB,Sh,Q3,if_false,cW]
 exact H
theorem Qe (k:Nat){s:Str}(h:jS s)(μ:Hm)(Q:D×Hm->Prop)(H:Q (.bl true,μ)):W (f (k+1) "is_mark" [.str s] μ) Q:=by
 rw [Pb,cE]
 simp only [b6,iX,bE,aT,aR,aI,aY,xW,if_true,bA]
 have e:cM false (.str s) xZ μ=some (.bl true,μ):=by
  rcases h with rfl|rfl|rfl<;>rfl
 rw [e,W_some]
 exact H
theorem Qf (k:Nat){w h:Int}{e:Int×Int}(he:e∈cG w h "lufr") (μ:Hm)(Q:D×Hm->Prop)(H:Q (.bl true,μ)):W (f (k+3) "is_inner_edge" [.int w,.int h,PP e] μ) Q:=by
 obtain ⟨⟨h1,h2⟩,h3⟩:=yG he
 rw [Pd,cE]
 simp only [b6,iX,bE,aT,aR,aI,aM]
 rw [O7,cE]
 simp only [b6,iX,bE,aT,aR,aI,aM,aY,bA,rV,if_true]
 rw [show dS [PP e] μ=some (.int 2,μ) from rfl,W_some]
 simp only [rQ,beq_self_eq_true,if_true,PP,P,jO,iZ,Es]
 rw [Pc,cE]
 simp only [b6,iX,DY,aI,aM,aY,bA,jO,iZ,yA,DM,decide_eq_true h1.1,decide_eq_true h1.2,decide_eq_true h2.1,decide_eq_true h2.2,if_true]
 refine (PL (k+1) e.1 e.2 _ _).mpr ?_
 rw [h3]
 exact H
theorem Eu (k:Nat){w h:Int}(hw:1<=w/\w<=6)(hh:1<=h/\h<=6){ps:List (Int×Int)}{m:Int×Int->Str}(M:Mk w h ps m)
  {μ:Hm}{a:Nat}(ha:μ[a]? = some (.lst ((bS m ps).map MD)))(Q:D×Hm->Prop)(H:∀ μ',μ <+: μ'->Q (SH w h (bS m (cJ ps)),μ')):W (f (k+4) "sheet_of" [.int w,.int h,.loc a] μ) Q:=by
 have lp:=M.len hw.2 hh.2
 rw [Pe,cE,bC]
 simp only [DK,bE,aT,aR,aI,aM]
 refine Qd k hw hh _ _ ?_
 rw [bC]
 simp only [cF,rY,Rf,Rh]
 rw [bC]
 simp only [jP,m7,aI,aM]
 refine (rW (bM (cQ _ _) ha)).mpr ?_
 refine xT (fun i ρ' μ'=>∃ x y,ρ'=[some (.int w),some (.int h),some (.loc a),some (.loc μ.length),x,y]/\μ <+: μ'/\μ'[μ.length]? = some (.dT (aU (aZ m) (ps.take i))))
  ⟨none,none,rfl,cQ _ _,by rw [Ve];exact c5 _ _⟩ (fun _ _ _ ⟨_,_,_,p,_⟩=>bM p ha) ?_ ?_
 ·rintro i d ρ' μ' hd ⟨x,y,rfl,p1,g1⟩
  obtain ⟨c,hc,rfl⟩:=Ek hd
  unfold bS at hc
  rw [RH] at hc
  obtain ⟨p,hp,rfl⟩:=QR.mp hc
  refine ⟨_,rfl,?_⟩
  have hpS:p∈ps:=Rz hp
  simp only [Rf,Rh]
  rw [bC]
  simp only [cF,bA,aI,aM,aY,MD,jO,Rf,Rh]
  rw [bC]
  simp only [cX,fL,fM,bE,aT,aR,aI,aM]
  refine Qf k (M.ed p hpS) _ _ ?_
  simp only [fB,Sh,Q3,if_false,cW]
  rw [bC]
  simp only [cX,fL,fM,bE,aT,aR,bA,aI,aM,aY,iZ]
  refine Qe (k+2) (M.ok p) _ _ ?_
  simp only [fB,Sh,Q3,if_false,cW]
  rw [bC]
  have hnk:p∉ps.take i:=Eh M.nd hp
  simp only [cX,d4,bA,aI,aM]
  refine (rZ g1 (fN p)).mpr ?_
  rw [nB hnk]
  simp only [VP,Q3,if_false,cW,rX,bA,aI,aM,aY,iZ]
  have ll:(aU (aZ m) (ps.take i)).length<Q6:=by
   rw [QY,RC,Sn]
   omega
  refine (xY g1 (fN p) ll).mpr ⟨_,_,rfl,jN p1 (Q0 _) _,?_⟩
  rw [gT g1,show D.str (m p)=aZ m p from rfl,yD hnk,Eg hp]
 ·rintro ρ' μ' ⟨x,y,rfl,p1,g1⟩
  rw [QY,bS,QY,ZU] at g1
  simp only [b6,lA,aT,aR,aI,aM]
  have e:mU (.loc μ.length) μ'=some (.tup ((bS m (cJ ps)).map MD),μ'):=by
   simp only [mU,g1]
   rw [if_pos trivial,Ei,oV]
   unfold aU
   rw [RJ]
   rfl
  unfold iV
  simp only [W_bind,aI,aM]
  rw [e,W_some]
  exact ⟨by show (3:Nat)<=Q6;decide,H _ p1⟩
theorem Qg (v:Int×Int->D)(ps:List (Int×Int)):eV (aU v ps)=ps.map PP:=by
 unfold eV aU
 rw [RJ]
 rfl
theorem Ew (m:Int×Int->Str):∀ ps:List (Int×Int),jH ((bS m ps).map MD)=some (ps.map a9)
 | []=>rfl
 | p::ps=>by
  show (bZ (PP p)).bind (fun k=>(jH ((bS m ps).map MD)).map (k::·))=_
  rw [Ew m ps]
  rfl
theorem Qh {μ:Hm}{a:Nat}{m:Int×Int->Str}{ps:List (Int×Int)}{Q:D×Hm->Prop}(h:μ[a]? = some (.lst ((bS m ps).map MD)))(nd:ps.Nodup):W (k6 [.loc a] μ) Q↔Q (.loc μ.length,μ++[.lst ((bS m (cJ ps)).map MD)]):=by
 have e:k6 [.loc a] μ=some (.loc μ.length,μ++[.lst ((bS m (cJ ps)).map MD)]):=by
  have nk:(ps.map a9).Nodup:=X1 _ (fun a b hab x=>hab (m9 x)) nd
  simp only [k6,mG,h,RM,Ew]
  rw [if_pos nk,QY]
  have e2:(bB (kQ (ps.map a9)) ps.length).map (fun i=>((bS m ps).map MD).getD i .non)=(bS m (cJ ps)).map MD:=by
   rw [oV]
   unfold cJ
   rw [oV,RJ]
   refine SE fun i hi=>?_
   have hi:i<ps.length:=Ss.mp ((dO _ _).mem_iff.mp hi)
   simp [RS,hi]
  rw [e2]
 rw [e]
 exact W_some
theorem sC {z:Int}{μ:Hm}{Q:D×Hm->Prop}:W (bQ (.int z) (.int 3) μ) Q↔Q (.int (z % 3),μ):=iY (by decide)
theorem Qi {z:Int}{μ:Hm}{Q:D×Hm->Prop}:W (dW (.int z) (.int 3) μ) Q↔Q (.int (z / 3),μ):=oT (by decide) (by decide)
theorem Ex (k:Nat){w h:Int}(hw:w<=6)(hh:h<=6){ps:List (Int×Int)}{m:Int×Int->Str}(M:Mk w h ps m){μ:Hm}{a:Nat}(ha:μ[a]? = some (.dT (aU (aZ m) ps)))(way:Int)(Q:D×Hm->Prop)
  (H:∀ b qs μ',μ <+: μ'->μ.length<=b->qs.Perm ps->μ'[b]? = some (.lst ((bS m qs).map MD))->Q (.loc b,μ')):W (f (k+1) "_law_list" [.loc a,.int way] μ) Q:=by
 have lp:=M.len hw hh
 rw [Pr,cE,bC]
 have gF:(μ.set a (.dF (aU (aZ m) ps)))[a]? = some (.dF (aU (aZ m) ps)):=gT ha
 refine Ee (a:=a) (kvs:=aU (aZ m) ps) rfl ha ?_
 rw [cF]
 refine rS (xs:=ps.map PP) (p:=fun _=>true) (v:=fun d=>.tup [d,aZ m (c7 d)]) ?_
 have hit:eW (aA 0) [some (.loc a),some (.int way),none] (μ.set a (.dF (aU (aZ m) ps)))=some (dJ (.tup (ps.map PP)),ps.length+1,μ.set a (.dF (aU (aZ m) ps))):=by
  simp only [eW,aA,List.getElem?_cons_zero,RM,gF,Qg,QY]
 rw [hit,W_some]
 refine ⟨DP,by rw [QY],by rw [QY,Sn];omega,fun d μ' _ _=>?_,fun d μ' hd _ hp=>?_,fun μ' hp hg=>?_⟩
 ·exact w_mTrue.mpr ⟨rfl,Ue _⟩
 ·obtain ⟨p,hpp,rfl⟩:=RE.mp hd
  simp only [SY,Tx,lA,aT,aR,bA,aI,aM]
  refine (Ed (.inr (bM hp gF)) (fN p) (nA M.nd hpp)).mpr ⟨r6,rfl,Ue _⟩
 ·refine ⟨bM hp gF,?_⟩
  dsimp only
  have p1:μ <+: μ'.set a (.dT (aU (aZ m) ps)):=Ef ha hp
  have e1:((ps.map PP).filter fun _=>true).map (fun d=>D.tup [d,aZ m (c7 d)])=(bS m ps).map MD:=by
   rw [Zb.mpr (fun _ _=>rfl),RJ,oV]
   rfl
  rw [e1,SG] at hg
  have hal:a<μ.length:=(QN.mp ha).1
  have g1:(μ'.set a (.dT (aU (aZ m) ps)))[μ.length]? = some (.lst ((bS m ps).map MD)):=by
   rw [Rt (by omega)]
   exact hg
  rw [SG]
  generalize μ'.set a (.dT (aU (aZ m) ps))=μ1 at p1 g1
  simp only [Rf,Rh]
  rw [bC]
  simp only [cX,d4,bA,aI,aM,aY,sC,rQ]
  cases way % 3 == 1 with
  | true=>
   simp only [if_true,b6,bE,aT,aR,aI,aM]
   refine (O5 g1).mpr (H _ ps.reverse _ (p1.trans (cQ _ _)) (oS p1) (Vf _) ?_)
   rw [c5]
   unfold bS
   rw [ZX,ZX]
  | false=>
   simp only [Q3,if_false,cW]
   rw [bC]
   simp only [cX,d4,bA,aI,aM,aY,sC,rQ]
   cases way % 3 == 2 with
   | true=>
    simp only [if_true,b6,bE,aT,aR,aI,aM]
    exact (Qh g1 M.nd).mpr (H _ (cJ ps) _ (p1.trans (cQ _ _)) (oS p1) (lB _) (c5 _ _))
   | false=>
    simp only [Q3,if_false,cW,b6,aI,aM]
    exact H _ ps _ p1 (Q0 _) (UX _) g1
theorem Ey {i:Int}(h:0<=i/\i<3):∃ s,jS s/\∀ μ,aL (.str "hvo") (.int i) μ=some (.str s,μ):=by
 have:i=0\/i=1\/i=2:=by omega
 rcases this with rfl|rfl|rfl
 ·exact ⟨"h",.inr (.inr rfl),fun μ=>rfl⟩
 ·exact ⟨"v",.inr (.inl rfl),fun μ=>rfl⟩
 ·exact ⟨"o",.inl rfl,fun μ=>rfl⟩
theorem Qj:∀ w∈[(1:Int),2,3,4,5,6],∀ h∈[(1:Int),2,3,4,5,6],((jR w h).filter r9).isEmpty=false:=by decide +kernel
theorem Ez {w:Int}(h:1<=w/\w<=6):w∈[(1:Int),2,3,4,5,6]:=by
 have:w=1\/w=2\/w=3\/w=4\/w=5\/w=6:=by omega
 rcases this with rfl|rfl|rfl|rfl|rfl|rfl<;>decide
theorem Qk {w h:Int}(hw:1<=w/\w<=6)(hh:1<=h/\h<=6):0<(cG w h "lufr").length:=by
 have:=Qj w (Ez hw) h (Ez hh)
 rw [PQ]
 cases e:(jR w h).filter r9 with
 | nil=>rw [e] at this;cases this
 | cons _ _=>exact Nat.zero_lt_succ _
theorem EA {w h:Int}(hw:w<=6)(hh:h<=6)(s:Str):(cG w h s).length<=529:=SR (TV _ _) (D9 hw hh)
theorem EB {w h:Int}(hw:w<=6)(hh:h<=6){ps:List (Int×Int)}{m:Int×Int->Str}(M:Mk w h ps m){μ:Hm}{a:Nat}(ha:μ[a]? = some (.dT (aU (aZ m) ps))){p:Int×Int}(hp:p∈cG w h "lufr") {s:Str}(hs:jS s)(Q:Hm->Prop)
  (H:∀ ps' m',Mk w h ps' m'->Q (μ.set a (.dT (aU (aZ m') ps')))):W (mP (.loc a) (PP p) (.str s) μ) Q:=by
 have lp:=M.len hw hh
 refine (xY ha (fN p) (by rw [QY,Sn];omega)).mpr ?_
 rw [P6]
 exact H _ _ (M.put hp hs)
noncomputable abbrev Ql (k:Nat):MS:=cA (a8 (aB fV (aB bQ (aA 6) (mC (.int 9))) (mC (.int 7)))) (eC (aA 4) (aA 7) (aB aL (mC (.str "hvo")) (aB bQ (aB dW (aA 6) (mC (.int 2003))) (mC (.int 3))))) (aV (bK 8 (fZ (dM (aA 3)) (a8 (aB (bL false) (aK (f k "_law_line") (aC (aA 10) aF)) (aK (f k "_law_line") (aC (aA 7) aF)))) (aA 10))) (cT (kN (aC (aK dS (aC (aA 8) aF)) aF)) (c4 9) (eC (aA 4) (aB aL (aA 8) (aA 9)) (aB aL (mC (.str "hvo")) (aB bQ (aB dH (aB dW (aA 6) (mC (.int 2003))) (aB dU (aA 9) (aB bQ (aA 6) (mC (.int 2))))) (mC (.int 3)))))))
theorem Qm (k:Nat){w h:Int}(hw:1<=w/\w<=6)(hh:1<=h/\h<=6){x0 x1 x2 x5 x8 x9:Option D}{ps:List (Int×Int)}{m:Int×Int->Str}(M:Mk w h ps m){μ:Hm}{a b:Nat}(hb:μ[b]? = some (.lst ((cG w h "lufr").map PP))) (ha:μ[a]? = some (.dT (aU (aZ m) ps)))(n:Int)(hn:0<=n/\n<2147483647){e:Int×Int}(he:e∈cG w h "lufr") (Q:Fl×aG×Hm->Prop)
  (H:∀ ps' m' y8 y9 μ',Mk w h ps' m'->(∀ l,l<=a->μ.take l <+: μ')->μ.length<=μ'.length->(∀ c,c<μ.length->c≠a->μ'[c]? = μ[c]?)->μ'[a]? = some (.dT (aU (aZ m') ps'))->Q (.nx,[x0,x1,x2,some (.loc b),some (.loc a),x5,some (.int n),some (PP e),y8,y9],μ')) :
  W (Ql (k+2) [x0,x1,x2,some (.loc b),some (.loc a),x5,some (.int n),some (PP e),x8,x9] μ) Q:=by
 have hal:a<μ.length:=(QN.mp ha).1
 simp only [cX,d4,bA,aI,aM,aY,PB,DM]
 cases decide (n % 9<7) with
 | true=>
  simp only [if_true,rX,bA,aI,aM,aY]
  rw [oT (by decide) (by decide),sC]
  obtain ⟨s,ok,es⟩:=Ey (i:=n / 2003 % 3) (by omega)
  rw [es,W_some]
  refine EB hw.2 hh.2 M ha he ok _ fun ps' m' M'=>H ps' m' _ _ _ M' (fun l hl=>?_) (by simp) (fun c _ hc=>by rw [Rt (Sw hc)]) (gT ha)
  rw [<- Y5 (a:=C.dT (aU (aZ m') ps')) hl]
  exact ZT _ _
 | false=>
  simp only [Q3,if_false]
  rw [bC,cF]
  have hE:=(yG he).2
  refine rS (xs:=(cG w h "lufr").map PP) (p:=fun d=>(bN (c7 d).1 (c7 d).2 == bN e.1 e.2)&&((fQ (c7 d).1 (c7 d).2 == fQ e.1 e.2)&&true)) (v:=fun d=>d) ?_
  simp only [m7,aI,aM]
  refine (rW hb).mpr ⟨OM hb,rfl,?_,fun d μ' hd hp=>?_,fun d μ' hd _ hp=>?_,fun μ' hp hg=>?_⟩
  ·have:=EA (w:=w) (h:=h) hw.2 hh.2 "lufr"
   rw [QY,Sn];omega
  ·obtain ⟨q,hq,rfl⟩:=RE.mp hd
   simp only [SY,Tx,d4,bA,bE,aT,aR,aI,aM]
   refine Er k q (yG hq).2 _ _ fun μ2 p2=>?_
   refine Er k e hE _ _ fun μ3 p3=>?_
   rw [Qb]
   exact ⟨rfl,p2.trans p3⟩
  ·simp only [SY,Tx,aI,aM]
   exact ⟨trivial,Ue _⟩
  ·simp only [Rf,Rh]
   have hrow:∀ d∈(((cG w h "lufr").map PP).filter fun d=>(bN (c7 d).1 (c7 d).2 == bN e.1 e.2)&&((fQ (c7 d).1 (c7 d).2 == fQ e.1 e.2)&&true)).map (fun d=>d),∃ q∈cG w h "lufr",d=PP q:=fun d hd=>by
    rw [List.map_id'] at hd
    obtain ⟨q,hq,rfl⟩:=RE.mp (VI.mp hd).1
    exact ⟨q,hq,rfl⟩
   have hlen:((((cG w h "lufr").map PP).filter fun d=>(bN (c7 d).1 (c7 d).2 == bN e.1 e.2)&&((fQ (c7 d).1 (c7 d).2 == fQ e.1 e.2)&&true)).map (fun d=>d)).length<=529:=by
    rw [QY]
    refine SR (TV _ _) ?_
    rw [QY]
    exact EA hw.2 hh.2 _
   generalize (((cG w h "lufr").map PP).filter fun d=>(bN (c7 d).1 (c7 d).2 == bN e.1 e.2)&&((fQ (c7 d).1 (c7 d).2 == fQ e.1 e.2)&&true)).map (fun d=>d)=row at hg hrow hlen
   have hl':=(QN.mp hg).1
   simp only [jP,DN (j:=0),aT,aR,bE,aI,aM]
   refine (xX hg).mpr ⟨by omega,?_⟩
   rw [UB]
   refine xU (lo:=0) (fun i ρ' μ1=>∃ y9 ps' m',ρ'=[x0,x1,x2,some (.loc b),some (.loc a),x5,some (.int n),some (PP e),some (.loc μ.length),y9]/\Mk w h ps' m'/\(∀ l,l<=a->μ.take l <+: μ1)/\μ.length<μ1.length/\(∀ c,c<μ1.length->c≠a->μ1[c]? = μ'[c]?)/\μ1[a]? = some (.dT (aU (aZ m') ps')))
    ⟨x9,ps,m,rfl,M,fun l _=>(ZT _ _).trans hp,hl',fun _ _ _=>rfl,bM hp ha⟩ ?_ ?_
   ·rintro i ρ' μ1 hi ⟨y9,ps',m',rfl,M1,t1,l1,c1,g1⟩
    refine ⟨_,rfl,?_⟩
    simp only [Rf,Rh,rX,bA,aI,aM,aY,DZ]
    rw [oT (by decide) (by decide)]
    rw [m4 (.inr (by omega)),m3,sC]
    obtain ⟨s,ok,es⟩:=Ey (i:=(n / 2003+(0+(i:Int)) * (n % 2)) % 3) ⟨Wq _ (by decide),VU _ (by decide)⟩
    rw [es,W_some]
    have hri:row[i]? = some row[i]:=QV hi
    obtain ⟨q,hq,eq⟩:=hrow _ (To hi)
    rw [eq] at hri
    have gr:μ1[μ.length]? = some (.lst row):=by rw [c1 _ l1 (by omega)];exact hg
    refine (m5 gr (yE (by omega) (by rw [show (0+(i:Int)).toNat=i by omega];exact hri))).mpr ?_
    refine EB hw.2 hh.2 M1 g1 hq ok _ fun ps2 m2 M2=>?_
    refine ⟨_,ps2,m2,rfl,M2,fun l hl=>?_,by simpa using l1,fun c hc hca=>?_,gT g1⟩
    ·obtain ⟨t,ht⟩:=t1 l hl
     rw [<- ht]
     refine (List.prefix_iff_getElem?).mpr fun j hj=>?_
     have hjl:j<l:=by rw [RC] at hj;omega
     rw [Rt (by omega),Q9 hj,QV hj]
    ·rw [SG] at hc
     rw [Rt (Sw hca)]
     exact c1 c hc hca
   ·rintro ρ' μ1 ⟨y9,ps',m',rfl,M1,t1,l1,c1,g1⟩
    refine H ps' m' _ _ μ1 M1 t1 (by omega) (fun c hc hca=>?_) g1
    rw [c1 c (by omega) hca]
    obtain ⟨t,rfl⟩:=hp
    exact Q9 hc
theorem Qn (k:Nat){w h:Int}(hw:1<=w/\w<=6)(hh:1<=h/\h<=6){ns:List Int}(hl:ns.length<=63){μ:Hm}{c:Nat}(hc:μ[c]? = some (.lst (ns.map D.int)))(Q:D×Hm->Prop)
  (H:∀ a ps m μ',μ <+: μ'->μ.length<=a->Mk w h ps m->μ'[a]? = some (.dT (aU (aZ m) ps))->Q (.loc a,μ')):W (f (k+3) "_law_creases" [.int w,.int h,.loc c] μ) Q:=by
 rw [Pp,cE,bC]
 simp only [cF,bE,aT,aR,aI,aM,aY]
 refine Ea k w h "lufr" hw hh _ _ fun b μ1 p1 gb lb=>?_
 simp only [Rf,Rh]
 rw [bC]
 simp only [cF,rY,Rf,Rh]
 rw [bC]
 have hcl:c<μ.length:=(QN.mp hc).1
 have hbl:b<μ1.length:=(QN.mp gb).1
 have q1:=oS p1
 have gc1:=bM (p1.trans (cQ μ1 (C.dT []))) hc
 have hE:=Qk hw hh
 simp only [jP,DN (j:=0),aT,aR,bE,aI,aM]
 refine (xX gc1).mpr ?_
 rw [QY]
 refine ⟨by omega,?_⟩
 rw [UB]
 refine xU (lo:=0) (fun i ρ' μ'=>∃ x5 x6 x7 x8 x9 ps m,ρ'=[some (.int w),some (.int h),some (.loc c),some (.loc b),some (.loc μ1.length),x5,x6,x7,x8,x9]/\Mk w h ps m/\μ1 <+: μ'/\μ'[μ1.length]? = some (.dT (aU (aZ m) ps)))
  ⟨_,_,_,_,_,[],fun _=>"h",rfl,⟨List.nodup_nil,(fun _ z=>nomatch z),fun _=>.inr (.inr rfl)⟩,cQ _ _,c5 _ _⟩ ?_ ?_
 ·rintro i ρ' μ' hi ⟨x5,x6,x7,x8,x9,ps,m,rfl,M,p2,g2⟩
  refine ⟨_,rfl,?_⟩
  simp only [Rf,Rh]
  rw [bC]
  simp only [cF,bA,aI,aM,aY]
  have hni:ns[i]? = some ns[i]:=QV hi
  generalize ns[i]=v at hni
  refine (m5 (bM (p1.trans p2) hc) (d:=.int v) (yE (by omega) (by rw [show (0+(i:Int)).toNat=i by omega,RH,hni];rfl))).mpr ?_
  rw [m4 (.inr (by decide)),m4 (.inl (by omega)),m4 (.inr (by decide)),m3,m3,iY (by decide)]
  have b0:=Wq (v * 48271+(0+(i:Int)) * (0+(i:Int)) * 40693+7919) (show (2147483647:Int)≠0 by decide)
  have b1:=VU (v * 48271+(0+(i:Int)) * (0+(i:Int)) * 40693+7919) (show (0:Int)<2147483647 by decide)
  generalize (v * 48271+(0+(i:Int)) * (0+(i:Int)) * 40693+7919) % 2147483647=n0 at b0 b1
  simp only [Rf,Rh]
  rw [bC]
  simp only [cF,bA,aI,aM,aY]
  rw [m4 (.inl (by omega)),iY (by decide)]
  have b2:=Wq (n0 * n0) (show (2147483563:Int)≠0 by decide)
  have b3:=VU (n0 * n0) (show (0:Int)<2147483563 by decide)
  generalize n0 * n0 % 2147483563=n at b2 b3
  simp only [Rf,Rh]
  rw [bC]
  simp only [cF,bA,aI,aM,aY,Pz,bE,aT,aR]
  have gb2:=bM p2 gb
  refine (xX gb2).mpr ?_
  rw [QY,iY (by omega)]
  have j0:=Wq (n / 9) (show ((cG w h "lufr").length:Int)≠0 by omega)
  have j1:=VU (n / 9) (show (0:Int)<((cG w h "lufr").length:Int) by omega)
  generalize n / 9 % ((cG w h "lufr").length:Int)=j at j0 j1
  have hj:(cG w h "lufr")[j.toNat]? = some (cG w h "lufr")[j.toNat]:=QV (by omega)
  have he:=Rz hj
  generalize (cG w h "lufr")[j.toNat]=e at hj he
  refine (m5 gb2 (d:=PP e) (yE j0 (by rw [RH,hj];rfl))).mpr ?_
  simp only [Rf,Rh]
  refine Qm k hw hh M gb2 g2 n ⟨b2,by omega⟩ he _ fun ps' m' y8 y9 μ2 M2 t2 l2 c2 g3=>?_
  refine ⟨_,_,_,_,_,ps',m',rfl,M2,?_,g3⟩
  have:=t2 μ1.length (Q0 _)
  rwa [<- List.prefix_iff_eq_take.mp p2] at this
 ·rintro ρ' μ' ⟨x5,x6,x7,x8,x9,ps,m,rfl,M,p2,g2⟩
  simp only [b6,aI,aM]
  exact H _ ps m _ (p1.trans p2) q1 M g2
theorem Qo (μ:Hm)(n:Nat)(p:(Int×Int)×Str):bP (n+3) μ (MD p) (MD p)=some true:=by
 obtain ⟨⟨x,y⟩,s⟩:=p
 have e:bP (n+3) μ (MD ((x,y),s)) (MD ((x,y),s))=some ((x == x&&(y == y&&true))&&((s == s)&&true)):=rfl
 rw [e]
 simp
theorem yH (μ:Hm)(n:Nat):∀ T:List ((Int×Int)×Str),eI (bP (n+3) μ) (T.map MD) (T.map MD)=some true
 | []=>rfl
 | p::T=>by
  show (bP (n+3) μ (MD p) (MD p)).bind (fun b=>(eI (bP (n+3) μ) (T.map MD) (T.map MD)).map fun c=>b&&c)=_
  rw [Qo,yH μ n T]
  rfl
theorem Qp {μ:Hm}{a b:Nat}{T:List ((Int×Int)×Str)}{Q:D×Hm->Prop}(ha:μ[a]? = some (.lst (T.map MD)))(hb:μ[b]? = some (.lst (T.map MD))):W (bL true (.loc a) (.loc b) μ) Q↔Q (.bl false,μ):=by
 have kd:∀ {x:Nat}{xs:List D},μ[x]? = some (.lst xs)->d6 μ (.loc x)=some (.lst xs):=fun h=>by simp only [d6,h]
 have e:bP 8 μ (.loc a) (.loc b)=some true:=by
  show (d6 μ (.loc a)).bind (fun u=>(d6 μ (.loc b)).bind fun v=>fU (bP 7 μ) u v)=_
  rw [kd ha,kd hb]
  exact yH μ 4 T
 unfold bL
 rw [e]
 exact W_some
theorem Qq {μ:Hm}{w h:Int}{T:List ((Int×Int)×Str)}{Q:D×Hm->Prop}:W (bL true (SH w h T) (SH w h T) μ) Q↔Q (.bl false,μ):=by
 have e:bP 8 μ (SH w h T) (SH w h T)=some true:=by
  show (some (w == w)).bind (fun b=>((some (h == h)).bind fun b2=>((eI (bP 6 μ) (T.map MD) (T.map MD)).bind fun b3=>(some true).map fun c=>b3&&c).map fun c=>b2&&c).map fun c=>b&&c)=_
  rw [yH μ 3 T]
  simp
 unfold bL
 rw [e]
 exact W_some
theorem Qr {a b c:D}{μ:Hm}{Q:D×Hm->Prop}:W (dS [.tup [a,b,c]] μ) Q↔Q (.int 3,μ):=W_some
theorem oW {a b c:D}{μ:Hm}{Q:D×Hm->Prop}:W (aL (.tup [a,b,c]) (.int 2) μ) Q↔Q (c,μ):=W_some
theorem Qs {a b c:D}{μ:Hm}{Q:D×Hm->Prop}:W (aL (.tup [a,b,c]) (.int 0) μ) Q↔Q (a,μ):=W_some
theorem Qt {a b c:D}{μ:Hm}{Q:D×Hm->Prop}:W (aL (.tup [a,b,c]) (.int 1) μ) Q↔Q (b,μ):=W_some
theorem EC {e0:ME}{x0 x1 x2:Option D}{T:List ((Int×Int)×Str)}{μ:Hm}(lT:T.length<=600)(he:∀ Q:D×Hm->Prop,W (e0 [x0,x1,x2] μ) Q↔Q (.tup (T.map MD),μ))(Q:D×Hm->Prop)(H:∀ μ',μ <+: μ'->μ'[μ.length]? = some (.lst ((T.map (·.1)).map PP))->Q (.loc μ.length,μ')) :
  W (fZ (dM e0) iE (aB aL (aA 3) (mC (.int 0))) [x0,x1,x2] μ) Q:=by
 refine rS (xs:=T.map MD) (p:=fun _=>true) (v:=fun d=>match d with|.tup [a,_]=>a|_=>.non) ?_
 simp only [m7,he]
 rw [DV]
 refine ⟨DP,rfl,by rw [QY,Sn];omega,fun d μ' _ _=>w_mTrue.mpr ⟨rfl,Ue _⟩,fun d μ' hd _ hp=>?_,fun μ' hp hg=>?_⟩
 ·obtain ⟨p,_,rfl⟩:=RE.mp hd
  simp only [SY,Tx,bA,aI,aM,aY,MD,jO]
  exact ⟨trivial,Ue _⟩
 ·refine H μ' hp ?_
  rw [hg,Zb.mpr (fun _ _=>rfl),RJ,RJ]
  rfl
theorem Qu (k:Nat){w h:Int}{T:List ((Int×Int)×Str)}(lT:T.length<=600)(μ:Hm)(Q:D×Hm->Prop)(H:∀ μ',μ <+: μ'->Q (.bl true,μ')):W (f (k+3) "_law_is_sheet" [SH w h T,SH w h T] μ) Q:=by
 rw [Pq,cE,bC]
 simp only [cX,mZ,fL,fM,d4,bE,aT,aR,aI,aM,aY,bA,rV,fB,Sh,Q3,if_false,Qr,rR,beq_self_eq_true,oW]
 rw [Qq]
 simp only [Q3,if_false,cW]
 rw [bC]
 simp only [cX,mZ,fL,fM,bE,aT,aR,aI,aM,aY,bA,Qs,Qt,D3,fB,Sh,Q3,if_false,cW]
 rw [bC]
 simp only [jP,m7,bA,aI,aM,aY,oW]
 rw [DV]
 refine OK (xs:=T.map MD) (fun _=>rfl) (fun i ρ' μ'=>μ=μ'/\∃ o,ρ'=[some (SH w h T),some (SH w h T),o]) ⟨rfl,none,rfl⟩ ?_ ?_
 ·rintro i d ρ' μ' hd ⟨rfl,o,rfl⟩
  obtain ⟨p,_,rfl⟩:=Ek hd
  refine ⟨_,rfl,?_⟩
  simp only [Rf,Rh,cX,mZ,fL,fM,bE,aT,aR,aI,aM,aY,d4,bA,rV,fB,DU,rR,MD,iZ,xW,cW,Sh,Q3,if_false]
  exact ⟨trivial,_,rfl⟩
 ·rintro ρ' μ' ⟨rfl,o,rfl⟩
  simp only [b6,bE,aT,aR]
  refine EC lT (fun Q=>by simp only [bA,aI,aY,oW]) _ fun μ1 p1 g1=>?_
  refine EC lT (fun Q=>by simp only [bA,aI,aM,aY,oW]) _ fun μ2 p2 g2=>?_
  refine PK k _ _ _ _ _ _ (bM p2 g1) g2 ?_
  rw [beq_self_eq_true]
  exact H _ (p1.trans p2)
theorem Qv (m:Int×Int->Str)(ps:List (Int×Int)):(bS m ps).length=ps.length:=QY ..
theorem ED:∀ ms:List ((Int×Int)×Str),mR (ms.map MD)=some (ms.map fun m=>(a9 m.1,D.str m.2))
 | []=>rfl
 | m::ms=>by
  rw [Ra,Ra]
  show (bZ (PP m.1)).bind (fun k=>(mR (ms.map MD)).map fun l=>(k,D.str m.2)::l)=_
  rw [ED ms]
  rfl
theorem EE (v:Int×Int->D):∀ (l ps:List (Int×Int)),(ps++l).Nodup->(l.map fun p=>(a9 p,v p)).foldl (fun q p=>cU q p.1 p.2) (aU v ps)=aU v (ps++l)
 | [],ps,_=>by rw [SW];rfl
 | p::l,ps,nd=>by
  have hp:p∉ps:=fun h=>by
   rw [Uy] at nd
   exact nd.2.2 p h p (Ru ..) rfl
  rw [Ra,a0f]
  dsimp only
  rw [yD hp,EE v l (ps++[p]) (by rw [Rc];exact nd),Rc]
  rfl
theorem Qw {m:Int×Int->Str}{ps:List (Int×Int)}(nd:ps.Nodup){μ:Hm}{Q:D×Hm->Prop}:W (k4 [.tup ((bS m ps).map MD)] μ) Q↔Q (.loc μ.length,μ++[.dT (aU (aZ m) ps)]):=by
 have e:k4 [.tup ((bS m ps).map MD)] μ=some (.loc μ.length,μ++[.dT (aU (aZ m) ps)]):=by
  simp only [k4,ED,RL]
  have:=EE (aZ m) ps [] (by simpa using nd)
  rw [Tx] at this
  rw [<- this]
  unfold bS
  rw [RJ]
  rfl
 rw [e]
 exact W_some
theorem Qx (k:Nat){w h:Int}{m:Int×Int->Str}{ps:List (Int×Int)}(nd:ps.Nodup)(p:Int×Int)(μ:Hm)(Q:D×Hm->Prop)(H:∀ μ',μ <+: μ'->Q (if p∈ps then .str (m p) else .non,μ')):W (f (k+2) "mark_at" [SH w h (bS m ps),PP p] μ) Q:=by
 rw [Pg,cE,b6]
 refine P2 ?_
 simp only [bE,aT,aR,aI]
 rw [Pf,cE]
 simp only [b6,bE,aT,aR,bA,aI,aM,aY,oW,Qw nd]
 refine ⟨P4 (c5 _ _),?_⟩
 have e:mV (.loc μ.length) [PP p] (μ++[.dT (aU (aZ m) ps)])=some ((if p∈ps then .str (m p) else .non),μ++[.dT (aU (aZ m) ps)]):=by
  simp only [mV,c5,fN,RL]
  by_cases hp:p∈ps
  ·rw [nA nd hp,if_pos hp];rfl
  ·rw [nB hp,if_neg hp];rfl
 rw [e,W_some]
 exact H _ (cQ _ _)
theorem EF {m:ME}{ρ:aG}{μ:Hm}{a:Nat}{mk:Int×Int->Str}{ps:List (Int×Int)}(h:μ[a]? = some (.dT (aU (aZ mk) ps)))(hm:∀ Q:D×Hm->Prop,W (m ρ μ) Q↔Q (.loc a,μ)){Q:D×Hm->Prop}:W (iV m ρ μ) Q↔Q (.tup ((bS mk (cJ ps)).map MD),μ):=by
 have e:mU (.loc a) μ=some (.tup ((bS mk (cJ ps)).map MD),μ):=by
  simp only [mU,h]
  rw [if_pos trivial,Ei,oV]
  unfold aU
  rw [RJ]
  rfl
 unfold iV
 rw [W_bind,hm]
 dsimp only
 rw [e]
 exact W_some
theorem yI (k:Nat){w h:Int}(hw:1<=w/\w<=6)(hh:1<=h/\h<=6){ps:List (Int×Int)}{m:Int×Int->Str}(M:Mk w h ps m){μ:Hm}{a:Nat}(ha:μ[a]? = some (.dT (aU (aZ m) ps)))(Q:D×Hm->Prop)(H:∀ μ',μ <+: μ'->Q (.bl true,μ')) :
  W (f (k+4) "_law_right" [SH w h (bS m (cJ ps)),.int w,.int h,.loc a] μ) Q:=by
 have lp:=M.len hw.2 hh.2
 have sp:=lB ps
 rw [Pt,cE,bC]
 simp only [cX,fL,fM,bE,aT,aR,lA,aI,aM]
 rw [EF (a:=a) ha (fun Q=>by simp only [aI,aM])]
 refine ⟨by show (3:Nat)<=Q6;decide,?_⟩
 refine Qu k (by rw [Qv,sp.length_eq];omega) _ _ fun μ1 p1=>?_
 simp only [fB,Sh,Q3,if_false,cW]
 rw [bC]
 simp only [jP,m7,bE,aT,aR,aI,aM,aY]
 refine Ea (k+1) w h "lufr" hw hh _ _ fun b μ2 p2 gb lb=>?_
 refine (rW gb).mpr ?_
 refine xT (fun i ρ' μ'=>μ2 <+: μ'/\∃ x y,ρ'=[some (SH w h (bS m (cJ ps))),some (.int w),some (.int h),some (.loc a),x,y]) ⟨Ue _,none,none,rfl⟩ (fun _ _ _ ⟨p,_⟩=>bM p gb) ?_ ?_
 ·rintro i d ρ' μ' hd ⟨p3,x,y,rfl⟩
  obtain ⟨p,hp,rfl⟩:=PU hd
  refine ⟨_,rfl,?_⟩
  simp only [Rf,Rh]
  rw [bC]
  simp only [cF,bE,aT,aR,aI,aM]
  refine Qx (k+1) (sp.nodup_iff.mpr M.nd) p _ _ fun μ4 p4=>?_
  have ha4:=bM ((p1.trans p2).trans (p3.trans p4)) ha
  simp only [Rf,Rh]
  rw [bC]
  simp only [cX,rO,d4,bA,aI,aM,aY]
  refine (rZ ha4 (fN p)).mpr ?_
  by_cases hin:p∈ps
  ·rw [nA M.nd hin,if_pos (sp.mem_iff.mpr hin)]
   simp only [if_true,WH,Sh,Q3,if_false,cW,cX,rO,mZ,fL,fM,d4,bA,bE,aT,aR,aI,aM,aY]
   refine (rZ ha4 (fN p)).mpr ?_
   rw [nA M.nd hin]
   simp only [WH,Q3,if_false,if_true,xW,fB,Sh]
   refine (O2 ha4 (fN p) (nA M.nd hin)).mpr ?_
   have e:bL true (.str (m p)) (aZ m p) μ4=some (.bl (!(m p == m p)),μ4):=rfl
   rw [e,W_some]
   simp only [beq_self_eq_true,Sh,Q3,if_false,cW]
   exact ⟨p3.trans p4,_,_,rfl⟩
  ·rw [nB hin,if_neg (fun z=>hin (sp.mem_iff.mp z))]
   simp only [if_true,VP,Ui,O1,Q3,if_false,cW,cX,rO,d4,bA,aI,aM]
   refine (rZ ha4 (fN p)).mpr ?_
   rw [nB hin]
   simp only [VP,Q3,if_false,cW]
   exact ⟨p3.trans p4,_,_,rfl⟩
 ·rintro ρ' μ' ⟨p3,x,y,rfl⟩
  simp only [b6,aY]
  exact H _ ((p1.trans p2).trans p3)
noncomputable def jU (t:Str)(s:Str):Str:=if t = "ovh" then (if s = "o" then "h" else if s = "v" then "v" else "o") else (if s = "v" then "h" else if s = "o" then "v" else "o")
theorem EG {t:Str}(ht:t = "ovh"\/t = "voh") {s:Str}(hs:jS s):jS (jU t s)/\∀ μ,(iW (.str t) [.str s] μ).bind (fun q=>aL (.str "hvo") q.1 q.2)=some (.str (jU t s),μ):=by
 rcases ht with rfl|rfl<;>rcases hs with rfl|rfl|rfl<;>refine ⟨?_,fun μ=>?_⟩<;>first|(unfold jU jS;decide +kernel)|kernel_rfl
theorem EH {ρ:aG}{c:Nat}{t:Str}(ht:t = "ovh"\/t = "voh") {w h:Int}(hw:w<=6)(hh:h<=6){ps:List (Int×Int)}{m:Int×Int->Str}(M:Mk w h ps m){μ0 μ:Hm}{a b:Nat}(ha:μ0[a]? = some (.dT (aU (aZ m) ps)))(pre:μ0 <+: μ)(lo:μ0.length<=b)(hb:μ[b]? = some (.dT []))
  (h4:ρ[4]? = some (some (.loc a)))(hc:ρ[c]? = some (some (.loc b)))(c9:(9:Nat)≠c)(h9:9<ρ.length){m2:MS}(Q:Fl×aG×Hm->Prop)(H:∀ o μ',μ0 <+: μ'->μ'[b]? = some (.dT (aU (aZ fun p=>jU t (m p)) ps))->Q (.nx,ρ.set 9 o,μ')) :
  W (fJ 4 (cT (eW (aA 4)) (c4 9) (eC (aA c) (aA 9) (aB aL (mC (.str "hvo")) (gJ iW (mC (.str t)) (aC (aB aL (aA 4) (aA 9)) aF))))) m2 ρ μ) Q:=by
 have lp:=M.len hw hh
 have ha':=bM pre ha
 have hal:a<μ0.length:=(QN.mp ha).1
 have gF:(μ0.set a (.dF (aU (aZ m) ps)))[a]? = some (.dF (aU (aZ m) ps)):=gT ha
 have hpF:μ0.set a (.dF (aU (aZ m) ps)) <+: μ.set a (.dF (aU (aZ m) ps)):=by
  obtain ⟨t,rfl⟩:=pre
  rw [YV _ _ hal]
  exact Zn _ _
 have s0:ρ.set 9 ρ[9]=ρ:=YH h9
 refine P5 h4 ha' (fun n ρ' μ'=>∃ o,ρ'=ρ.set 9 o/\μ0.set a (.dF (aU (aZ m) ps)) <+: μ'/\μ'[b]? = some (.dT (aU (aZ fun p=>jU t (m p)) (ps.take n)))) ⟨ρ[9],s0.symm,hpF,by rw [Rt (by omega),Ve];exact hb⟩ ?_ ?_
 ·rintro n k d ρ' μ' hk ⟨o,rfl,p1,g1⟩
  unfold aU at hk
  rw [RH] at hk
  obtain ⟨p,hp,hk⟩:=QR.mp hk
  cases hk
  have hin:=Rz hp
  rw [a0V]
  have v4:(ρ.set 9 (some (D.tup ((a9 p).map D.int))))[4]? = some (some (.loc a)):=by rw [Rt (by decide)];exact h4
  have vc:(ρ.set 9 (some (D.tup ((a9 p).map D.int))))[c]? = some (some (.loc b)):=by rw [Rt c9];exact hc
  have v9:(ρ.set 9 (some (D.tup ((a9 p).map D.int))))[9]? = some (some (PP p)):=by rw [Sf h9];rfl
  obtain ⟨ok,eo⟩:=EG ht (M.ok p)
  simp only [rX,bA,aY]
  refine O4 ?_
  simp only [aY,aT,aR,bA,sA v4,sA v9]
  refine ⟨_,rfl,(Ed (.inr (bM p1 gF)) (fN p) (nA M.nd hin)).mpr ?_⟩
  have eo':=eo μ'
  obtain ⟨q,e1,e2⟩:=QF.mp eo'
  (try dsimp only [aZ])
  rw [e1,W_some]
  (try dsimp only at e2)
  rw [e2,W_some]
  simp only [sA vc,sA v9]
  have hnk:p∉ps.take n:=Eh M.nd hp
  refine (xY g1 (fN p) (by rw [QY,RC,Sn];omega)).mpr ⟨trivial,_,rfl,jN p1 (by rw [SG];exact lo) _,?_⟩
  rw [gT g1,show D.str (jU t (m p))=aZ (fun p=>jU t (m p)) p from rfl,yD hnk,Eg hp]
 ·rintro ρ' μ' ⟨o,rfl,p1,g1⟩
  rw [QY,ZU] at g1
  refine ⟨bM p1 gF,H o _ (Ef ha p1) ?_⟩
  rw [Rt (by omega)]
  exact g1
theorem Mk.oth {w h:Int}{ps:List (Int×Int)}{m:Int×Int->Str}(M:Mk w h ps m){t:Str}(ht:t = "ovh"\/t = "voh"):Mk w h ps fun p=>jU t (m p):=⟨M.nd,M.ed,fun p=>(EG ht (M.ok p)).1⟩
theorem Qy (ns:List Int):fT (ns.map D.int) (some 3) none=(ns.drop 3).map D.int:=by
 unfold fT
 have h2:HT.sIx (ns.map D.int).length 0 (some 3)=min 3 ns.length:=by
  have:=HT.sIx_nat (ns.map D.int).length 0 3
  rw [QY] at this
  rw [QY]
  exact this
 rw [h2,HT.sIx_none,QY]
 by_cases h:3<=ns.length
 ·rw [Wm h,a0H,TM]
  rw [RZ,QY]
  exact Q0 _
 ·have e1:min 3 ns.length=ns.length:=by omega
  rw [e1,SM (by rw [QY];omega),SM (by omega)]
  simp
theorem Qz (k:Nat)(ns:List Int)(hns:ns.length<=63)(μ:Hm):W (f (k+5) "law" [.rol (ns.map D.int)] μ) fun r=>r.1=.bl true:=by
 rw [Pu,cE,bC]
 simp only [cF,bE,aT,aR,aI,aM,aY]
 refine yB _ ns 0 (by decide) _ _ fun μ1 p1=>?_
 refine Ep _ _ _ _ fun μ2 p2=>?_
 simp only [Rf,Rh]
 rw [bC]
 simp only [cF,bE,aT,aR,aI,aM,aY]
 refine yB _ ns 1 (by decide) _ _ fun μ3 p3=>?_
 refine Ep _ _ _ _ fun μ4 p4=>?_
 simp only [Rf,Rh]
 rw [bC]
 simp only [cF,bE,aT,aR,aI,aM,aY]
 refine yB _ ns 2 (by decide) _ _ fun μ5 p5=>?_
 simp only [Rf,Rh]
 have hw:=Eo (cell ns 0)
 have hh:=Eo (cell ns 1)
 generalize jT (cell ns 0)=w at hw
 generalize jT (cell ns 1)=h at hh
 generalize cell ns 2=way
 rw [bC]
 simp only [cF,bE,aT,aR,aI,aM]
 refine DX ?_
 simp only [aI]
 refine ⟨_,rfl,?_⟩
 simp only [DW,O0,aY]
 rw [Qy]
 refine Qn (k+1) hw hh (ns:=ns.drop 3) (by rw [RZ];omega) (c5 _ _) _ fun a4 ps m μ6 p6 l6 M g4=>?_
 simp only [Rf,Rh]
 rw [bC]
 simp only [cF,bE,aT,aR,aI,aM]
 refine Ex (k+3) hw.2 hh.2 M g4 way _ fun a5 qs μ7 p7 l7 hq g5=>?_
 simp only [Rf,Rh]
 rw [bC]
 simp only [cF,bE,aT,aR,aI,aM]
 refine (O3 g5).mpr ?_
 simp only [Rf,Rh]
 have g6:=c5 μ7 (C.lst ((bS m qs).map MD))
 have q8:=cQ μ7 (C.lst ((bS m qs).map MD))
 generalize μ7++[C.lst ((bS m qs).map MD)]=μ8 at g6 q8
 rw [bC]
 simp only [cF,bE,aT,aR,aI,aM]
 refine Eu k hw hh (M.perm hq) (bM q8 g5) _ fun μ9 p9=>?_
 rw [srt_eq.mpr hq]
 simp only [Rf,Rh]
 rw [bC]
 simp only [cX,d4,bA,aI,aM]
 refine (Qp (bM (q8.trans p9) g5) (bM p9 g6)).mpr ?_
 simp only [Q3,if_false,cW]
 rw [bC]
 simp only [DK]
 refine OW ?_
 simp only [aI,aM,aR]
 have g5':=bM (q8.trans p9) g5
 refine ⟨OX g5',(OY g5').mpr ?_⟩
 have q69:μ6 <+: μ9.set a5 (.lst []):=jN (p7.trans (q8.trans p9)) l7 _
 generalize μ9.set a5 (.lst [])=μA at q69
 rw [bC]
 simp only [cF,rY,Rf,Rh]
 rw [bC]
 refine EH (c:=8) (.inl rfl) hw.2 hh.2 M (bM q69 g4) (cQ _ _) (Q0 _) (c5 _ _) rfl rfl (by decide) (by show (9:Nat)<12;decide) _ fun o μB pB gB=>?_
 simp only [Rf,Rh]
 have MO:=M.oth (t:="ovh") (.inl rfl)
 rw [bC]
 simp only [cF,bE,aT,aR,aI,aM,bA,aY,Qi]
 refine Ex (k+3) hw.2 hh.2 MO gB _ _ fun a10 rs μC pC lC hr gC=>?_
 refine Eu k hw hh (MO.perm hr) gC _ fun μD pD=>?_
 rw [srt_eq.mpr hr]
 simp only [Rf,Rh]
 have q6D:μ6 <+: μD:=(q69.trans pB).trans (pC.trans pD)
 have gB':=bM (pC.trans pD) gB
 rw [bC]
 simp only [cF,rY,Rf,Rh]
 rw [bC]
 refine EH (c:=11) (.inr rfl) hw.2 hh.2 M (bM q6D g4) (cQ _ _) (Q0 _) (c5 _ _) rfl rfl (by decide) (by show (9:Nat)<12;decide) _ fun o2 μE pE gE=>?_
 simp only [Rf,Rh]
 have MT:=M.oth (t:="voh") (.inr rfl)
 rw [bC]
 simp only [cX,fL,fM,bE,aT,aR,lA,aI,aM]
 rw [EF gE (fun Q=>by simp only [aI,aM])]
 refine ⟨by show (3:Nat)<=Q6;decide,?_⟩
 refine yI k hw hh MT gE _ fun μF pF=>?_
 simp only [fB,Sh,Q3,if_false,cW,b6,iX,bE,aT,aR,aI,aM]
 refine yI k hw hh M (bM (q6D.trans (pE.trans pF)) g4) _ fun μG pG=>?_
 simp only [if_true,bE,aT,aR,aI,aM]
 exact yI k hw hh MO (bM ((pE.trans pF).trans pG) gB') _ fun μH _=>rfl
theorem QC:∀ ns:List Int,ns.length<=63->∃ μ',gP S ds 5 "law" [.rol (ns.map D.int)] []=some (.bl true,μ'):=fun ns hns=>by
 obtain ⟨⟨d,μ'⟩,h1,h2⟩:=Qz 0 ns hns []
 dsimp only at h2
 subst h2
 refine ⟨μ',?_⟩
 unfold f at h1
 exact h1
end Lw
namespace Lw
open PySem L2 L3
theorem dz (Q:U7):rM (Kx Q) ds:=by unfold rM;kernel_rfl
theorem cz (Q:U7):DJ (Kx Q) S.con=true:=by kernel_rfl
theorem nz (Q:U7):S.no.map (Wa (Kx Q) S6)=S.no.map fun _=>some none:=by kernel_rfl
theorem QD {P:Rk}{w:RG}{Q:U7}
  {h:Si}{mg:Str → Option QL}(X:(Kx Q).In h)(G:h.Ns S6 mg):TxtOk P w (Kx Q) mg S ds ∧ ∃ f fd,Fun (Kx Q) "law" "law" (aP 32) f fd ∧ mg "law" = some (.ref f) ∧ ∀ (s:QM)(u:QL),XS s fd ⟨[u],[]⟩ [("_law_script",u)]:=by
 refine ⟨⟨Ox (by decide +kernel),Oy fun p hp=>(DG X G (dz Q) p hp).1,Oz (OE X G (cz Q)),fun x kvs e=>?_,OA (OD X G (nz Q))⟩,OC X G (dz Q) (by kernel_rfl) (by kernel_rfl)⟩
 ·cases e
end Lw
open PySem PySem.W PyProof.Rows
set_option maxRecDepth 100000 in
set_option maxHeartbeats 0 in
theorem PySem.Challenge.cw_creasecourt_k22_sheets_made_holds : PySem.Challenge.rw_creasecourt_k22_sheets_made.Holds := by
 w_on
 refine holds_law (by decide +kernel) fun said=>?_
 refine holds_open (q:=Lw.Vw) (loose:=[]) (Xt:=fun s=>xlAt Lw.Vw [] s&&recOk (a0S (ZI (Yr SU))) s) (XP:=XL Lw.Vw []) (Yf:=Hook.obs (a2d Lw.Kx Lw.As Lw.nI)) (Ya:=Hook.val (a2d Lw.Kx Lw.As Lw.nI)) (YP:=Hook.says (a2d Lw.Kx Lw.As Lw.nI)) (N:=3800) Lw.run (Hook.of _) (Hook.keeps _) (fun s e=>xl_of s (UJ.mp e).1) XL.keeps (by rfl) (by rfl) (by rfl) (fun s e=>recFacts_of (UJ.mp e).2) (by rfl) (by first|assumption|decide +kernel) (by decide +kernel) ⟨rfl,rfl,rfl,rfl,rfl,by decide +kernel⟩ ?hw ?hc
 case hw=>w_witness2
 k_fill
 refine L3.walkM (l:=SU) (S:=Lw.S) (ds:=Lw.ds) (k:=5) (st:=Lw.aP 32) (x:="_law_script") rfl rfl ⟨rfl,by decide,by decide⟩ (fun w h Y=>PySem.W.kIn_of Y) (by kernel_rfl) (by kernel_rfl) ?F (fun ns h _=>Lw.QC ns h)
 case F=>
  intro w mg h KX G
  refine' Lw.QD (P:=SV) (w:=w)  KX G
