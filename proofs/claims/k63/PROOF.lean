import PyProof.Rows.All
import Wide.All
import OpenK.AllK
import Wide.FinOn
import PyProof.EqAt
import PyProof.EqKinds
import PyProof.TupleCall
import KE.KDictSum
import PyProof.SliceStr2
import PyProof.NeKinds
import PyProof.StrWalks
import PyProof.ConsumeWalk
import KE.KSortTup
import PyProof.Rows.SetFrom
import PyProof.SumAny
import PyProof.EnumMake
import KE.KRevIter
import PyProof.MeetsStr
import PyProof.ListRange
import PyProof.Rows.Range3
import KE.KDictList
import PyProof.PureStr
import PyProof.WalkInts
import PyProof.ConsumeS
import PyProof.ZipIter
import PyProof.AttrMissHeap
import KE.KDictOf
import PyProof.DictItems
import KE.KItemsList
import KE.KEqDict
import PyProof.DictValues
import PyProof.DictWalks
import PySem.Challenge.RW_creasecourt_k63_marks_by_piles
open Array renaming getElem?_toList->Tp,length_toList->Tw,getD->Ux,getElem?_eq_getElem->U9,getElem?_eq_none->WA,replicate->XH,getElem?_eq_some_iff->X5,append_assoc->Zj,toList->a0G,map->a1N
open Bool renaming false_eq_true->RE,and_eq_true->RF,false_ne_true->RO,not_true->To,not_false->TV,or_eq_true->UT,and_eq_true_iff->U3,not_eq_true'->Wl,or_false->Xa,eq_false_iff->ZT,eq_iff_iff->a0n,false_and->a0v
open Classical renaming choose->W7,choose_spec->Yd
open False renaming elim->T9
open ForInStep renaming yield->U8
open Int renaming toNat_natCast->Uw,emod_lt_of_pos->UQ,emod_nonneg->Vk,zero_add->Y1
open List renaming length_map->Ro,getElem?_eq_some_iff->Rw,getElem?_set_ne->Rz,set_cons_zero->RA,set_cons_succ->RB,mem_map->RG,map_cons->RM,getElem?_eq_getElem->RN,mem_cons_of_mem->RP,getElem?_map->RR,size_toArray->RS,map_map->RU,length_append->RV,filter_cons_of_neg->RW,mem_cons_self->RX,filter_cons_of_pos->RZ,mem_cons->Sa,map_append->Se,mem_of_getElem?->Sf,map_congr_left->Sg,mem_singleton->Sk,zipWith_cons_cons->Sq,length->Ss,getElem?_eq_none_iff->Su,nodup_cons->Sv,getElem?_append_left->Sw,all_cons->Sx,getElem?_set_self->SA,length_cons->SD,length_set->SE,range->SG,length_take->SJ,find?_cons->SK,mem_filter->SR,length_filter_le->SY,contains_iff_mem->S1,getD->S3,mem_append_right->S7,mem_append->S8,mem_range->S9,filter_append->Td,prefix_refl->Ti,cons_append->Tj,getElem?_eq_none->Ts,take_length->Tu,getElem?_append_right->TR,filterMap_cons->TX,pairwise_iff_getElem->TZ,replicate->T4,filter_eq_nil_iff->Uh,length_singleton->Uj,length_replicate->Uk,nodup_append->Uu,length_reverse->UD,getElem?_replicate->UE,all_eq_true->UG,take_of_length_le->UI,nil_append->UR,append_nil->US,mem_iff_getElem?->UW,reverse_cons->UY,set_append_left->U2,map_reverse->U6,map_nil->U7,map_eq_nil_iff->Vc,getElem_of_mem->Vd,prefix_append->Vi,mem_filterMap->Vj,length_eq_zero_iff->Vn,reverse_perm->Vt,length_range->Vu,ext_getElem?->Vv,lookup_cons->VE,getElem_mem->VF,getElem?_of_mem->VO,filter_sublist->VX,zipWith->VZ,take_zero->V3,nodup_nil->V4,find?_eq_none->V5,range'->Wi,any_cons->Wo,range'_succ->Wv,filter_cons->Ww,countP_cons->Wx,length_nil->WG,filter_nil->WH,set_append_right->WJ,map_id->WR,lookup->WS,length_pos_iff->WZ,flatMap_append->W0,pairwise_map->Xj,of_mem_zip->XI,drop_eq_getElem_cons->Yl,map_take->Yv,getElem?_take_of_lt->Yw,pairwise_singleton->YD,getElem?_cons_succ->YE,set_set->YJ,range_succ_eq_map->YK,length_pos_of_mem->YL,append_eq_nil_iff->YM,take_append_drop->YZ,dropLast_eq_take->Y0,mem_of_mem_take->Za,mem_append_left->Zb,length_take_le'->Zc,filter_eq_self->Zi,zip_cons_cons->Zq,pairwise_cons->Zs,map_inj_left->ZR,append_assoc->ZS,not_mem_nil->Z3,length_drop->Z4,getElem_inj->Z5,ext_getElem->Z6,range_zero->a0i,range_succ->a0j,forIn_cons->a0k,take_succ->a0t,map->a0u,map_set->a0Q
open List.Pairwise renaming map->WI,nil->Yc,of_map->a1e
open List.Perm renaming eq_of_pairwise->V0
open List.cons renaming injEq->Zd
open Nat renaming le_refl->RD,ne_of_lt->RT,lt_of_lt_of_le->Si,zero_le->SF,le_trans->SQ,ne_of_gt->Te,lt_irrefl->UA,lt_or_ge->UP,not_lt->U5,le_of_lt->Va,le_succ->Vo,lt_trans->Vy,not_lt_zero->VW,lt_trichotomy->Wn,lt_succ_self->Wz,succ_pos->Xr,le_of_eq->Xs,le_of_not_lt->XG,exists_eq_add_of_le->YI,lt_succ_of_lt->Z0,le_succ_of_le->Z1,le_of_lt_succ->Z2,lt_of_not_le->a0h,lt_succ_iff->a0s,mul_le_mul->a0F,sub_zero->a1b,min_self->a1c,add_zero->a1d,log2_lt->a1D,mod_lt->a1W
open Ne renaming symm->So
open Option renaming bind_eq_some_iff->Rl,map_eq_some_iff->Rv,bind_some->R6,map_some->Sb,isSome_map->Wa,isSome_none->Y9,getD_none->Zp,none->a0E
open Option.some renaming inj->RY,injEq->a1V
open Or renaming inr->Y8,inl->ZZ
open Prod renaming ext->Tc
open Prod.mk renaming inj->WE
open PyProof.Rows renaming callWith_type1->Tf,seqObj->Th,IntsAre->UJ,entry_list_sort->V9,slot_list_sort->Ws,args_list_sort->Wt,callWith_builtin1->WQ,sortedAll_old->Xb,sortedAll_at->Xh,AllBare->Xm,subscriptTail->Xx,listUpdate_at->Xy,sortedHeap->XC,lt_int->X1,envOfC->X2,seqEpoch_at->Yq,Subscript_->YW,IsTup->Zt,subscriptTail_builtinR->Zy,plain_sorted->ZA,entry_sorted->ZD,args_sorted1->ZE,kind_sorted->a0e,list_sort_plain->a1l,get?_update_seq->a1m,wpAny_notIn_heap->a1o,sorted_ints->a1p,pow_int_small->a1q,pow_int->a1r,oneLt_int->a1s,mul_int->a1t,mirror_perm->a1u,floordiv_int->a1v,entry_proto_collect'->a1w,entry_list_iadd'->a1x,call_len_slot->a1y,bubble_perm->a1z,bubble->a1A,assign_Tuple_tuple->a1B,assign_Tuple->a1C,tail_any->a1O,sortedHeap_old->a1P
open PyProof.Rows.Boot renaming sorted->Vm,tuple->Vq,list->Vx,dict->WM,str->ZH,reversed->ZI,min->ZJ,max->ZK,len->ZL,isinstance->ZM,int->ZN,bool->ZO
open PySem renaming wpAny_bind->Rm,Value->Ru,wpAny_pure->Ry,Shared->RC,Expr->RI,sizeLine->RL,wpAny->RQ,model->R0,Program->R8,sizeLine_eq->Sh,starEach->Sj,Around->Sn,World->Sy,wpAny_dictEntries->SM,wpAny_holding->SN,Heap->SO,wpAny_newObj_type->SS,wpAny_call_entry->SU,DictEntry->SV,sysModules->SW,compareOp->S4,wpAny_mono->S5,mem_of_lookup->S6,wpAny_setField_rec->Tg,bootBuiltins->Tz,Pos->TC,mainGlobals->TF,wpAny_notOrdered_dict->TJ,Obj->TK,wpAny_field->TM,cLine->TN,wpAny_Call_Name_kw->T5,tupleKind->T6,sliceBounds->Ua,wpAny_truthy_bool->Ue,wpAny_callSpecial?_slot->Ug,assignEach->Ui,wpAny_isInstance->Ul,rawInt->Up,FuncData->Uq,intKind->Ut,backTo->Uz,wpAny_dictEpoch->UB,NameKind->UC,attributeBase->UH,firstArgMember->UK,binaryOp->UL,Scope->UN,wpAny_ite_split->U0,behindInMarks->U1,wpAny_setField->Ve,wpAny_seqItems->Vf,Keyword->Vh,Params->Vp,CmpOp->Vr,wpAny_specialOf->Vs,IsPair->Vz,wpAny_Call_method0_late->VB,foldedSetIterable->VH,compEnvC->VI,atKey->VJ,evalArgs_none->VQ,swapsWith->VR,Paired->VU,codeAny->VY,wpAny_passesOwn->V7,pyNext->V8,call_meetsIn->Wh,wpAny_rule->Wr,wpAny_newList->WB,plainId_quiet->WC,wpAny_pyIter_zip->WK,SetTable->WL,wpAny_isOneOf_itemiter->WV,wpAny_updateSeq->WW,letOwnedTupleGo->WX,codeAny_builtin->WY,wpAny_isOneOf_valiter->W3,wpAny_newTuple->Xd,wpAny_letGo->Xe,keywordEach->Xf,isSubtype_stop->Xg,IsZip->Xi,Env->Xk,wpAny_handled->Xv,wpAny_attempt->Xw,pyIter->XD,assign->XE,wpAny_pyIter_slot->XN,wpAny_pyIter_list->XO,slot_list_getitem->XQ,setField->XR,codeAny_mono->XU,callerA->XW,BindsTo->X4,wpAny_forIn_list->Ye,typeOf->Yg,newExc->Yh,wpAny_throw->Yn,wpAny_of_eq->Yo,subscripted->Yp,wpAny_execs_nil->Yx,typeNameOfWhole->Yy,size_of_entries->Yz,wpAny_richCompare_same_room->YF,valueAt->YG,getItem->YH,wpAny_load->YN,wpAny_fieldsOf->YO,typeLookup->YQ,sliceRange->YR,dictSetDefault->YS,call_meets->YT,bindArgs->YU,backToKw->YV,Result->YX,Operator->YY,wpAny_letOwnedTupleGo_zip->Y3,wpAny_standAt->Ze,wpAny_getItem_list_slice->Zf,swappedStores->Zg,slicePick->Zk,bindL->Zm,bindC->Zn,wpAny_typeOf->Zu,wpAny_pyNext_list_item->Zv,wpAny_Call_method_late->Zw,wpAny_Assign_Subscript->Zx,seqIndex_neg->Zz,isTrue->ZC,MeetsIn->ZQ,wpAny_pyNext_list_end->ZU,wpAny_isOneOf_keyiter->ZV,builtinLookup_eq_fast->ZW,wpAny_updateSeq_pair->Z7,wpAny_updateDictKeys->Z8,wpAny_pyIter_keyiter->Z9,storedH_new->a0a,seqIndex_of->a0b,raiseNew->a0c,newTuple->a0d,ZipApart->a0f,IntMulOk->a0l,GenState->a0m,wpAny_dictFind_heap->a0o,wpAny_pyIter_tuple->a0w,wpAny_Name->a0x,entryOfKey->a0y,closureFor->a0z,checkCount->a0A,builtinsNs->a0B,wpAny_pyIter_enum->a0H,wpAny_assign_Name->a0I,storedH->a0J,relabel->a0K,field->a0L,atKey_none_of_get->a0M,wpAny_execs_cons->a0R,updateSeq->a0S,noFill_tuple_add->a0T,lastMarks->a0U,cellsFrom->a0V,Slot->a0W,call->a0X,PassesOwn->a0Z,wpAny_loadPart'->a1j,typeLookup_type->a1k,Sem->a1n,recursionLimit->a1Q,entry_at->a1S,callType_codes->a1T,Tok->a1U
open PySem.Around renaming under_plainId->VG
open PySem.Builtin renaming sorted->W8
open PySem.Builtin.Dict renaming showsAll->Tt,dictSlotArgs->UU,noArgs->VA,entriesForEmpty->W2,updateFrom->Xu,samePairs->XB,quietEq->XM,selfAndRest->a1G,readDirectly->a1H,pendingCount->a1I,mergeDict->a1J,merge->a1K,keyAndDefault->a1L,dictSlotNone->a1M
open PySem.Builtin.Dict_items renaming ownsTuple->TY,ownedTupleIsFree->We,ownedTupleFields->Wf,pairFromOwner->Wq,newIterator->Wy,dictOf->WO
open PySem.Builtin.Int renaming intBits->Sm,intTooBig->Vl
open PySem.Builtin.List renaming listExtendWith->TB,listSameRef->UZ,listLengthHint->W9,listItems->XA,listUpdate->a1F
open PySem.Builtin.Range renaming rangeSize->a1i
open PySem.Builtin.SmallTypes renaming nextOf->TH,ownedTupleHandOut->V6,ownedTupleIsFree->Wc
open PySem.Builtin.Str renaming occurrences->Tn
open PySem.Builtin.Tuple renaming tupleHashOf->a1g,tupleCompareSizes->a1h
open PySem.Calls renaming callWith_builtin->Ud,spliced_cons->V2,call_function_entry->Wb,spliced_nil->Wg,Name_function_global->X3,evalArgs_plain->Y2
open PySem.Challenge renaming rw_creasecourt_k63_marks_by_piles->Tq,pw_creasecourt_k63_marks_by_piles->Tr
open PySem.Data renaming cell->V1,fields->WU,seq->Xl,dict->a1Y
open PySem.F renaming plainAttrs_dict->Vg,slot_dict_setdefault->Xp,slot_dict_values->XZ,args_tuple_add_2->X0,slot_dict_items->X6,slot_dict_clear->X7,plainAttrs_list->X8,entry_tuple_add->X9,slot_tuple_add->Yk,sub_dict_dict->Yt,slot_dict_get->Yu,slot_dict_ne->YA,slot_dict_eq->YB
open PySem.Heap renaming get?_push_of_some->Rt,lt_size->RH,get?_push_size->RK,get?_update_self->S2,get?_update_other->Tv,size_push->TU,SameBut->T1,ExtBut->Wj
open PySem.Heap.DictOfH renaming new->a1E
open PySem.Heap.IsList renaming push->a1X
open PySem.Heap.IsSliceOf renaming new->XJ
open PySem.Heap.SameBut renaming update->SX,refl->Ym
open PySem.NameKind renaming free->Uc,cell->Uo
open PySem.Obj renaming mapSeq->Ta,data_mapFields->UO,data_mapDictKeys->U4,isFreed_of_fields->WN,isFreed_of_dict->W6,mapFields->Xc,cls_mapFields->Xq,mapDictKeys->a0r
open PySem.Obj.ExactDict renaming mapDictKeys->a1a
open PySem.Paired renaming length->Yb,snoc->a0D
open PySem.PassesOwn renaming never->Y7
open PySem.SeqAt renaming ne_of_list_tuple->TQ,EqAt->XX
open PySem.SeqAt.EqAt renaming int_int->Ys
open PySem.SetTable renaming below->VP,slot->ZF,has->ZX
open PySem.SetTable.below renaming go->VM
open PySem.SetTable.layClean renaming free->W4
open PySem.SetTable.probe renaming go->VL
open PySem.Shared renaming heap->a0C
open PySem.Str renaming ofString->UM
open PySem.Value renaming ref->RJ,none->Sz,type->T8,int->VC,bool->VD,str->Yr
open PySem.W renaming Frag->Rn,kas_place->Tx,keepIn->TL,emptyDict->T3,kia_one->T7,kas_desc->Ub,fnOf->Um,kas_rev->Ur,kas_asc->Us,kas_descPart->UX,instObj->Vb,findIn->VS,kas_tail3->Wm,nsIn->Wu,codeIn->WD,methodObj->W5,kas_sort->XS,kas_bin->XT,mg_of->XY,hashAt->Yi,cellsFrom_some->Yj,specialIn->Y4,kitx_list->Y5,kitx_dict->Y6,plainGet->Zh,kas_count->Zl,OpenLaw->Zo,kitOne->ZG,WalkO->ZY,isFn->a0g,KasT->a1f,kHook->a1R
open PySem.W.KasFin renaming intro->a0P
open PySem.W.KasT renaming ret->Uv,ask->WT
open PySem.W.OpenLaw renaming row->YC
open PySem.W.OpenRow renaming toRowW->ZP
open PySem.W.RowW renaming records->a0O
open PySem.W.WData renaming int->VN,weightAll->VT,layable->Xz,weight->XF,layableAll->a0Y
open PySem.W.WShape renaming has->a0N
open Std.Legacy.Range renaming size->a0p,forIn_eq_forIn_range'->a0q
open Sum renaming inr->Xn,inl->Xo
open True renaming intro->Uy
local macro_rules|`(tactic| omega) => `(tactic| lia)
set_option compiler.extract_closed false
set_option Elab.async false
set_option linter.all false
set_option maxRecDepth 100000
set_option linter.all false
namespace L2
open PySem PySem.Spec PyProof.Rows
noncomputable abbrev a9:=Sum Int Str
noncomputable def tK:a9->Ru->Bool
 | .inl k,v=>Value.isInt k v
 | .inr x,v=>Value.isStrOf x v
noncomputable def zM (w:Sy):a9->Int
 | .inl k=>hashInt k
 | .inr x=>hashStr w x
theorem jL:∀ {k:a9}{v:Ru},tK k v=true->(∃ i t,k=Xo i/\v=VC i t)\/(∃ x t,k=Xn x/\v=Yr x t)
 | .inl i,v,h=>by
  obtain ⟨t,e⟩:=Value.isInt_shape (k:=i) (v:=v) h
  exact .inl ⟨i,t,rfl,e⟩
 | .inr x,v,h=>by
  obtain ⟨t,e⟩:=Value.isStrOf_shape (x:=x) (v:=v) h
  exact .inr ⟨x,t,rfl,e⟩
theorem EU (a b:Int):decide ((Xo a:a9)=Xo b)=(a == b):=by
 by_cases e:a=b
 ·subst e;simp
 ·have h:¬ (Xo a:a9)=Xo b:=fun q=>e (Sum.inl.inj q)
  rw [decide_eq_false h]
  exact (beq_eq_false_iff_ne.mpr e).symm
theorem EV (a b:Str):decide ((Xn a:a9)=Xn b)=decide (a=b):=by
 by_cases e:a=b
 ·subst e;simp
 ·have h:¬ (Xn a:a9)=Xn b:=fun q=>e (Sum.inr.inj q)
  rw [decide_eq_false h,decide_eq_false e]
theorem EW (a:Int)(b:Str):decide ((Xo a:a9)=Xn b)=false:=decide_eq_false (fun q=>nomatch q)
theorem EX (a:Str)(b:Int):decide ((Xn a:a9)=Xo b)=false:=decide_eq_false (fun q=>nomatch q)
noncomputable def k9 (prog:R8)(w:Sy):PySem.KeyKind prog w a9 where
 is:=tK
 hash:=zM w
 inj:=fun v a b ha hb=>by
  rcases jL ha with ⟨i,t,rfl,rfl⟩|⟨x,t,rfl,rfl⟩
  ·rcases jL hb with ⟨j,u,rfl,e⟩|⟨y,u,rfl,e⟩
   ·injection e with e1 _;rw [e1]
   ·exact nomatch e
  ·rcases jL hb with ⟨j,u,rfl,e⟩|⟨y,u,rfl,e⟩
   ·exact nomatch e
   ·injection e with e1 _;rw [e1]
 byValue:=fun k v h=>by
  rcases jL h with ⟨i,t,rfl,rfl⟩|⟨x,t,rfl,rfl⟩<;>rfl
 pyHash:=fun hv h=>by
  rcases jL hv with ⟨i,t,rfl,rfl⟩|⟨x,t,rfl,rfl⟩
  ·exact wpAny_pyHash_int h
  ·exact wpAny_pyHash_str h
 eqBool:=fun hu hv h=>by
  rcases jL hu with ⟨i,t,rfl,rfl⟩|⟨x,t,rfl,rfl⟩
  ·rcases jL hv with ⟨j,u,rfl,rfl⟩|⟨y,u,rfl,rfl⟩
   ·rw [EU] at h;exact wpAny_eqBool_int h
   ·rw [EW] at h;exact SeqAt.EqAt.int_str i t y u _ _ _ _ h
  ·rcases jL hv with ⟨j,u,rfl,rfl⟩|⟨y,u,rfl,rfl⟩
   ·rw [EX] at h;exact SeqAt.EqAt.str_int x t j u _ _ _ _ h
   ·rw [EV] at h;exact wpAny_eqBool_str h
 «strs»:=fun k x t v h=>by
  rcases jL h with ⟨i,u,rfl,e⟩|⟨y,u,rfl,e⟩
  ·exact nomatch e
  ·injection e with e1 _
   subst e1
   cases v<;>rfl
end L2
namespace L2
open PySem PySem.Spec PyProof.Rows
inductive V where
 | non|bl (b:Bool)|int (i:Int)|str (x:Str)|byt (b:Array UInt8)|flt (b:UInt64)|ref (a:Addr)|ty (n:String)
 deriving DecidableEq
noncomputable def RelV:V->Ru->Prop
 | .non,u=>u=Sz
 | .bl b,u=>u=VD b
 | .int i,u=>∃ t,u=VC i t
 | .str x,u=>∃ t,u=Yr x t
 | .byt b,u=>∃ t,u=Value.bytes b t
 | .flt b,u=>∃ t,u=Value.float b t
 | .ref a,u=>u=RJ a
 | .ty n,u=>u=T8 n
noncomputable abbrev Vals:List V->List Ru->Prop:=VU RelV
theorem Vals.length {xs:List V}{us:List Ru}(r:Vals xs us):xs.length=us.length:=Yb r
theorem Vals.get:∀ {xs:List V}{us:List Ru}{i:Nat}{x:V},Vals xs us->xs[i]? = some x->∃ u,us[i]? = some u/\RelV x u
 | _,_,_,_,.nil,e=>by simp at e
 | _,_,0,_,.cons r _,e=>by simp at e;subst e;exact ⟨_,rfl,r⟩
 | _,_,i+1,x,.cons _ t,e=>by
  obtain ⟨u,h1,h2⟩:=Vals.get (i:=i) (x:=x) t (by simpa using e)
  exact ⟨u,by simpa using h1,h2⟩
theorem Vals.set {x:V}{u:Ru}(r:RelV x u):∀ {xs:List V}{us:List Ru}(i:Nat),Vals xs us->Vals (xs.set i x) (us.set i u)
 | _,_,_,.nil=>.nil
 | _,_,0,.cons _ t=>.cons r t
 | _,_,i+1,.cons q t=>.cons q (Vals.set r i t)
theorem Vals.append:∀ {xs ys:List V}{us ws:List Ru},Vals xs us->Vals ys ws->Vals (xs++ys) (us++ws)
 | _,_,_,_,.nil,s=>s
 | _,_,_,_,.cons r t,s=>.cons r (Vals.append t s)
theorem Vals.take:∀ {xs:List V}{us:List Ru}(n:Nat),Vals xs us->Vals (xs.take n) (us.take n)
 | _,_,0,_=>.nil
 | _,_,_+1,.nil=>.nil
 | _,_,n+1,.cons r t=>.cons r (Vals.take n t)
theorem Vals.drop:∀ {xs:List V}{us:List Ru}(n:Nat),Vals xs us->Vals (xs.drop n) (us.drop n)
 | _,_,0,r=>r
 | _,_,_+1,.nil=>.nil
 | _,_,n+1,.cons _ t=>Vals.drop n t
noncomputable def RelO:Option V->Option Ru->Prop
 | some v,some u=>RelV v u
 | none,none=>True
 | _,_=>False
noncomputable def KV {κ:Type}:List (κ×V)->List (κ×Ru)->Prop:=VU fun (p:κ×V)(q:κ×Ru)=>p.1=q.1/\RelV p.2 q.2
noncomputable def kV:a9->V
 | .inl i=>.int i
 | .inr x=>.str x
inductive HO where
 | lst (xs:List V)
 | tup (xs:List V)
 | dK (kvs:List (a9×V))|dT (kvs:List (List a9×V))
 | set (S:Int->Bool)(n:Nat)
 | ins (C dx:Addr)(fs:List (Str×V))
 | own (x:Addr)
 | xd (fs:List (Str×V))
 | met (f x:Addr)
 | rng (lo hi:Int)
 | frz (o:TK)(u:HO)
 | tbl (ps:Array Ru)
 | ext (φ:SO->Prop)
noncomputable abbrev Hp:=Addr->Option HO
noncomputable def aI (H:Hp)(a:Addr)(o:HO):Hp:=fun b=>if b=a then some o else H b
theorem cG {H:Hp}{a:Addr}{o:HO}:aI H a o a=some o:=by unfold aI;rw [if_pos rfl]
theorem bA {H:Hp}{a b:Addr}{o:HO}(h:b≠a):aI H a o b=H b:=by unfold aI;rw [if_neg h]
theorem dY {H:Hp}{a b:Addr}{o:HO}(h:H a=some o)(h':H b=none):a≠b:=by
 intro e;subst e;rw [h] at h';cases h'
section
variable (P:R8)(w:Sy)
noncomputable def TupN (h:SO)(a:Addr)(xs:Array Ru):Prop:=∃ o,h.get? a=some o/\o.cls=.type "tuple"/\∃ n,o.data=.seq xs n/\o.dict=none
theorem TupN.tup {h:SO}{a:Addr}{xs:Array Ru}(x:TupN h a xs):Zt h a xs:=let ⟨o,e,c,n,d,_⟩:=x;⟨o,e,c,n,d⟩
theorem TupN.new (h:SO)(items:Array Ru):TupN (h.push { cls:=.type "tuple",data:=.seq items }) h.objs.size items:=⟨_,RK _ rfl,rfl,_,rfl,rfl⟩
noncomputable def ObjOk (H:Hp)(h:SO)(a:Addr):HO->Prop
 | .lst xs=>xs.length<=RL/\∃ (its:List Ru)(n:Nat),Vals xs its/\h.get? a=some { cls:=.type "list",data:=.seq its.toArray n }
 | .tup xs=>xs.length<=RL/\∃ its:List Ru,Vals xs its/\TupN h a its.toArray
 | .dK kvs=>kvs.length<=RL/\(a == SW)=false/\∃ vs,KV kvs vs/\h.DictOf (k9 P w) a vs
 | .dT kvs=>kvs.length<=RL/\(a == SW)=false/\∃ xs:List (List a9×Addr×Ru),
   VU (fun (p:List a9×V)(q:List a9×Addr×Ru)=>p.1=q.1/\H q.2.1=some (.tup (p.1.map kV))/\RelV p.2 q.2.2) kvs xs /\
   ∃ o es ep,h.get? a=some o/\o.ExactDict/\o.data=.dict es ep/\es.toList=xs.map (a0y (T6 (k9 P w)))/\(xs.map (·.1)).Nodup
 | .set S n=>h.SetOf (Ut P w) a S n
 | .ins C dx fs=>H dx=some (.own a)/\fs.length<=1000/\dx≠a/\h.get? a=some (Vb C dx) /\
   ∃ mA,h.Ns1 dx mA/\(∀ f,RelO (fs.lookup f) (mA f))/\PySem.Within mA (fs.map (·.1))
 | .own _=>∃ o,h.get? a=some o
 | .xd fs=>∃ mA,h.Ns1 a mA/\∀ f,RelO (fs.lookup f) (mA f)
 | .rng lo hi=>∃ t u v,h.get? a=some { cls:=.type "range",data:=.fields #[.int lo t,.int hi u,.int 1 v] }
 | .frz o u=>h.get? a=some o/\ObjOk H h a u
 | .tbl ps=>h.get? a=some { cls:=.none,data:=.fields ps }
 | .met f x=>h.get? a=some (W5 (.ref f) (.ref x))
 | .ext φ=>φ h/\(∃ o,h.get? a=some o)/\∀ h1 h2:SO,φ h1->(∀ o,h1.get? a=some o->h2.get? a=some o)->φ h2
noncomputable def HOk (H:Hp)(h:SO):Prop:=∀ a o,H a=some o->ObjOk P w H h a o
end
section
variable {P:R8}{w:Sy}{H H':Hp}{h h':SO}{a:Addr}{o:HO}
theorem ObjOk.lt (x:ObjOk P w H h a o):a<h.objs.size:=by
 cases o with
 | lst xs=>obtain ⟨_,_,_,_,e⟩:=x;exact RH e
 | tup xs=>obtain ⟨_,_,_,p⟩:=x;exact p.tup.lt
 | dK kvs=>obtain ⟨_,_,_,_,o,_,_,e,_⟩:=x;exact RH e
 | dT kvs=>obtain ⟨_,_,_,_,o,_,_,e,_⟩:=x;exact RH e
 | set S n=>obtain ⟨o,_,_,_,e,_⟩:=x;exact RH e
 | ins C dx fs=>obtain ⟨_,_,_,e,_⟩:=x;exact RH e
 | own y=>obtain ⟨_,e⟩:=x;exact RH e
 | xd fs=>obtain ⟨_,⟨_,_,_,e,_⟩,_⟩:=x;exact RH e
 | rng lo hi=>obtain ⟨_,_,_,e⟩:=x;exact RH e
 | frz ob u=>obtain ⟨e,_⟩:=x;exact RH e
 | tbl ps=>exact RH (show h.get? a=some _ from x)
 | met f y=>exact RH (show h.get? a=some _ from x)
 | ext φ=>obtain ⟨_,⟨_,e⟩,_⟩:=x;exact RH e
theorem VU.mapP {α β:Type}{F G:α->β->Prop}:∀ {l₁:List α}{l₂:List β},VU F l₁ l₂->(∀ a b,F a b->G a b)->VU G l₁ l₂
 | _,_,.nil,_=>.nil
 | _,_,.cons r t,f=>.cons (f _ _ r) (VU.mapP t f)
theorem ObjOk.stay (x:ObjOk P w H h a o)(k:∀ b u,(b=a\/H b=some (.own a))->h.get? b=some u->h'.get? b=some u)
  (ho:∀ b,H b=some (.own a)->H' b=some (.own a))(ht:∀ b xs,H b=some (.tup xs)->H' b=some (.tup xs)):ObjOk P w H' h' a o:=by
 induction o with
 | lst xs=>obtain ⟨z,its,n,r,e⟩:=x;exact ⟨z,its,n,r,k _ _ (.inl rfl) e⟩
 | tup xs=>obtain ⟨z,its,r,ob,e,c⟩:=x;exact ⟨z,its,r,ob,k _ _ (.inl rfl) e,c⟩
 | dK kvs=>obtain ⟨z,y,vs,r,ob,es,ep,e,c⟩:=x;exact ⟨z,y,vs,r,ob,es,ep,k _ _ (.inl rfl) e,c⟩
 | dT kvs=>
  obtain ⟨z,y,xs,r,ob,es,ep,e,c⟩:=x
  exact ⟨z,y,xs,VU.mapP r fun p q z=>⟨z.1,ht _ _ z.2.1,z.2.2⟩,ob,es,ep,k _ _ (.inl rfl) e,c⟩
 | set S n=>obtain ⟨ob,es,ep,t,e,c⟩:=x;exact ⟨ob,es,ep,t,k _ _ (.inl rfl) e,c⟩
 | ins C dx fs=>
  obtain ⟨d,z,ne,e,mA,⟨od,es,ep,e2,c⟩,r⟩:=x
  exact ⟨ho _ d,z,ne,k _ _ (.inl rfl) e,mA,⟨od,es,ep,k _ _ (.inr d) e2,c⟩,r⟩
 | own y=>obtain ⟨ob,e⟩:=x;exact ⟨ob,k _ _ (.inl rfl) e⟩
 | xd fs=>obtain ⟨mA,⟨od,es,ep,e,c⟩,r⟩:=x;exact ⟨mA,⟨od,es,ep,k _ _ (.inl rfl) e,c⟩,r⟩
 | rng lo hi=>obtain ⟨t,u,v,e⟩:=x;exact ⟨t,u,v,k _ _ (.inl rfl) e⟩
 | frz ob u ih=>obtain ⟨e,q⟩:=x;exact ⟨k _ _ (.inl rfl) e,ih q⟩
 | tbl ps=>
  have e:h.get? a=some { cls:=.none,data:=.fields ps }:=x
  show h'.get? a=some { cls:=.none,data:=.fields ps }
  exact k a _ (.inl rfl) e
 | met f y=>
  have e:h.get? a=some (W5 (.ref f) (.ref y)):=x
  show h'.get? a=some (W5 (.ref f) (.ref y))
  exact k a _ (.inl rfl) e
 | ext φ=>obtain ⟨p,⟨o,e⟩,st⟩:=x;exact ⟨st _ _ p fun o q=>k _ _ (.inl rfl) q,⟨o,k _ _ (.inl rfl) e⟩,st⟩
theorem HOk.lt (x:HOk P w H h)(e:H a=some o):a<h.objs.size:=(x a o e).lt
theorem HOk.fresh (x:HOk P w H h)(e:h.objs.size<=a):H a=none:=by
 cases q:H a with
 | none=>rfl
 | some u=>exact absurd (Si (x.lt q) e) (UA _)
theorem HOk.kept (x:HOk P w H h)(k:∀ b u,h.get? b=some u->h'.get? b=some u):HOk P w H h':=fun a o e=>
 (x a o e).stay (fun b u _ q=>k b u q) (fun _ q=>q) fun _ _ q=>q
theorem HOk.laid (x:HOk P w H h)(k:∀ b u,h.get? b=some u->h'.get? b=some u)(hp:h.objs.size<=a)(new:ObjOk P w (aI H a o) h' a o):HOk P w (aI H a o) h':=fun b u e=>by
 have hn:=x.fresh hp
 by_cases hb:b=a
 ·subst hb;rw [cG] at e;cases e;exact new
 ·rw [bA hb] at e
  exact (x b u e).stay (fun c v _ q=>k c v q) (fun c q=>by rw [bA (dY q hn)];exact q) fun c xs q=>by rw [bA (dY q hn)];exact q
end
noncomputable def Rd (H:Hp)(a:Addr)(u:HO):Prop:=H a=some u\/∃ o,H a=some (.frz o u)
theorem Rd.of {H:Hp}{a:Addr}{u:HO}(h:H a=some u):Rd H a u:=.inl h
theorem Rd.ok {P:R8}{w:Sy}{H:Hp}{h:SO}{a:Addr}{u:HO}(r:Rd H a u)(x:HOk P w H h):ObjOk P w H h a u:=by
 rcases r with r|⟨o,r⟩
 ·exact x a u r
 ·obtain ⟨_,q⟩:=x a _ r
  exact q
noncomputable def n4:Option HO->Prop
 | some (.lst _)=>True
 | some (.dK _)=>True
 | some (.dT _)=>True
 | some (.set _ _)=>True
 | some (.ins _ _ _)=>True
 | some (.ext _)=>True
 | _=>False
section
variable {P:R8}{w:Sy}{H:Hp}{h h':SO}{x e:Addr}{o':HO}
theorem HOk.write (ok:HOk P w H h)(mu:n4 (H x))(he:e=x\/H e=some (.own x))(k:∀ b u,b≠e->h.get? b=some u->h'.get? b=some u)(heo:∃ u,h'.get? e=some u)
  (new:ObjOk P w (aI H x o') h' x o'):HOk P w (aI H x o') h':=fun b u q=>by
 have nown:∀ c y,H c=some (.own y)->c≠x:=fun c y r z=>by subst z;rw [r] at mu;exact mu
 have ntup:∀ c xs,H c=some (.tup xs)->c≠x:=fun c xs r z=>by subst z;rw [r] at mu;exact mu
 by_cases hb:b=x
 ·subst hb;rw [cG] at q;cases q;exact new
 ·rw [bA hb] at q
  by_cases hbe:b=e
  ·have q':H b=some (.own x):=by
    rcases he with z|z
    ·exact absurd (hbe.trans z) hb
    ·rw [hbe];exact z
   rw [q] at q';cases q'
   obtain ⟨v,hv⟩:=heo
   exact ⟨v,by rw [hbe];exact hv⟩
  ·refine (ok b u q).stay (fun c v hc r=>k c v ?_ r) (fun c r=>by rw [bA (nown c b r)];exact r) fun c xs r=>by rw [bA (ntup c xs r)];exact r
   rcases hc with rfl|hc
   ·exact hbe
   ·rintro rfl
    rcases he with z|z
    ·exact nown c b hc z
    ·rw [hc] at z;cases z;exact hb rfl
end
structure Un (fs ex:List Addr)(H H':Hp)(h h':SO):Prop where
 keep:∀ b o,h.get? b=some o->H b=none->b∉fs->b∉ex->h'.get? b=some o
 slot:∀ b o,h.get? b=some o->H b=none->b∈fs->b∉ex->∃ sl,h'.get? b=some { o with slots:=sl }
 free:∀ b o,h.get? b=some o->H b=none->b∉ex->H' b=none
 there:∀ b o,h.get? b=some o->b∉ex->∃ o',h'.get? b=some o'
 tups:∀ b xs,H b=some (.tup xs)->H' b=some (.tup xs)
 frzs:∀ b o u,H b=some (.frz o u)->H' b=some (.frz o u)
 tbls:∀ b ps,H b=some (.tbl ps)->∃ more,H' b=some (.tbl (ps++more))
section
variable {fs fs' ex ex':List Addr}{H H1 H2:Hp}{h h1 h2 h':SO}{a x e:Addr}{o:HO}
theorem Un.any (u:Un fs ex H H1 h h1){b:Addr}{ob:TK}(q:h.get? b=some ob)(n:H b=none)(hx:b∉ex):∃ sl,h1.get? b=some { ob with slots:=sl }:=by
 by_cases hb:b∈fs
 ·exact u.slot b ob q n hb hx
 ·exact ⟨ob.slots,u.keep b ob q n hb hx⟩
theorem Un.trans (a:Un fs ex H H1 h h1)(b:Un fs ex H1 H2 h1 h2):Un fs ex H H2 h h2 where
 keep:=fun c ob q n hc hx=>b.keep c ob (a.keep c ob q n hc hx) (a.free c ob q n hx) hc hx
 slot:=fun c ob q n hc hx=>by
  obtain ⟨sl,e1⟩:=a.slot c ob q n hc hx
  obtain ⟨sl',e2⟩:=b.slot c _ e1 (a.free c ob q n hx) hc hx
  exact ⟨sl',e2⟩
 free:=fun c ob q n hx=>by
  obtain ⟨o',e1⟩:=a.there c ob q hx
  exact b.free c o' e1 (a.free c ob q n hx) hx
 there:=fun c ob q hx=>by
  obtain ⟨o',e1⟩:=a.there c ob q hx
  exact b.there c o' e1 hx
 tups:=fun c xs q=>b.tups c xs (a.tups c xs q)
 frzs:=fun c ob xs q=>b.frzs c ob xs (a.frzs c ob xs q)
 tbls:=fun c ps q=>by
  obtain ⟨m1,e1⟩:=a.tbls c ps q
  obtain ⟨m2,e2⟩:=b.tbls c _ e1
  exact ⟨m1++m2,by rw [e2,Zj]⟩
theorem Un.kept (k:∀ b u,h.get? b=some u->h'.get? b=some u):Un fs ex H H h h':=
 ⟨fun b ob q _ _ _=>k b ob q,fun b ob q _ _ _=>⟨ob.slots,k b ob q⟩,fun _ _ _ n _=>n,fun b ob q _=>⟨ob,k b ob q⟩,fun _ _ q=>q,fun _ _ _ q=>q,fun _ ps q=>⟨#[],by rw [q];simp⟩⟩
theorem Un.refl:Un fs ex H H h h:=Un.kept fun _ _ q=>q
theorem Un.laid (k:∀ b u,h.get? b=some u->h'.get? b=some u)(hp:h.objs.size<=a)(hn:H a=none):Un fs ex H (aI H a o) h h' where
 keep:=fun b u q _ _ _=>k b u q
 slot:=fun b u q _ _ _=>⟨u.slots,k b u q⟩
 free:=fun b u q n _=>by rw [bA (RT (Si (RH q) hp))];exact n
 there:=fun b u q _=>⟨u,k b u q⟩
 tups:=fun b xs q=>by rw [bA (dY q hn)];exact q
 frzs:=fun b u xs q=>by rw [bA (dY q hn)];exact q
 tbls:=fun b ps q=>⟨#[],by rw [bA (dY q hn),q];simp⟩
theorem Un.write (mu:n4 (H x))(he:e=x\/H e=some (.own x))(k:∀ b u,b≠e->h.get? b=some u->h'.get? b=some u)(heo:∃ u,h'.get? e=some u):Un fs ex H (aI H x o) h h':=by
 have hx:∀ b,H b=none->b≠x:=fun b n z=>by subst z;rw [n] at mu;exact mu
 have hb:∀ b,H b=none->b≠e:=fun b n z=>by
  subst z
  rcases he with r|r
  ·exact hx b n r
  ·rw [n] at r;cases r
 have hm:∀ b u,H b=some u->¬ n4 (some u)->b≠x:=fun b u q nm z=>by subst z;rw [q] at mu;exact nm mu
 refine ⟨fun b u q n _ _=>k b u (hb b n) q,fun b u q n _ _=>⟨u.slots,k b u (hb b n) q⟩,fun b u q n _=>by rw [bA (hx b n)];exact n,fun b u q _=>?_,
  fun b xs q=>by rw [bA (hm b _ q fun z=>z)];exact q,fun b u xs q=>by rw [bA (hm b _ q fun z=>z)];exact q,fun b ps q=>⟨#[],by rw [bA (hm b _ q fun z=>z),q];simp⟩⟩
 by_cases hbe:b=e
 ·subst hbe;exact heo
 ·exact ⟨u,k b u hbe q⟩
end
noncomputable def qF (h:SO)(H:Hp):List Addr:=(SG h.objs.size).filter fun a=>(H a).isSome
noncomputable def jM (h:SO)(H:Hp):SO:=PySem.W.hideAll h (qF h H)
theorem EY (h:SO)(H:Hp):(jM h H).objs.size=h.objs.size:=PySem.W.hideAll_size _ _
theorem EZ {h:SO}{H:Hp}{b:Addr}{o:TK}(e:h.get? b=some o)(n:H b=none):(jM h H).get? b=some o:=
 PySem.W.hideAll_get _ e fun hm=>by
  have q:(H b).isSome=true:=(SR.mp hm).2
  rw [n] at q;simp at q
theorem E4 {h:SO}{H:Hp}{b:Addr}{o:TK}(e:(jM h H).get? b=some o):h.get? b=some o/\H b=none:=by
 have e':h.get? b=some o:=PySem.W.of_hideAll (qF h H) e
 refine ⟨e',?_⟩
 cases q:H b with
 | none=>rfl
 | some x=>
  have hm:b∈qF h H:=SR.mpr ⟨S9.mpr (RH e'),by simp [q]⟩
  have z:(jM h H).get? b=none:=PySem.W.hideAll_none (qF h H) hm
  rw [z] at e;cases e
noncomputable def qG (g h:SO)(L:Addr):List (Addr×TK):=(SG h.objs.size).filterMap fun a=>if a=L\/(g.get? a).isSome=true then none else (h.get? a).map fun o=>(a,o)
theorem tL {g h:SO}{L a:Addr}{o:TK}(h1:a≠L)(h2:g.get? a=none)(h3:h.get? a=some o):(a,o)∈qG g h L:=
 Vj.mpr ⟨a,S9.mpr (RH h3),by simp [h1,h2,h3]⟩
theorem E6 {g h:SO}{L:Addr}{p:Addr×TK}(hp:p∈qG g h L):p.1≠L/\g.get? p.1=none/\h.get? p.1=some p.2:=by
 obtain ⟨b,_,e⟩:=Vj.mp hp
 split at e
 ·cases e
 ·rename_i hn
  cases q:h.get? b with
  | none=>rw [q] at e;simp at e
  | some u=>
   rw [q] at e
   simp only [Sb,a1V] at e
   subst e
   refine ⟨fun z=>hn (.inl z),?_,q⟩
   show g.get? b=none
   cases r:g.get? b with
   | none=>rfl
   | some v=>exact (hn (.inr (by simp [r]))).elim
noncomputable def bN (g h:SO)(L d:Addr):List (Addr×TK):=(qG g h L).filter fun p=>decide (p.1≠d)
theorem E7 {g h:SO}{L:Addr}:News g L h (qG g h L):=fun p hp=>let ⟨a,b,c⟩:=E6 hp;⟨c,a,b⟩
end L2
namespace L2
open PySem PySem.Spec PyProof.Rows
structure Mod (K:Rn)(mg:Str->Option Ru)(base:SO):Prop where
 kin:K.In base
 glob:base.Ns TF mg
 blt:∃ mb,base.Ns a0B mb/\∀ x:Str,x ≠ "__name__"->mb x=Tz x
 nolimit:base.NoLimit
structure Cx where
 prog:R8
 w:Sy
 K:Rn
 mg:Str->Option Ru
 base:SO
 A:Sn
 N:List Str
 s₀:RC
 H₀:Hp
 env:Xk
 outer:List Xk
 stack:List Xk
 ex:List Addr
 fn:Str->Bool
 calm:Bool
 pn:List (Addr×TK)
 xe:Ru->RC->Prop
noncomputable def gR (l:List Xk):List Addr:=l.filterMap (·.frame)
noncomputable abbrev Cx.fs (X:Cx):List Addr:=gR X.outer
noncomputable def n5 (sc:UN)(x:Str):Prop:=sc.names.lookup x=some .local\/sc.names.lookup x=some .cell\/sc.names.lookup x=some .free
noncomputable def Loc (sc:UN)(x:Str):Prop:=sc.names.lookup x=some .local\/sc.names.lookup x=some .cell
noncomputable def Fb (env:Xk)(h:SO)(m:Str->Option Ru)(x:Str)(u:Ru):Prop:=
 (env.kindOf x=some .local/\m x=some u)\/((env.kindOf x=some .cell\/env.kindOf x=some .free)/\∃ c,env.cells.lookup x=some c/\h.IsCell c (some u))
structure Cx.Ok (X:Cx):Prop where
 mod:Mod X.K X.mg X.base
 kind:X.env.scope.kind=.function
 glob:X.env.globals=TF
 blt:X.env.builtins=a0B
 above:X.s₀.heap.objs.size<=X.env.locals
 inj:∀ x y c,X.env.cells.lookup x=some c->X.env.cells.lookup y=some c->x=y
 has:∀ x,(X.env.kindOf x=some .cell\/X.env.kindOf x=some .free)->∃ c,X.env.cells.lookup x=some c
 cab:∀ x c,X.fn x=true->X.env.cells.lookup x=some c->X.s₀.heap.objs.size<=c
 hd:X.calm=true->X.A.handled=none
 frames:X.A.frames=some X.stack
 stk:X.stack=X.outer\/(X.stack=X.env::X.outer/\X.env.frame=some X.env.locals)
 exf:∀ b∈X.ex,b≠X.env.locals/\∀ x c,X.env.cells.lookup x=some c->c≠b
 bs:∀ b o,X.base.get? b=some o->X.s₀.heap.get? b=some o/\X.H₀ b=none
 bsz:X.base.objs.size<=X.s₀.heap.objs.size
 noex:∀ b o,X.base.get? b=some o->b∉X.ex
 exfs:∀ b∈X.ex,b∉X.fs
 funs:X.s₀.heap.FunFrames X.base X.outer
 frf:∀ b∈X.fs,X.H₀ b=none
structure Inv (X:Cx)(a1Z:List (Addr×TK))(σ:List (Option V))(H:Hp)(s:RC):Prop where
 ok:X.Ok
 os:s.os=X.s₀.os
 bare:Xm s.gens
 base:Un X.fs X.ex X.H₀ H X.s₀.heap s.heap
 loc:∃ m,s.heap.Ns X.env.locals m/\∀ (i:Nat)(x:Str)(v:V),X.N[i]? = some x->σ[i]? = some (some v)->n5 X.env.scope x->∃ u,RelV v u/\Fb X.env s.heap m x u
 cell:∀ x c,X.env.cells.lookup x=some c->∃ v,s.heap.IsCell c v
 free:H X.env.locals=none
 freeC:∀ x c,X.env.cells.lookup x=some c->H c=none
 pin:∀ p∈X.pn++a1Z,s.heap.get? p.1=some p.2/\H p.1=none/\p.1≠X.env.locals/\p.1∉X.fs/\∀ v,p.2.data≠.cell v
 hok:HOk X.prog X.w H s.heap
 len:σ.length=X.N.length
section
variable {X:Cx}{a1Z:List (Addr×TK)}{σ:List (Option V)}{H H':Hp}{s:RC}{h':SO}
theorem Cx.Ok.nofr (ok:X.Ok){b:Addr}{o:TK}(e:X.base.get? b=some o):b∉X.fs:=fun hb=>by
 have:=(ok.funs.mem hb).1
 rw [e] at this;cases this
theorem Inv.bs (I:Inv X a1Z σ H s):∀ b o,X.base.get? b=some o->s.heap.get? b=some o/\H b=none:=fun b o e=>
 ⟨I.base.keep b o (I.ok.bs b o e).1 (I.ok.bs b o e).2 (I.ok.nofr e) (I.ok.noex b o e),I.base.free b o (I.ok.bs b o e).1 (I.ok.bs b o e).2 (I.ok.noex b o e)⟩
theorem Inv.bk (I:Inv X a1Z σ H s):∀ b o,X.base.get? b=some o->s.heap.get? b=some o:=fun b o e=>(I.bs b o e).1
theorem Inv.mod (I:Inv X a1Z σ H s):Mod X.K X.mg X.base:=I.ok.mod
theorem Inv.kIn (I:Inv X a1Z σ H s):X.K.In s.heap:=I.ok.mod.kin.keeps I.bk
theorem Inv.nolimit (I:Inv X a1Z σ H s):s.heap.NoLimit:=I.ok.mod.nolimit.keeps I.bk
theorem Inv.fr (I:Inv X a1Z σ H s):∃ m,Fr X.base X.env.locals s.heap m:=
 let ⟨m,hn,_⟩:=I.loc
 ⟨m,hn,I.bk,SQ I.ok.bsz I.ok.above⟩
theorem Inv.lt (I:Inv X a1Z σ H s):X.env.locals<s.heap.objs.size:=let ⟨_,hn,_⟩:=I.loc;hn.lt
theorem Inv.sz (I:Inv X a1Z σ H s):X.s₀.heap.objs.size<=s.heap.objs.size:=SQ I.ok.above (Va I.lt)
theorem Inv.nofs (I:Inv X a1Z σ H s){a:Addr}(h:s.heap.objs.size<=a):a∉X.fs:=fun hb=>by
 obtain ⟨_,o,ho,_⟩:=I.ok.funs.mem hb
 exact absurd (Si (RH ho) (SQ I.sz h)) (UA _)
theorem Inv.cne (I:Inv X a1Z σ H s):∀ x c,X.env.cells.lookup x=some c->c≠X.env.locals:=fun x c e z=>by
 obtain ⟨v,o,ho,hd⟩:=I.cell x c e
 obtain ⟨m,⟨o',es,ep,ho',hd',_⟩,_⟩:=I.loc
 rw [z,ho'] at ho;cases ho;rw [hd'] at hd;cases hd
theorem Inv.funs (I:Inv X a1Z σ H s):s.heap.FunFrames X.base X.outer:=by
 have all:∀ (l:List Xk),(∀ b∈gR l,b∈X.fs)->X.s₀.heap.FunFrames X.base l->s.heap.FunFrames X.base l:=by
  intro l
  induction l with
  | nil=>intro _ _;trivial
  | cons env r ih=>
   intro hs hl
   obtain ⟨hk,⟨L,o,hf,hn,ho,hd⟩,hr⟩:=hl
   have hL:L∈X.fs:=hs L (by unfold gR;rw [TX,hf];exact RX)
   obtain ⟨sl,e⟩:=I.base.slot L o ho (I.ok.frf L hL) hL fun z=>I.ok.exfs L z hL
   exact ⟨hk,⟨L,_,hf,hn,e,hd⟩,ih (fun b hb=>hs b (by unfold gR;rw [TX,hf];exact RP _ hb)) hr⟩
 exact all X.outer (fun _ hb=>hb) I.ok.funs
theorem Inv.stack (I:Inv X a1Z σ H s):s.heap.FunFrames X.base X.stack:=by
 rcases I.ok.stk with e|⟨e,hf⟩
 ·rw [e];exact I.funs
 ·rw [e]
  obtain ⟨m,hn,_⟩:=I.loc
  refine .cons (by rw [I.ok.kind];decide) hf hn ?_ I.funs
  exact Heap.get?_none_of_le (SQ I.ok.bsz I.ok.above)
theorem Inv.stkSub (I:Inv X a1Z σ H s):∀ b∈gR X.stack,b∈X.env.locals::X.fs:=fun b hb=>by
 rcases I.ok.stk with e|⟨e,hf⟩
 ·rw [e] at hb;exact RP _ hb
 ·rw [e] at hb
  unfold gR at hb
  rw [TX,hf] at hb
  exact hb
theorem Inv.stkFree (I:Inv X a1Z σ H s):∀ b∈gR X.stack,H b=none:=fun b hb=>by
 rcases Sa.mp (I.stkSub b hb) with e|hb
 ·rw [e];exact I.free
 ·obtain ⟨_,o,ho,_⟩:=I.ok.funs.mem hb
  exact I.base.free b o ho (I.ok.frf b hb) fun z=>I.ok.exfs b z hb
theorem Inv.step {g':Array a0m}{t':Nat}{d':Drawn}{ch:List Addr}(I:Inv X a1Z σ H s)
  (hch:∀ b∈ch,(b∈X.ex\/X.s₀.heap.objs.size<=b)/\b≠X.env.locals/\(∀ x c,X.env.cells.lookup x=some c->c≠b)/\∀ p∈X.pn++a1Z,p.1≠b)
  (keep:∀ b o,b≠X.env.locals->b∉X.fs->b∉ch->s.heap.get? b=some o->H b=none->h'.get? b=some o)
  (slot:∀ b o,b≠X.env.locals->b∈X.fs->b∉ch->s.heap.get? b=some o->H b=none->∃ sl,h'.get? b=some { o with slots:=sl })(free:∀ b o,b∉ch->s.heap.get? b=some o->H b=none->H' b=none)
  (there:∀ b o,b∉ch->s.heap.get? b=some o->∃ o',h'.get? b=some o')
  (tups:∀ b xs,H b=some (.tup xs)->H' b=some (.tup xs))(frzs:∀ b o u,H b=some (.frz o u)->H' b=some (.frz o u))(tbls:∀ b ps,H b=some (.tbl ps)->∃ more,H' b=some (.tbl (ps++more)))
  (ns:∀ m,s.heap.Ns X.env.locals m->h'.Ns X.env.locals m)(hok:HOk X.prog X.w H' h')(hg:Xm g') :
  Inv X a1Z σ H' { s with heap:=h',gens:=g',drawn:=d',toks:=t' }:=by
 have neL:∀ b o,X.s₀.heap.get? b=some o->b≠X.env.locals:=fun b o e=>RT (Si (RH e) I.ok.above)
 have neC:∀ b o,X.s₀.heap.get? b=some o->b∉X.ex->b∉ch:=fun b o e hx hb=>by
  rcases (hch b hb).1 with z|z
  ·exact hx z
  ·exact absurd (Si (RH e) z) (UA _)
 have cellK:∀ x c,X.env.cells.lookup x=some c->∀ v,s.heap.IsCell c v->h'.IsCell c v:=fun x c e v ⟨o,ho,hd⟩=>by
  have nch:c∉ch:=fun z=>(hch c z).2.2.1 x c e rfl
  by_cases hc:c∈X.fs
  ·obtain ⟨sl,q⟩:=slot c o (I.cne x c e) hc nch ho (I.freeC x c e)
   exact ⟨_,q,hd⟩
  ·exact ⟨o,keep c o (I.cne x c e) hc nch ho (I.freeC x c e),hd⟩
 refine ⟨I.ok,I.os,hg,⟨fun b o e n hb hx=>?_,fun b o e n hb hx=>?_,fun b o e n hx=>?_,fun b o e hx=>?_,fun b xs e=>tups b xs (I.base.tups b xs e),fun b o xs e=>frzs b o xs (I.base.frzs b o xs e),fun b ps e=>?_⟩,?_,fun x c e=>?_,?_,fun x c e=>?_,fun p hp=>?_,hok,I.len⟩
 ·exact keep b o (neL b o e) hb (neC b o e hx) (I.base.keep b o e n hb hx) (I.base.free b o e n hx)
 ·obtain ⟨sl,e1⟩:=I.base.slot b o e n hb hx
  obtain ⟨sl',e2⟩:=slot b _ (neL b o e) hb (neC b o e hx) e1 (I.base.free b o e n hx)
  exact ⟨sl',e2⟩
 ·obtain ⟨o',e1⟩:=I.base.there b o e hx
  exact free b o' (neC b o e hx) e1 (I.base.free b o e n hx)
 ·obtain ⟨o',e1⟩:=I.base.there b o e hx
  exact there b o' (neC b o e hx) e1
 ·obtain ⟨m1,e1⟩:=I.base.tbls b ps e
  obtain ⟨m2,e2⟩:=tbls b _ e1
  exact ⟨m1++m2,by rw [e2,Zj]⟩
 ·obtain ⟨m,hn,hl⟩:=I.loc
  refine ⟨m,ns m hn,fun i x v e1 e2 e3=>?_⟩
  obtain ⟨u,r,l⟩:=hl i x v e1 e2 e3
  refine ⟨u,r,?_⟩
  rcases l with l|⟨k,c,e,z⟩
  ·exact .inl l
  ·exact .inr ⟨k,c,e,cellK x c e _ z⟩
 ·obtain ⟨v,z⟩:=I.cell x c e
  exact ⟨v,cellK x c e v z⟩
 ·obtain ⟨m,⟨o,_,_,ho,_⟩,_⟩:=I.loc
  exact free _ o (fun z=>(hch _ z).2.1 rfl) ho I.free
 ·obtain ⟨v,o,ho,hd⟩:=I.cell x c e
  exact free c o (fun z=>(hch c z).2.2.1 x c e rfl) ho (I.freeC x c e)
 ·obtain ⟨e,n,ne,nf,d⟩:=I.pin p hp
  have nch:p.1∉ch:=fun z=>(hch p.1 z).2.2.2 p hp rfl
  exact ⟨keep p.1 p.2 ne nf nch e n,free p.1 p.2 nch e n,ne,nf,d⟩
theorem Inv.un {t':Nat}(I:Inv X a1Z σ H s)(u:Un X.fs [] H H' s.heap h')(hok:HOk X.prog X.w H' h'):Inv X a1Z σ H' { s with heap:=h',toks:=t' }:=by
 obtain ⟨m,⟨o,es,ep,ho,r⟩,_⟩:=id I.loc
 obtain ⟨sl,hL⟩:=u.any ho I.free (by simp)
 exact I.step (g':=s.gens) (d':=s.drawn) (ch:=[]) (fun _ z=>nomatch z) (fun b o _ hb _ e n=>u.keep b o e n hb (by simp)) (fun b o _ hb _ e n=>u.slot b o e n hb (by simp)) (fun b o _ e n=>u.free b o e n (by simp)) (fun b o _ e=>u.there b o e (by simp)) u.tups u.frzs u.tbls (fun m' hm=>by
  obtain ⟨o',es',ep',ho',r'⟩:=hm
  rw [ho] at ho';cases ho'
  exact ⟨_,es',ep',hL,r'⟩) hok I.bare
theorem Inv.call {g':Array a0m}{t':Nat}{d':Drawn}{ch:List Addr}(I:Inv X a1Z σ H s)(u:Un (gR X.stack) ch H H' s.heap h')(hok:HOk X.prog X.w H' h')(hg:Xm g')
  (hch:∀ b∈ch,(b∈X.ex\/X.s₀.heap.objs.size<=b)/\b≠X.env.locals/\(∀ x c,X.env.cells.lookup x=some c->c≠b)/\∀ p∈X.pn++a1Z,p.1≠b) :
  Inv X a1Z σ H' { s with heap:=h',gens:=g',drawn:=d',toks:=t' }:=by
 obtain ⟨m,⟨o,es,ep,ho,r⟩,_⟩:=id I.loc
 obtain ⟨sl,hL⟩:=u.any ho I.free fun z=>(hch _ z).2.1 rfl
 exact I.step (ch:=ch) hch (fun b o hL hb hc e n=>u.keep b o e n (fun z=>(Sa.mp (I.stkSub b z)).elim hL hb) hc) (fun b o _ _ hc e n=>u.any e n hc) (fun b o hc e n=>u.free b o e n hc) (fun b o hc e=>u.there b o e hc) u.tups u.frzs u.tbls (fun m' hm=>by
  obtain ⟨o',es',ep',ho',r'⟩:=hm
  rw [ho] at ho';cases ho'
  exact ⟨_,es',ep',hL,r'⟩) hok hg
theorem Inv.turned {t':Nat}{it:Addr}(I:Inv X a1Z σ H s)(k:∀ b o,b≠it->s.heap.get? b=some o->h'.get? b=some o)(hn:H it=none)(hL:it≠X.env.locals)
  (h1:it∈X.ex\/X.s₀.heap.objs.size<=it)(h2:∀ x c,X.env.cells.lookup x=some c->c≠it)(h3:∀ p∈X.pn++a1Z,p.1≠it):Inv X a1Z σ H { s with heap:=h',toks:=t' }:=by
 have nit:∀ b u,H b=some u->b≠it:=fun b u e z=>by rw [z,hn] at e;cases e
 refine I.step (g':=s.gens) (d':=s.drawn) (ch:=[it]) (fun b hb=>?_) (fun b o _ _ hc e _=>k b o (fun z=>hc (by simp [z])) e) (fun b o _ _ hc e _=>⟨o.slots,k b o (fun z=>hc (by simp [z])) e⟩) (fun _ _ _ _ n=>n)
  (fun b o hc e=>⟨o,k b o (fun z=>hc (by simp [z])) e⟩) (fun _ _ e=>e) (fun _ _ _ e=>e) (fun b ps e=>⟨#[],by rw [e];simp⟩) (fun m hm=>?_) (fun b u e=>?_) I.bare
 ·have e:b=it:=by simpa using hb
  subst e
  exact ⟨h1,hL,h2,h3⟩
 ·obtain ⟨o,es,ep,ho,r⟩:=hm
  exact ⟨o,es,ep,k _ o (So hL) ho,r⟩
 ·refine (I.hok b u e).stay (fun c v hc q=>k c v ?_ q) (fun _ q=>q) fun _ _ q=>q
  rcases hc with z|z
  ·rw [z];exact nit b u e
  ·exact nit c _ z
theorem Inv.tok (I:Inv X a1Z σ H s)(t:Nat):Inv X a1Z σ H { s with toks:=t }:=I.un (h':=s.heap) (t':=t) Un.refl I.hok
theorem Inv.kept {t':Nat}(I:Inv X a1Z σ H s)(k:∀ b u,s.heap.get? b=some u->h'.get? b=some u):Inv X a1Z σ H { s with heap:=h',toks:=t' }:=I.un (Un.kept k) (I.hok.kept k)
theorem Inv.laid {a:Addr}{o:HO}{t':Nat}(I:Inv X a1Z σ H s)(k:∀ b u,s.heap.get? b=some u->h'.get? b=some u)(hp:s.heap.objs.size<=a)(new:ObjOk X.prog X.w (aI H a o) h' a o) :
  Inv X a1Z σ (aI H a o) { s with heap:=h',toks:=t' }:=I.un (Un.laid k hp (I.hok.fresh hp)) (I.hok.laid k hp new)
theorem Inv.write {x e:Addr}{o:HO}{t':Nat}(I:Inv X a1Z σ H s)(mu:n4 (H x))(he:e=x\/H e=some (.own x))(k:∀ b u,b≠e->s.heap.get? b=some u->h'.get? b=some u)(heo:∃ u,h'.get? e=some u)
  (new:ObjOk X.prog X.w (aI H x o) h' x o):Inv X a1Z σ (aI H x o) { s with heap:=h',toks:=t' }:=I.un (Un.write mu he k heo) (I.hok.write mu he k heo new)
theorem Inv.pins_of {pins':List (Addr×TK)}(I:Inv X a1Z σ H s)(h:∀ p∈pins',s.heap.get? p.1=some p.2/\H p.1=none/\p.1≠X.env.locals/\p.1∉X.fs/\∀ v,p.2.data≠.cell v):Inv X pins' σ H s:=
 ⟨I.ok,I.os,I.bare,I.base,I.loc,I.cell,I.free,I.freeC,fun p hp=>(S8.mp hp).elim (fun z=>I.pin p (Zb _ z)) (h p),I.hok,I.len⟩
theorem zN {N:List Str}(hN:N.Nodup){i j:Nat}{x:Str}(a:N[i]? = some x)(b:N[j]? = some x):i=j:=by
 obtain ⟨h1,e1⟩:=Rw.mp a
 obtain ⟨h2,e2⟩:=Rw.mp b
 exact (Z5 hN).mp (e1.trans e2.symm)
theorem zO {M:Model}{A:Sn}{E:Ru->RC->Prop}{i:Nat}{x:Str}{v:V}{u:Ru}{Q:Unit->RC->Prop}(I:Inv X a1Z σ H s)(hN:X.N.Nodup)(hi:X.N[i]? = some x)(hx:Loc X.env.scope x)(r:RelV v u)
  (h:∀ s',Inv X a1Z (σ.set i (some v)) H s'->(∃ a,T1 a s.heap s'.heap/\(a=X.env.locals\/X.env.cells.lookup x=some a))->Q () s')(hf:X.fn x=true\/X.env.scope.names.lookup x=some .local:=by first|exact .inl rfl|exact .inr rfl|assumption):RQ M A (storeName X.env x u) Q E s:=by
 obtain ⟨m,hn,hl⟩:=id I.loc
 have hcls:(X.env.scope.kind == .class||(X.env.scope.kind == .module&&X.env.locals != X.env.globals))=false:=by rw [I.ok.kind];rfl
 have hiσ:i<σ.length:=by rw [I.len];exact (Rw.mp hi).1
 have cne:=I.cne
 have tracked:∀ {a:Addr}{h':SO},(∃ o,s.heap.get? a=some o/\H a=none)->T1 a s.heap h'->HOk X.prog X.w H h':=fun {a h'} ha hs b ob e=>by
  obtain ⟨_,_,hfree⟩:=ha
  refine (I.hok b ob e).stay (fun c w' hc q=>(hs.2 c ?_).trans q) (fun _ q=>q) fun _ _ q=>q
  rintro rfl
  rcases hc with rfl|hc
  ·rw [hfree] at e;cases e
  ·rw [hfree] at hc;cases hc
 rcases hx with hk|hk
 ·refine wpAny_storeName_local hk hn (fun h' hn' hs=>?_) hcls
  obtain ⟨oL,_,_,hoL,_⟩:=id hn
  refine h _ ⟨I.ok,I.os,I.bare,⟨fun b o e n hb hx=>?_,fun b o e n hb hx=>?_,I.base.free,fun b o e hx=>?_,I.base.tups,I.base.frzs,I.base.tbls⟩,⟨_,hn',fun j y v' e1 e2 e3=>?_⟩,fun y c e=>?_,I.free,I.freeC,fun p hp=>?_,tracked ⟨oL,hoL,I.free⟩ hs,by simpa using I.len⟩ ⟨_,hs,.inl rfl⟩
  ·exact (hs.2 b (RT (Si (RH e) I.ok.above))).trans (I.base.keep b o e n hb hx)
  ·obtain ⟨sl,e1⟩:=I.base.slot b o e n hb hx
   exact ⟨sl,(hs.2 b (RT (Si (RH e) I.ok.above))).trans e1⟩
  ·obtain ⟨o',e1⟩:=I.base.there b o e hx
   exact ⟨o',(hs.2 b (RT (Si (RH e) I.ok.above))).trans e1⟩
  ·by_cases hj:j=i
   ·subst hj
    rw [hi] at e1;cases e1
    rw [SA hiσ] at e2
    cases e2
    exact ⟨u,r,.inl ⟨hk,by simp⟩⟩
   ·rw [Rz (So hj)] at e2
    obtain ⟨u',r',q⟩:=hl j y v' e1 e2 e3
    refine ⟨u',r',?_⟩
    rcases q with ⟨k,e⟩|⟨k,c,e,z⟩
    ·refine .inl ⟨k,?_⟩
     have:y≠x:=fun e=>hj (zN hN e1 (e ▸ hi))
     simp [this,e]
    ·exact .inr ⟨k,c,e,z.sameBut hs (cne y c e)⟩
  ·obtain ⟨w',z⟩:=I.cell y c e
   exact ⟨w',z.sameBut hs (cne y c e)⟩
  ·obtain ⟨e,n,ne,nf,d⟩:=I.pin p hp
   exact ⟨(hs.2 p.1 ne).trans e,n,ne,nf,d⟩
 ·have hfn:X.fn x=true:=by
   rcases hf with z|z
   ·exact z
   ·rw [z] at hk;cases hk
  obtain ⟨c,hc⟩:=I.ok.has x (.inl hk)
  obtain ⟨w',z⟩:=I.cell x c hc
  refine wpAny_storeName_cell I.ok.kind hk hc z (fun h' hc' hs=>?_)
  obtain ⟨oc,hoc,hocd⟩:=id z
  refine h { s with heap:=h' } ⟨I.ok,I.os,I.bare,⟨fun b o e n hb hx=>?_,fun b o e n hb hx=>?_,I.base.free,fun b o e hx=>?_,I.base.tups,I.base.frzs,I.base.tbls⟩,⟨m,hn.sameBut hs (So (cne x c hc)),fun j y v' e1 e2 e3=>?_⟩,fun y c' e=>?_,I.free,I.freeC,fun p hp=>?_,tracked ⟨oc,hoc,I.freeC x c hc⟩ hs,by simpa using I.len⟩ ⟨c,hs,.inr hc⟩
  ·exact (hs.2 b (RT (Si (RH e) (I.ok.cab x c hfn hc)))).trans (I.base.keep b o e n hb hx)
  ·obtain ⟨sl,e1⟩:=I.base.slot b o e n hb hx
   exact ⟨sl,(hs.2 b (RT (Si (RH e) (I.ok.cab x c hfn hc)))).trans e1⟩
  ·obtain ⟨o',e1⟩:=I.base.there b o e hx
   exact ⟨o',(hs.2 b (RT (Si (RH e) (I.ok.cab x c hfn hc)))).trans e1⟩
  ·by_cases hj:j=i
   ·subst hj
    rw [hi] at e1;cases e1
    rw [SA hiσ] at e2
    cases e2
    exact ⟨u,r,.inr ⟨.inl hk,c,hc,hc'⟩⟩
   ·rw [Rz (So hj)] at e2
    obtain ⟨u',r',q⟩:=hl j y v' e1 e2 e3
    refine ⟨u',r',?_⟩
    rcases q with q|⟨k,c',e,z'⟩
    ·exact .inl q
    ·refine .inr ⟨k,c',e,z'.sameBut hs ?_⟩
     rintro rfl
     exact hj (zN hN e1 (I.ok.inj _ _ _ e hc ▸ hi))
  ·by_cases hcc:c'=c
   ·subst hcc;exact ⟨_,hc'⟩
   ·obtain ⟨w2,z2⟩:=I.cell y c' e
    exact ⟨w2,z2.sameBut hs hcc⟩
  ·obtain ⟨e,n,ne,nf,d⟩:=I.pin p hp
   refine ⟨(hs.2 p.1 ?_).trans e,n,ne,nf,d⟩
   intro q
   rw [q,hoc] at e
   have q':oc=p.2:=RY e
   exact d w' (by rw [<- q'];exact hocd)
theorem zP {M:Model}{A:Sn}{E:Ru->RC->Prop}{i:Nat}{x:Str}{v:V}{u:Ru}{Q:Unit->RC->Prop}(I:Inv X a1Z σ H s)(hN:X.N.Nodup)(hi:X.N[i]? = some x)(hx:Loc X.env.scope x)(r:RelV v u)
  (h:∀ s',Inv X a1Z (σ.set i (some v)) H s'->Q () s')(hf:X.fn x=true\/X.env.scope.names.lookup x=some .local:=by first|exact .inl rfl|exact .inr rfl|assumption):RQ M A (storeName X.env x u) Q E s:=
 zO I hN hi hx r (fun s' I' _=>h s' I') hf
end
noncomputable abbrev XK:=Ru->Option Addr->Hp->Prop
noncomputable abbrev St:=List (Option V)
noncomputable abbrev VK:=V->Hp->Prop
noncomputable abbrev TE:=St->Hp->VK->Prop
noncomputable abbrev TT:=St->Hp->(Bool->Hp->Prop)->Prop
noncomputable abbrev TA:=St->Hp->(List V->Hp->Prop)->Prop
structure Ends where
 nx:St->Hp->Prop
 rt:VK
 bk:St->Hp->Prop:=fun _ _=>False
 ct:St->Hp->Prop:=fun _ _=>False
noncomputable abbrev TS:=Ends->St->Hp->Prop
noncomputable def EP (X:Cx)(a1Z:List (Addr×TK))(σ:St)(Q:VK)(u:Ru)(s':RC):Prop:=∃ v H',Inv X a1Z σ H' s'/\RelV v u/\Q v H'
noncomputable def TP (X:Cx)(a1Z:List (Addr×TK))(σ:St)(Q:Bool->Hp->Prop)(b:Bool)(s':RC):Prop:=∃ H',Inv X a1Z σ H' s'/\Q b H'
noncomputable def AP (X:Cx)(a1Z:List (Addr×TK))(σ:St)(Q:List V->Hp->Prop)(us:List Ru)(s':RC):Prop:=∃ vs H',Inv X a1Z σ H' s'/\Vals vs us/\Q vs H'
noncomputable def SP (X:Cx)(a1Z:List (Addr×TK))(D:Ends)(f:Flow)(s':RC):Prop:=
 match f with
 | .next=>∃ σ' H',Inv X a1Z σ' H' s'/\D.nx σ' H'
 | .brk=>∃ σ' H',Inv X a1Z σ' H' s'/\D.bk σ' H'
 | .cont=>∃ σ' H',Inv X a1Z σ' H' s'/\D.ct σ' H'
 | .ret u=>∃ v σ' H',Inv X a1Z σ' H' s'/\RelV v u/\D.rt v H'
noncomputable def PE (X:Cx)(e:RI)(t:TE):Prop:=
 ∀ (a1Z:List (Addr×TK))(s:RC)(σ:St)(H:Hp)(Q:VK),Inv X a1Z σ H s->t σ H Q->RQ (R0 X.prog X.w) X.A (eval e X.env) (EP X a1Z σ Q) X.xe s
noncomputable def PT (X:Cx)(e:RI)(t:TT):Prop:=
 ∀ (a1Z:List (Addr×TK))(s:RC)(σ:St)(H:Hp)(Q:Bool->Hp->Prop),Inv X a1Z σ H s->t σ H Q->RQ (R0 X.prog X.w) X.A (ZC e X.env (eval e X.env)) (TP X a1Z σ Q) X.xe s
noncomputable def PW (X:Cx)(e:RI)(t:TT):Prop:=
 ∀ (whole:a1n Ru)(a1Z:List (Addr×TK))(s:RC)(σ:St)(H:Hp)(Q:Bool->Hp->Prop),Inv X a1Z σ H s->t σ H Q->RQ (R0 X.prog X.w) X.A (ZC e X.env whole) (TP X a1Z σ Q) X.xe s
theorem PW.pt {X:Cx}{e:RI}{t:TT}(h:PW X e t):PT X e t:=h _
noncomputable def PA (X:Cx)(es:List RI)(t:TA):Prop:=
 ∀ (pos:TC)(a1Z:List (Addr×TK))(s:RC)(σ:St)(H:Hp)(Q:List V->Hp->Prop),Inv X a1Z σ H s->t σ H Q->RQ (R0 X.prog X.w) X.A (spliced (Uz pos (Sj es X.env))) (AP X a1Z σ Q) X.xe s
noncomputable def PS (X:Cx)(st:Stmt)(t:TS):Prop:=
 ∀ (a1Z:List (Addr×TK))(s:RC)(σ:St)(H:Hp)(D:Ends),Inv X a1Z σ H s->t D σ H->RQ (R0 X.prog X.w) X.A (exec st X.env) (SP X a1Z D) X.xe s
noncomputable def PSs (X:Cx)(st:List Stmt)(t:TS):Prop:=
 ∀ (a1Z:List (Addr×TK))(s:RC)(σ:St)(H:Hp)(D:Ends),Inv X a1Z σ H s->t D σ H->RQ (R0 X.prog X.w) X.A (execs st X.env) (SP X a1Z D) X.xe s
theorem aQ {α:Type}{t:a1n α}{Q Q':α->RC->Prop}{M:Model}{A:Sn}{E:Ru->RC->Prop}{s:RC}(h:RQ M A t Q E s)(hQ:∀ a s,Q a s->Q' a s):RQ M A t Q' E s:=S5 h hQ fun _ _ x=>x
end L2
namespace L2
open PySem PySem.Spec PyProof.Rows
section
variable {X:Cx}
noncomputable def zQ (i:Nat):TE:=fun σ H Q=>∃ v,σ[i]? = some (some v)/\Q v H
noncomputable def tC (v:V):TE:=fun _ H Q=>Q v H
theorem Fc {i:Nat}{x:Str}{pos:TC}(hN:X.N[i]? = some x)(hv:n5 X.env.scope x)(hd:(x == ("__debug__":Str))=false:=by decide) (hcd:(x == ("__classdict__":Str))=false:=by decide):PE X (.Name x pos) (zQ i):=by
 intro a1Z s σ H Q I h
 obtain ⟨v,e,h⟩:=h
 obtain ⟨m,hn,hl⟩:=I.loc
 obtain ⟨u,r,l⟩:=hl i x v hN e hv
 have fin:EP X a1Z σ Q u s:=⟨v,H,I,r,h⟩
 rcases l with ⟨hk,hm⟩|⟨hk,c,hc,hcell⟩
 ·exact a0x (wpAny_loadName_local I.ok.kind hk hn hm fin) hd
 ·rcases hk with hk|hk
  ·exact a0x (wpAny_loadName_cell I.ok.kind hk hc hcell fin) hd
  ·exact a0x (wpAny_loadName_free I.ok.kind hk hc hcell fin hcd) hd
theorem Fd {i j pos}:PE X (.Constant (.int i) j pos) (tC (.int i)):=fun _ _ _ H _ I h=>wpAny_Constant_int ⟨.int i,H,I.tok _,⟨_,rfl⟩,h⟩
theorem Fe {b j pos}:PE X (.Constant (.bool b) j pos) (tC (.bl b)):=fun _ _ _ H _ I h=>Constant_bool ⟨.bl b,H,I,rfl,h⟩
theorem Ff {j pos}:PE X (.Constant .none j pos) (tC .non):=fun _ _ _ H _ I h=>Constant_none ⟨.non,H,I,rfl,h⟩
theorem Fg {x j pos}:PE X (.Constant (.str x) j pos) (tC (.str x)):=fun _ _ _ H _ I h=>Calls.Constant_str ⟨.str x,H,I.tok _,⟨_,rfl⟩,h⟩
noncomputable def Gl (X:Cx)(x:Str):Prop:=X.env.kindOf x=some .globalImplicit
theorem tN {E:Ru->RC->Prop}{a1Z:List (Addr×TK)}{s:RC}{σ:St}{H:Hp}{x:Str}{u:Ru}{pos:TC}{Q:Ru->RC->Prop}(I:Inv X a1Z σ H s)(hg:Gl X x)(hm:X.mg x=some u)(h:Q u s)
  (hd:(x == ("__debug__":Str))=false:=by decide):RQ (R0 X.prog X.w) X.A (eval (.Name x pos) X.env) Q E s:=
 X3 I.ok.kind hg (Calls.loadGlobal_global (by rw [I.ok.glob];exact I.mod.glob.keeps I.bk) hm h) hd
theorem iE {E:Ru->RC->Prop}{a1Z:List (Addr×TK)}{s:RC}{σ:St}{H:Hp}{x:Str}{u:Ru}{pos:TC}{Q:Ru->RC->Prop}(I:Inv X a1Z σ H s)(hg:Gl X x)(hm:X.mg x=none)(hv:Tz x=some u)(h:Q u s)
  (hn:x ≠ "__name__":=by decide) (hd:(x == ("__debug__":Str))=false:=by decide):RQ (R0 X.prog X.w) X.A (eval (.Name x pos) X.env) Q E s:=by
 obtain ⟨mb,h1,h2⟩:=I.mod.blt
 exact X3 I.ok.kind hg (Calls.loadGlobal_builtin (by rw [I.ok.glob];exact I.mod.glob.keeps I.bk) hm (by rw [I.ok.blt];exact h1.keeps I.bk) ((h2 x hn).trans hv) h) hd
theorem Fh {x:Str}{v:V}{u:Ru}{pos:TC}(hg:Gl X x)(hm:X.mg x=some u)(r:RelV v u)(hd:(x == ("__debug__":Str))=false:=by decide):PE X (.Name x pos) (tC v):=
 fun _ _ _ H _ I h=>tN I hg hm ⟨v,H,I,r,h⟩ hd
theorem Fi {x:Str}{v:V}{u:Ru}{pos:TC}(hg:Gl X x)(hm:X.mg x=none)(hv:Tz x=some u)(r:RelV v u)(hn:x ≠ "__name__":=by decide) (hd:(x == ("__debug__":Str))=false:=by decide):PE X (.Name x pos) (tC v):=
 fun _ _ _ H _ I h=>iE I hg hm hv ⟨v,H,I,r,h⟩ hn hd
variable {a b:RI}{ta tb:TE}{pos:TC}
variable {tA tB':TT}{bN:List RI}
noncomputable def Fj (t u:TT):TT:=fun σ H Q=>t σ H fun c H1=>if c=true then u σ H1 Q else Q false H1
noncomputable def Fm (t u:TT):TT:=fun σ H Q=>t σ H fun c H1=>if c=true then Q true H1 else u σ H1 Q
noncomputable def Fn (t:TT):TT:=fun σ H Q=>t σ H fun c H1=>Q (!c) H1
theorem Fo (ha:PT X a tA):PW X (.BoolOp .And [a] pos) tA:=by
 intro wh a1Z s σ H Q I h
 refine isTrue_and (aQ (ha a1Z s σ H Q I h) fun c s1 e=>?_)
 cases c with
 | true=>exact isTrue_and_nil e
 | false=>exact e
theorem Fp (ha:PT X a tA):PW X (.BoolOp .Or [a] pos) tA:=by
 intro wh a1Z s σ H Q I h
 refine isTrue_or (aQ (ha a1Z s σ H Q I h) fun c s1 e=>?_)
 cases c with
 | false=>exact isTrue_or_nil e
 | true=>exact e
theorem Fq (ha:PT X a tA)(hb:PW X (.BoolOp .And (b::bN) pos) tB'):PW X (.BoolOp .And (a::b::bN) pos) (Fj tA tB'):=by
 intro wh a1Z s σ H Q I h
 refine isTrue_and (aQ (ha a1Z s σ H _ I h) fun c s1 ⟨H1,I1,q1⟩=>?_)
 cases c with
 | true=>exact hb wh a1Z s1 σ H1 Q I1 q1
 | false=>exact ⟨H1,I1,q1⟩
theorem Fs (ha:PT X a tA)(hb:PW X (.BoolOp .Or (b::bN) pos) tB'):PW X (.BoolOp .Or (a::b::bN) pos) (Fm tA tB'):=by
 intro wh a1Z s σ H Q I h
 refine isTrue_or (aQ (ha a1Z s σ H _ I h) fun c s1 ⟨H1,I1,q1⟩=>?_)
 cases c with
 | true=>exact ⟨H1,I1,q1⟩
 | false=>exact hb wh a1Z s1 σ H1 Q I1 q1
theorem Ft (ha:PT X a tA):PT X (.UnaryOp .Not a pos) (Fn tA):=by
 intro a1Z s σ H Q I h
 exact isTrue_not (ha a1Z s σ H (fun c H1=>Q (!c) H1) I h)
noncomputable def Fu (ta tb:TE):TE:=fun σ H Q=>ta σ H fun x H1=>∃ c,x=.bl c/\if c=true then tb σ H1 Q else Q (.bl false) H1
noncomputable def Fv (ta tb:TE):TE:=fun σ H Q=>ta σ H fun x H1=>∃ c,x=.bl c/\if c=true then Q (.bl true) H1 else tb σ H1 Q
noncomputable def Fw (ta:TE):TE:=fun σ H Q=>ta σ H fun x H1=>∃ c,x=.bl c/\Q (.bl (!c)) H1
theorem Fx {op} {t:TE}(h:PE X a t):PE X (.BoolOp op [a] pos) t:=fun a1Z s σ H Q I hw=>BoolOp_one (h a1Z s σ H Q I hw)
theorem Fy (ha:PE X a ta)(hb:PE X (.BoolOp .And (b::bN) pos) tb):PE X (.BoolOp .And (a::b::bN) pos) (Fu ta tb):=by
 intro a1Z s σ H Q I h
 refine BoolOp_and (aQ (ha a1Z s σ H _ I h) fun v s1 ⟨x,H1,I1,r1,q1⟩=>?_)
 obtain ⟨c,rfl,q1⟩:=q1
 cases r1
 refine Ue ?_
 cases c with
 | true=>exact hb a1Z s1 σ H1 Q I1 q1
 | false=>exact ⟨.bl false,H1,I1,rfl,q1⟩
theorem Fz (ha:PE X a ta)(hb:PE X (.BoolOp .Or (b::bN) pos) tb):PE X (.BoolOp .Or (a::b::bN) pos) (Fv ta tb):=by
 intro a1Z s σ H Q I h
 refine BoolOp_or (aQ (ha a1Z s σ H _ I h) fun v s1 ⟨x,H1,I1,r1,q1⟩=>?_)
 obtain ⟨c,rfl,q1⟩:=q1
 cases r1
 refine Ue ?_
 cases c with
 | false=>exact hb a1Z s1 σ H1 Q I1 q1
 | true=>exact ⟨.bl true,H1,I1,rfl,q1⟩
theorem FA (ha:PE X a ta):PE X (.UnaryOp .Not a pos) (Fw ta):=by
 intro a1Z s σ H Q I h
 refine UnaryOp_ (aQ (ha a1Z s σ H _ I h) fun v s1 ⟨x,H1,I1,r1,q1⟩=>?_)
 obtain ⟨c,rfl,q1⟩:=q1
 cases r1
 exact not_of (Ue ⟨.bl (!c),H1,I1,rfl,q1⟩)
noncomputable def FC (t:TT)(ta tb:TE):TE:=fun σ H Q=>t σ H fun c H1=>if c=true then ta σ H1 Q else tb σ H1 Q
theorem FD {c:RI}(hc:PT X c tA)(ha:PE X a ta)(hb:PE X b tb):PE X (.IfExp c a b pos) (FC tA ta tb):=by
 intro a1Z s σ H Q I h
 refine wpAny_IfExp (aQ (hc a1Z s σ H _ I h) fun d s1 ⟨H1,I1,q1⟩=>?_)
 cases d with
 | true=>exact ha a1Z s1 σ H1 Q I1 q1
 | false=>exact hb a1Z s1 σ H1 Q I1 q1
end
end L2
namespace L2
open PySem PySem.Spec PyProof.Rows
noncomputable def SqL (K:Rn)(H:Hp)(a:Addr)(xs:List V):Prop:=
 Rd H a (.lst xs) \/
  ∃ (o:TK)(its:Array Ru)(n:Nat),K.lookup a=some o/\o.cls=.type "list"/\o.dict=none/\o.data=.seq its n/\its.size<=RL/\Vals xs its.toList
noncomputable def SqT (K:Rn)(H:Hp)(a:Addr)(xs:List V):Prop:=
 Rd H a (.tup xs) \/
  ∃ (o:TK)(its:Array Ru)(n:Nat),K.lookup a=some o/\o.cls=.type "tuple"/\o.dict=none/\o.data=.seq its n/\its.size<=RL/\Vals xs its.toList
noncomputable def FE:Ru->Option V
 | .none=>some .non
 | .bool b=>some (.bl b)
 | .int i _=>some (.int i)
 | .str x _=>some (.str x)
 | .bytes b _=>some (.byt b)
 | .float b _=>some (.flt b)
 | .ref a=>some (.ref a)
 | .type n=>some (.ty n)
 | _=>none
theorem RelV.abs {x:V}{u:Ru}(r:RelV x u):FE u=some x:=by
 cases x with
 | non=>cases r;rfl
 | bl _=>cases r;rfl
 | int _=>obtain ⟨t,rfl⟩:=r;rfl
 | str _=>obtain ⟨t,rfl⟩:=r;rfl
 | byt _=>obtain ⟨t,rfl⟩:=r;rfl
 | flt _=>obtain ⟨t,rfl⟩:=r;rfl
 | ref _=>cases r;rfl
 | ty _=>cases r;rfl
theorem RelV.inj {x y:V}{u:Ru}(r:RelV x u)(q:RelV y u):x=y:=RY (r.abs.symm.trans q.abs)
theorem Vals.inj:∀ {xs ys:List V}{us:List Ru},Vals xs us->Vals ys us->xs=ys
 | _,_,_,.nil,.nil=>rfl
 | _,_,_,.cons r t,.cons r' t'=>by rw [r.inj r',Vals.inj t t']
section
variable {X:Cx}{a1Z:List (Addr×TK)}{σ:St}{H:Hp}{s:RC}{a:Addr}{xs ys:List V}
theorem SqL.of {K:Rn}(h:H a=some (.lst xs)):SqL K H a xs:=.inl (.inl h)
theorem SqT.of {K:Rn}(h:H a=some (.tup xs)):SqT K H a xs:=.inl (.inl h)
theorem Inv.list (I:Inv X a1Z σ H s)(h:SqL X.K H a xs):∃ its:List Ru,Vals xs its/\PlainL s.heap a its.toArray/\xs.length<=RL:=by
 rcases h with h|⟨o,its,n,hk,hc,hd,hs,hz,r⟩
 ·obtain ⟨z,its,n,r,e⟩:=h.ok I.hok
  exact ⟨its,r,⟨_,n,e,rfl,rfl,rfl⟩,z⟩
 ·refine ⟨its.toList,r,⟨o,n,I.kIn a o hk,hc,hd,by simpa using hs⟩,?_⟩
  have e:=r.length
  simp only [Tw] at e
  omega
theorem Inv.tuple (I:Inv X a1Z σ H s)(h:SqT X.K H a xs):∃ its:List Ru,Vals xs its/\Zt s.heap a its.toArray/\xs.length<=RL:=by
 rcases h with h|⟨o,its,n,hk,hc,hd,hs,hz,r⟩
 ·obtain ⟨z,its,r,p⟩:=h.ok I.hok
  exact ⟨its,r,p.tup,z⟩
 ·refine ⟨its.toList,r,⟨o,I.kIn a o hk,hc,n,by simpa using hs⟩,?_⟩
  have e:=r.length
  simp only [Tw] at e
  omega
theorem Inv.list_inj (I:Inv X a1Z σ H s)(h:SqL X.K H a xs)(h':SqL X.K H a ys):xs=ys:=by
 obtain ⟨its,r,⟨o,n,e,_,_,d⟩,_⟩:=I.list h
 obtain ⟨its',r',⟨o',n',e',_,_,d'⟩,_⟩:=I.list h'
 rw [e] at e';cases e'
 rw [d] at d'
 injection d' with d1 _
 have:its=its':=by simpa using congrArg a0G d1
 subst this
 exact r.inj r'
theorem Inv.tuple_inj (I:Inv X a1Z σ H s)(h:SqT X.K H a xs)(h':SqT X.K H a ys):xs=ys:=by
 obtain ⟨its,r,⟨o,e,_,n,d⟩,_⟩:=I.tuple h
 obtain ⟨its',r',⟨o',e',_,n',d'⟩,_⟩:=I.tuple h'
 rw [e] at e';cases e'
 rw [d] at d'
 injection d' with d1 _
 have:its=its':=by simpa using congrArg a0G d1
 subst this
 exact r.inj r'
end
noncomputable abbrev Cx.wish (X:Cx)(E:Ru->RC->Prop):Cx:={ X with xe:=E }
noncomputable abbrev Cx.nox (X:Cx):Cx:=X.wish fun _ _=>False
theorem Cx.Ok.wish {X:Cx}(ok:X.Ok)(E:Ru->RC->Prop):(X.wish E).Ok:=
 ⟨ok.mod,ok.kind,ok.glob,ok.blt,ok.above,ok.inj,ok.has,ok.cab,ok.hd,ok.frames,ok.stk,ok.exf,ok.bs,ok.bsz,ok.noex,ok.exfs,ok.funs,ok.frf⟩
theorem Cx.Ok.unwish {X:Cx}{E:Ru->RC->Prop}(ok:(X.wish E).Ok):X.Ok:=
 ⟨ok.mod,ok.kind,ok.glob,ok.blt,ok.above,ok.inj,ok.has,ok.cab,ok.hd,ok.frames,ok.stk,ok.exf,ok.bs,ok.bsz,ok.noex,ok.exfs,ok.funs,ok.frf⟩
section
variable {X:Cx}{a1Z:List (Addr×TK)}{σ:St}{H:Hp}{s:RC}{E:Ru->RC->Prop}
theorem Inv.wish (I:Inv X a1Z σ H s)(E:Ru->RC->Prop):Inv (X.wish E) a1Z σ H s:=⟨I.ok.wish E,I.os,I.bare,I.base,I.loc,I.cell,I.free,I.freeC,I.pin,I.hok,I.len⟩
theorem Inv.unwish (I:Inv (X.wish E) a1Z σ H s):Inv X a1Z σ H s:=⟨I.ok.unwish,I.os,I.bare,I.base,I.loc,I.cell,I.free,I.freeC,I.pin,I.hok,I.len⟩
theorem SP.unwish {D:Ends}{f:Flow}{s':RC}(h:SP (X.wish E) a1Z D f s'):SP X a1Z D f s':=by
 cases f with
 | next=>obtain ⟨σ',H',I,q⟩:=h;exact ⟨σ',H',I.unwish,q⟩
 | brk=>obtain ⟨σ',H',I,q⟩:=h;exact ⟨σ',H',I.unwish,q⟩
 | cont=>obtain ⟨σ',H',I,q⟩:=h;exact ⟨σ',H',I.unwish,q⟩
 | ret u=>obtain ⟨v,σ',H',I,r,q⟩:=h;exact ⟨v,σ',H',I.unwish,r,q⟩
theorem PSs.nox {st:List Stmt}{t:TS}(h:PSs X.nox st t):PSs X st t:=fun a1Z s σ H D I hw=>
 S5 (h a1Z s σ H D (I.wish _) hw) (fun _ _ q=>q.unwish) fun _ _ z=>T9 z
end
section
variable {X:Cx}{st:Stmt}{bN:List Stmt}{t u:TS}{e:RI}{te:TE}{pos:TC}
noncomputable def zR:TS:=fun D σ H=>D.nx σ H
noncomputable def FF (t u:TS):TS:=fun D σ H=>t { D with nx:=u D } σ H
theorem FG:PSs X [] zR:=fun _ _ σ H _ I h=>Yx ⟨σ,H,I,h⟩
theorem FH (h1:PS X st t)(h2:PSs X bN u):PSs X (st::bN) (FF t u):=by
 intro a1Z s σ H D I h
 refine a0R (aQ (h1 a1Z s σ H { D with nx:=u D } I h) fun f s1 q=>?_)
 cases f with
 | next=>
  obtain ⟨σ',H',I',q⟩:=q
  exact h2 a1Z s1 σ' H' D I' q
 | ret v=>exact q
 | brk=>exact q
 | cont=>exact q
theorem FI (h1:PS X st t):PSs X [st] t:=by
 intro a1Z s σ H D I h
 refine a0R (aQ (h1 a1Z s σ H D I h) fun f s1 q=>?_)
 cases f with
 | next=>exact Yx q
 | ret v=>exact q
 | brk=>exact q
 | cont=>exact q
theorem FJ:PS X (.Pass pos) zR:=fun _ _ σ H _ I h=>wpAny_Pass ⟨σ,H,I,h⟩
theorem Inv.quiet {a1Z:List (Addr×TK)}{σ:St}{H:Hp}{s:RC}(I:Inv X a1Z σ H s):interactive X.env=false:=by simp [interactive,I.ok.kind]
noncomputable def FK (te:TE):TS:=fun D σ H=>te σ H fun _ H1=>D.nx σ H1
theorem FL (he:PE X e te)(hs:VR e none pos.line X.env=pure false:=by rfl):PS X (.Expr e pos) (FK te):=by
 intro a1Z s σ H D I h
 exact wpAny_Expr_any (aQ (he a1Z s σ H _ I h) fun v s1 ⟨x,H1,I1,r1,q1⟩=>⟨σ,H1,I1,q1⟩) I.quiet hs
noncomputable def FN (te:TE):TS:=fun D σ H=>te σ H D.rt
theorem FP (he:PE X e te):PS X (.Return (some e) pos) (FN te):=by
 intro a1Z s σ H D I h
 exact wpAny_Return_some (aQ (he a1Z s σ H _ I h) fun v s1 ⟨x,H1,I1,r1,q1⟩=>⟨x,σ,H1,I1,r1,q1⟩)
noncomputable def FQ:TS:=fun D _ H=>D.rt .non H
theorem FR:PS X (.Return none pos) FQ:=fun _ _ σ H _ I h=>wpAny_Return_none ⟨.non,σ,H,I,rfl,h⟩
noncomputable def FT (c:TT)(t u:TS):TS:=fun D σ H=>c σ H fun b H1=>if b=true then t D σ H1 else u D σ H1
theorem FU {c:RI}{a b:List Stmt}{tc:TT}(hc:PT X c tc)(ha:PSs X a t)(hb:PSs X b u):PS X (.If c a b pos) (FT tc t u):=by
 intro a1Z s σ H D I h
 refine wpAny_If (aQ (hc a1Z s σ H _ I h) fun d s1 ⟨H1,I1,q1⟩=>?_)
 cases d with
 | true=>exact ha a1Z s1 σ H1 D I1 q1
 | false=>exact hb a1Z s1 σ H1 D I1 q1
end
noncomputable abbrev TG:=V->St->Hp->(St->Hp->Prop)->Prop
noncomputable abbrev mM:=List V->St->Hp->(St->Hp->Prop)->Prop
noncomputable def PG (X:Cx)(target:RI)(t:TG):Prop:=
 ∀ (a1Z:List (Addr×TK))(s:RC)(σ:St)(H:Hp)(v:V)(u:Ru)(Q:St->Hp->Prop),Inv X a1Z σ H s->RelV v u->t v σ H Q->
  RQ (R0 X.prog X.w) X.A (XE target X.env u) (fun _ s'=>∃ σ' H',Inv X a1Z σ' H' s'/\Q σ' H') X.xe s
noncomputable def n6 (X:Cx)(ts:List RI)(t:mM):Prop:=
 ∀ (a1Z:List (Addr×TK))(s:RC)(σ:St)(H:Hp)(vs:List V)(us:List Ru)(Q:St->Hp->Prop),Inv X a1Z σ H s->Vals vs us->t vs σ H Q->
  RQ (R0 X.prog X.w) X.A (assignInOrder ((Ui ts X.env).map (·.2)) us) (fun _ s'=>∃ σ' H',Inv X a1Z σ' H' s'/\Q σ' H') X.xe s
noncomputable abbrev zS:=V->V->V->Hp->(Hp->Prop)->Prop
noncomputable def FV (X:Cx)(t:zS):Prop:=
 ∀ (a1Z:List (Addr×TK))(s:RC)(σ:St)(H:Hp)(o i v:V)(ov iv u:Ru)(Q:Hp->Prop),Inv X a1Z σ H s->RelV o ov->RelV i iv->RelV v u->t o i v H Q->
  RQ (R0 X.prog X.w) X.A (setItem ov iv u) (fun _ s'=>∃ H',Inv X a1Z σ H' s'/\Q H') X.xe s
section
variable {X:Cx}{pos:TC}
noncomputable def tP (i:Nat):TG:=fun v σ H Q=>Q (σ.set i (some v)) H
theorem zT {i:Nat}{x:Str}(hN:X.N.Nodup)(hi:X.N[i]? = some x)(hx:Loc X.env.scope x)(hf:X.fn x=true\/X.env.scope.names.lookup x=some .local:=by first|exact .inl rfl|exact .inr rfl|assumption):PG X (.Name x pos) (tP i):=by
 intro a1Z s σ H v u Q I r h
 exact a0I (zP I hN hi hx r (fun s' I'=>⟨_,H,I',h⟩) hf)
noncomputable def zU:mM:=fun vs σ H Q=>vs=[]/\Q σ H
noncomputable def zV (t:TG)(u:mM):mM:=fun vs σ H Q=>∃ v r,vs=v::r/\t v σ H fun σ' H'=>u r σ' H' Q
theorem FW:n6 X [] zU:=by
 intro a1Z s σ H vs us Q I r h
 obtain ⟨e,h⟩:=h
 subst e
 cases r
 exact assignInOrder_nil ⟨σ,H,I,h⟩
theorem FX {e:RI}{es:List RI}{t:TG}{u:mM}(h1:PG X e t)(h2:n6 X es u)
  (hs:(Ui (e::es) X.env).map (·.2)=XE e X.env::(Ui es X.env).map (·.2):=by rfl):n6 X (e::es) (zV t u):=by
 intro a1Z s σ H vs us Q I r h
 obtain ⟨v,vr,e1,h⟩:=h
 subst e1
 cases r with
 | cons r rr=>
  rw [hs]
  refine assignInOrder_cons (aQ (h1 a1Z s σ H _ _ _ I r h) fun _ s1 ⟨σ1,H1,I1,q1⟩=>?_)
  exact h2 a1Z s1 σ1 H1 _ _ Q I1 rr q1
noncomputable def zW (te:TE)(g:TG):TS:=fun D σ H=>te σ H fun x H1=>g x σ H1 D.nx
theorem FY {tg e:RI}{te:TE}{g:TG}(he:PE X e te)(hg:PG X tg g)(hs:swapsWithSole [tg] e pos.line X.env=pure false:=by rfl)(hw:Zg [tg] e X.env=pure none:=by rfl)
  (h1:(Ui [tg] X.env).map (·.2)=[XE tg X.env]:=by rfl):PS X (.Assign [tg] e pos) (zW te g):=by
 intro a1Z s σ H D I h
 refine wpAny_Assign_stores (aQ (he a1Z s σ H _ I h) fun v s1 ⟨x,H1,I1,r1,q1⟩=>?_) hs hw
 rw [h1]
 exact aQ (hg a1Z s1 σ H1 x v _ I1 r1 q1) fun _ s2 q=>q
theorem FZ {i:Nat}{x:Str}{e:RI}{te:TE}{pos':TC}(hN:X.N.Nodup)(hi:X.N[i]? = some x)(hx:Loc X.env.scope x)(he:PE X e te)(hs:VR e (some (.Name x pos')) pos.line X.env=pure false:=by rfl)(hf:X.fn x=true\/X.env.scope.names.lookup x=some .local:=by first|exact .inl rfl|exact .inr rfl|assumption) :
  PS X (.Assign [.Name x pos'] e pos) (zW te (tP i)):=by
 intro a1Z s σ H D I h
 refine wpAny_Assign_Name (aQ (he a1Z s σ H _ I h) fun v s1 ⟨y,H1,I1,r1,q1⟩=>?_) hs
 exact zP I1 hN hi hx r1 (fun s2 I2=>⟨_,H1,I2,q1⟩) hf
end
section
variable {X:Cx}{pos:TC}
end
structure It where
 go:Nat->Hp->Prop
 yld:Nat->Hp->V->Hp->Prop
 stop:Nat->Hp->Prop
noncomputable def gT (X:Cx)(a1Z:List (Addr×TK))(H:Hp)(b:Addr):Prop:=
 H b=none/\b≠X.env.locals/\b∉X.fs/\(b∈X.ex\/X.s₀.heap.objs.size<=b)/\(∀ x c,X.env.cells.lookup x=some c->c≠b)/\∀ p∈X.pn++a1Z,p.1≠b
theorem Inv.fpOk {X:Cx}{a1Z:List (Addr×TK)}{σ:St}{H H':Hp}{s:RC}{b:Addr}(I:Inv X a1Z σ H s)(hb:s.heap.objs.size<=b)(hn:H' b=none):gT X a1Z H' b:=by
 refine ⟨hn,Te (Si I.lt hb),I.nofs hb,.inr (SQ I.sz hb),fun x c e z=>?_,fun p hp z=>?_⟩
 ·obtain ⟨v,q⟩:=I.cell x c e
  exact absurd (Si q.lt (by rw [z];exact hb)) (UA _)
 ·exact absurd (Si (RH (I.pin p hp).1) (by rw [z];exact hb)) (UA _)
structure Turn (P:R8)(w:Sy)(K:Rn)(tg:RI)(J:It)(fp:List Addr)(it:Addr)(tn:Nat->SO->Prop):Prop where
 mem:it∈fp
 obj:∀ i h,tn i h->∀ b∈fp,∃ o,h.get? b=some o/\∀ v,o.data≠.cell v
 keep:∀ i h h',tn i h->(∀ b∈fp,∀ o,h.get? b=some o->h'.get? b=some o)->tn i h'
 item:∀ (X:Cx),X.prog=P->X.w=w->X.K=K->X.calm=true->∀ (i:Nat)(a1Z:List (Addr×TK))(s:RC)(σ:St)(H:Hp)(E:Ru->RC->Prop),Inv X a1Z σ H s->(∀ b∈fp,gT X a1Z H b)->tn i s.heap->J.go i H->
  RQ (R0 P w) X.A (V8 (.ref it)) (fun r s1=>∃ u,r=some u /\
   RQ (R0 P w) X.A (WX tg (.ref it) u) (fun _ s2=>∃ x H',Inv X a1Z σ H' s2/\RelV x u/\J.yld i H x H'/\tn (i+1) s2.heap/\∀ b∈fp,H' b=none) E s1) E s
 done:∀ (X:Cx),X.prog=P->X.w=w->X.K=K->X.calm=true->∀ (i:Nat)(a1Z:List (Addr×TK))(s:RC)(σ:St)(H:Hp)(E:Ru->RC->Prop),Inv X a1Z σ H s->(∀ b∈fp,gT X a1Z H b)->tn i s.heap->J.stop i H->
  RQ (R0 P w) X.A (V8 (.ref it)) (fun r s1=>r=none/\Inv X a1Z σ H s1) E s
 self:∀ (A:Sn)(i:Nat)(s:RC)(Q:Ru->RC->Prop)(E:Ru->RC->Prop),tn i s.heap->Q (.ref it) s->RQ (R0 P w) A (XD (.ref it)) Q E s
noncomputable abbrev TI:=St->Hp->(It->Hp->Prop)->Prop
noncomputable def oA (X:Cx)(a1Z:List (Addr×TK))(σ:St)(tg:RI)(R:It->Hp->Prop)(itv:Ru)(s2:RC):Prop:=
 ∃ (it:Addr)(fp:List Addr)(tn:Nat->SO->Prop)(J:It)(H':Hp),itv=.ref it/\Inv X a1Z σ H' s2/\Turn X.prog X.w X.K tg J fp it tn/\tn 0 s2.heap/\(∀ b∈fp,gT X a1Z H' b)/\R J H'
noncomputable def PI (X:Cx)(tg iter:RI)(wi:TI):Prop:=
 ∀ (a1Z:List (Addr×TK))(s:RC)(σ:St)(H:Hp)(R:It->Hp->Prop),Inv X a1Z σ H s->wi σ H R->
  RQ (R0 X.prog X.w) X.A (eval iter X.env) (fun v s1=>RQ (R0 X.prog X.w) X.A (XD v) (oA X a1Z σ tg R) X.xe s1) X.xe s
theorem oB {M:Model}{A:Sn}{E:Ru->RC->Prop}{s:RC}{tg:RI}{it:Addr}{u:Ru}{o:TK}{n:String}{vs:Array Ru}{Q:Unit->RC->Prop}(ho:s.heap.get? it=some o)(hc:o.cls=.type n)(hd:o.data=.fields vs)
  (hn:["enumerate","zip","dict_itemiterator","dict_reverseitemiterator","odict_iterator","itertools.zip_longest","itertools.pairwise"].contains n=false) (hQ:Q () s):RQ M A (WX tg (.ref it) u) Q E s:=by
 unfold WX
 cases tg<;>first
  | exact Ry hQ
  | (cases u<;>first
    | exact Ry hQ
    | (refine Rm (YN ho ?_)
       rw [hc,hd]
       show RQ M A (if (["enumerate","zip","dict_itemiterator","dict_reverseitemiterator","odict_iterator","itertools.zip_longest","itertools.pairwise"].contains n&&vs[0]? == some (Up _))=true then _ else _) Q E s
       rw [if_neg (by intro h;rw [hn,a0v] at h;cases h)]
       exact Ry hQ))
noncomputable def tQ (K:Rn)(a:Addr):It:=
 ⟨fun i H=>∃ xs x,SqL K H a xs/\xs[i]? = some x,fun i H x H'=>H'=H/\∀ xs,SqL K H a xs->xs[i]? = some x,fun i H=>∃ xs,SqL K H a xs/\xs.length<=i⟩
noncomputable def tR (K:Rn)(a:Addr):It:=
 ⟨fun i H=>∃ xs x,SqT K H a xs/\xs[i]? = some x,fun i H x H'=>H'=H/\∀ xs,SqT K H a xs->xs[i]? = some x,fun i H=>∃ xs,SqT K H a xs/\xs.length<=i⟩
noncomputable def oC (lo:Int)(n:Nat):It:=⟨fun i _=>i<n,fun i H x H'=>H'=H/\x=.int (lo+i),fun i _=>n<=i⟩
theorem F0 {P:R8}{w:Sy}{K:Rn}{tg:RI}(a it:Addr):Turn P w K tg (tQ K a) [it] it (fun i h=>h.IsListIter it a i) where
 mem:=by simp
 obj:=fun i h st b hb=>by
  have e:b=it:=by simpa using hb
  subst e
  obtain ⟨o,e,c,d⟩:=st
  exact ⟨o,e,fun v z=>by rw [d] at z;cases z⟩
 keep:=fun i h h' st k=>st.at fun o e=>k it (by simp) o e
 item:=by
  intro X hP hw hK hc i a1Z s σ H E I hf st hg
  subst hP hw hK
  obtain ⟨xs,x,hq,hx⟩:=hg
  obtain ⟨its,rv,p,hz⟩:=I.list hq
  obtain ⟨u,hu,ru⟩:=rv.get hx
  obtain ⟨f0,f1,f2,f3,f4,f5⟩:=hf it (by simp)
  refine Zv st p.isList (x:=u) (by simpa using hu) fun h' st' sb=>?_
  have I1:Inv X a1Z σ H { s with heap:=h' }:=I.turned (t':=s.toks) (fun b o hb e=>(sb.2 b hb).trans e) f0 f1 f3 f4 f5
  obtain ⟨o,e,c,d⟩:=id st'
  exact ⟨u,rfl,oB (s:={ s with heap:=h' }) e c d (by decide) ⟨x,H,I1,ru,⟨rfl,fun ys hy=>by rw [I.list_inj hy hq];exact hx⟩,st',fun b hb=>(hf b hb).1⟩⟩
 done:=by
  intro X hP hw hK hc i a1Z s σ H E I hf st hg
  subst hP hw hK
  obtain ⟨xs,hq,hx⟩:=hg
  obtain ⟨its,rv,p,hz⟩:=I.list hq
  obtain ⟨f0,f1,f2,f3,f4,f5⟩:=hf it (by simp)
  have hl:=rv.length
  exact ZU (I.ok.hd hc) st p.isList (by simp;omega) fun h' eb=>⟨rfl,I.turned (t':=s.toks) (fun b o hb e=>eb b o hb e) f0 f1 f3 f4 f5⟩
 self:=fun _ _ _ _ _ st h=>wpAny_pyIter_listiter st h
theorem F1 {P:R8}{w:Sy}{K:Rn}{tg:RI}(a it:Addr):Turn P w K tg (tR K a) [it] it (fun i h=>h.IsTupleIter it a i) where
 mem:=by simp
 obj:=fun i h st b hb=>by
  have e:b=it:=by simpa using hb
  subst e
  obtain ⟨o,e,c,d⟩:=st
  exact ⟨o,e,fun v z=>by rw [d] at z;cases z⟩
 keep:=fun i h h' st k=>st.at fun o e=>k it (by simp) o e
 item:=by
  intro X hP hw hK hc i a1Z s σ H E I hf st hg
  subst hP hw hK
  obtain ⟨xs,x,hq,hx⟩:=hg
  obtain ⟨its,rv,p,hz⟩:=I.tuple hq
  obtain ⟨u,hu,ru⟩:=rv.get hx
  obtain ⟨f0,f1,f2,f3,f4,f5⟩:=hf it (by simp)
  refine wpAny_pyNext_tuple_item st (show s.heap.IsTuple a its.toArray from p) (x:=u) (by simpa using hu) fun h' st' sb=>?_
  have I1:Inv X a1Z σ H { s with heap:=h' }:=I.turned (t':=s.toks) (fun b o hb e=>(sb.2 b hb).trans e) f0 f1 f3 f4 f5
  obtain ⟨o,e,c,d⟩:=id st'
  exact ⟨u,rfl,oB (s:={ s with heap:=h' }) e c d (by decide) ⟨x,H,I1,ru,⟨rfl,fun ys hy=>by rw [I.tuple_inj hy hq];exact hx⟩,st',fun b hb=>(hf b hb).1⟩⟩
 done:=by
  intro X hP hw hK hc i a1Z s σ H E I hf st hg
  subst hP hw hK
  obtain ⟨xs,hq,hx⟩:=hg
  obtain ⟨its,rv,p,hz⟩:=I.tuple hq
  obtain ⟨f0,f1,f2,f3,f4,f5⟩:=hf it (by simp)
  have hl:=rv.length
  exact wpAny_pyNext_tuple_end (I.ok.hd hc) st (show s.heap.IsTuple a its.toArray from p) (by simp;omega) fun h' eb=>⟨rfl,I.turned (t':=s.toks) (fun b o hb e=>eb b o hb e) f0 f1 f3 f4 f5⟩
 self:=fun _ _ _ _ _ st h=>wpAny_pyIter_tupleiter st h
theorem F2 {P:R8}{w:Sy}{K:Rn}{tg:RI}(it:Addr)(lo:Int)(n:Nat):Turn P w K tg (oC lo n) [it] it (fun i h=>IsRangeIter h it (lo+(i:Nat) * 1) ((n:Int) - (i:Nat)) 1) where
 mem:=by simp
 obj:=fun i h st b hb=>by
  have e:b=it:=by simpa using hb
  subst e
  exact ⟨_,st,fun v z=>by
   have z':WU _=V1 v:=z
   cases z'⟩
 keep:=fun i h h' st k=>k it (by simp) _ st
 item:=by
  intro X hP hw hK hc i a1Z s σ H E I hf st hg
  subst hP hw hK
  obtain ⟨f0,f1,f2,f3,f4,f5⟩:=hf it (by simp)
  have W:=Walks.range (prog:=X.prog) (w:=X.w) (I.ok.hd hc) it lo 1 n
  refine W.item i s _ _ hg st fun v h' tk hv st' kk=>?_
  obtain ⟨t,rfl⟩:=hv
  have I1:Inv X a1Z σ H { s with heap:=h',toks:=tk }:=I.turned (fun b o hb e=>kk b o (by simpa using hb) e) f0 f1 f3 f4 f5
  refine ⟨_,rfl,oB (s:={ s with heap:=h',toks:=tk }) (n:="range_iterator") st' rfl rfl (by decide) ⟨.int (lo+i),H,I1,⟨t,?_⟩,⟨rfl,rfl⟩,st',fun b hb=>(hf b hb).1⟩⟩
  rw [Int.mul_one]
 done:=by
  intro X hP hw hK hc i a1Z s σ H E I hf st hg
  subst hP hw hK
  obtain ⟨f0,f1,f2,f3,f4,f5⟩:=hf it (by simp)
  exact wpAny_pyNext_range_end (I.ok.hd hc) st (by have:n<=i:=hg;omega) fun h' eb=>⟨rfl,I.turned (t':=s.toks) (fun b o hb e=>eb b o hb e) f0 f1 f3 f4 f5⟩
 self:=fun _ _ _ _ _ st h=>wpAny_pyIter_rangeiter st h
end L2
namespace L2
open PySem PySem.Spec PyProof.Rows
section
variable {X:Cx}{tg:RI}
theorem zX {a1Z:List (Addr×TK)}{σ:St}{H:Hp}{s:RC}{R:It->Hp->Prop}{E:Ru->RC->Prop}{lo hi:Int}{t u v:a1U}{tk:Nat}(I:Inv X a1Z σ H s)(h1:-(2 ^ 62)<=lo)(h2:lo<2 ^ 62)(h3:-(2 ^ 62)<=hi)(h4:hi<2 ^ 62)
  (q:R (oC lo (hi - lo).toNat) H):RQ (R0 X.prog X.w) X.A (XD (.ref s.heap.objs.size)) (oA X a1Z σ tg R) E { s with heap:=s.heap.push { cls:=.type "range",data:=.fields #[.int lo t,.int hi u,.int 1 v] },toks:=tk }:=by
 refine wpAny_pyIter_range (IsRange.new ..) (small_one h1 h2 h3 h4) ?_
 have I1:Inv X a1Z σ H { s with heap:=s.heap.push { cls:=.type "range",data:=.fields #[.int lo t,.int hi u,.int 1 v] },toks:=tk }:=I.kept fun b o e=>Rt _ e
 refine ⟨(s.heap.push { cls:=.type "range",data:=.fields #[.int lo t,.int hi u,.int 1 v] }).objs.size,[(s.heap.push { cls:=.type "range",data:=.fields #[.int lo t,.int hi u,.int 1 v] }).objs.size],_,_,H,rfl,
  I1.kept (t':=tk) fun b o e=>Rt _ e,F2 _ lo (hi - lo).toNat,?_,fun b hb=>?_,q⟩
 ·have e1:lo+((0:Nat):Int) * 1=lo:=by simp
  have e2:(((hi - lo).toNat:Nat):Int) - ((0:Nat):Int)=a1i lo hi 1:=by rw [rangeSize_one];split<;>omega
  show IsRangeIter _ _ (lo+((0:Nat):Int) * 1) ((((hi - lo).toNat:Nat):Int) - ((0:Nat):Int)) 1
  rw [e1,e2]
  exact RK _ rfl
 ·have e:b=(s.heap.push { cls:=.type "range",data:=.fields #[.int lo t,.int hi u,.int 1 v] }).objs.size:=by simpa using hb
  subst e
  exact I1.fpOk (RD _) (I1.hok.fresh (RD _))
noncomputable def F3 (ta:TA):TI:=fun σ H R=>ta σ H fun vs H1=>∃ j:Int,vs=[.int j]/\-(2 ^ 62)<=j/\j<2 ^ 62/\R (oC 0 j.toNat) H1
noncomputable def F4 (ta:TA):TI:=fun σ H R=>ta σ H fun vs H1=>∃ i j:Int,vs=[.int i,.int j]/\(-(2 ^ 62)<=i/\i<2 ^ 62/\-(2 ^ 62)<=j/\j<2 ^ 62)/\R (oC i (j - i).toNat) H1
theorem F5 {a:RI}{ta:TA}{p pos:TC}(hg:Gl X "range") (hm:X.mg "range" = none) (ha:PA X [a] ta)(hs:Sj [a] X.env=[(false,eval a X.env)]:=by rfl):PI X tg (.Call (.Name "range" p) [a] [] pos) (F3 ta):=by
 intro a1Z s σ H R I h
 refine Call_ (iE I hg hm boot_range (Tf (aQ (ha pos a1Z s σ H _ I h) fun us s1 ⟨vs,H1,I1,r1,q1⟩=>?_) hs rfl))
 obtain ⟨j,e,q1,q2,q⟩:=q1
 subst e
 cases r1 with
 | cons r rr=>
  cases rr
  obtain ⟨t,rfl⟩:=r
  exact call_range_1 (zX I1 (by omega) (by omega) q1 q2 (by simpa using q))
theorem F6 {a b:RI}{ta:TA}{p pos:TC}(hg:Gl X "range") (hm:X.mg "range" = none) (ha:PA X [a,b] ta)(hs:Sj [a,b] X.env=[(false,eval a X.env),(false,eval b X.env)]:=by rfl)(hs2:Sj [b] X.env=[(false,eval b X.env)]:=by rfl) :
  PI X tg (.Call (.Name "range" p) [a,b] [] pos) (F4 ta):=by
 intro a1Z s σ H R I h
 refine Call_ (iE I hg hm boot_range (Tf (aQ (ha pos a1Z s σ H _ I h) fun us s1 ⟨vs,H1,I1,r1,q1⟩=>?_) (by rw [hs,hs2]) (by rw [hs2];rfl)))
 obtain ⟨i,j,e,⟨q1,q2,q3,q4⟩,q⟩:=q1
 subst e
 cases r1 with
 | cons r rr=>
  cases rr with
  | cons r' rr=>
   cases rr
   obtain ⟨t,rfl⟩:=r
   obtain ⟨t',rfl⟩:=r'
   exact call_range_2 (zX I1 q1 q2 q3 q4 q)
noncomputable def F7 (wi:TI)(g:TG)(tb:TS):TS:=fun D σ H=>wi σ H fun J H1=>∃ W:Nat->Nat->St->Hp->Prop,(∃ m,W 0 m σ H1)/\∀ i m σ H,W i m σ H->
 (J.stop i H/\D.nx σ H)\/(J.go i H/\∃ N:St->Hp->Prop,(∀ σ' H',N σ' H'->∃ m',m'<m/\W (i+1) m' σ' H')/\∀ x H',J.yld i H x H'->g x σ H' fun σ2 H2=>tb { D with nx:=N,ct:=N,bk:=D.nx } σ2 H2)
noncomputable def oD (fp:List Addr)(h:SO):List (Addr×TK):=fp.filterMap fun b=>(h.get? b).map fun o=>(b,o)
theorem qH {fp:List Addr}{h:SO}{b:Addr}{o:TK}(hb:b∈fp)(e:h.get? b=some o):(b,o)∈oD fp h:=Vj.mpr ⟨b,hb,by rw [e];rfl⟩
theorem F8 {fp:List Addr}{h:SO}{p:Addr×TK}(hp:p∈oD fp h):p.1∈fp/\h.get? p.1=some p.2:=by
 obtain ⟨b,hb,e⟩:=Vj.mp hp
 cases q:h.get? b with
 | none=>rw [q] at e;cases e
 | some o=>
  rw [q] at e
  have e':(b,o)=p:=RY e
  subst e'
  exact ⟨hb,q⟩
theorem Inv.pinned {a1Z:List (Addr×TK)}{σ:St}{H:Hp}{s:RC}{fp:List Addr}(I:Inv X a1Z σ H s)(hf:∀ b∈fp,gT X a1Z H b)(ho:∀ b∈fp,∃ o,s.heap.get? b=some o/\∀ v,o.data≠.cell v):Inv X (a1Z++oD fp s.heap) σ H s:=
 I.pins_of fun p hp=>(S8.mp hp).elim (fun z=>I.pin p (S7 _ z)) fun z=>by
  obtain ⟨hb,e⟩:=F8 z
  obtain ⟨f0,f1,f2,_⟩:=hf p.1 hb
  obtain ⟨o,e',d⟩:=ho p.1 hb
  rw [e] at e';cases e'
  exact ⟨e,f0,f1,f2,d⟩
theorem Inv.unpinned {a1Z pl:List (Addr×TK)}{σ:St}{H:Hp}{s:RC}(I:Inv X (a1Z++pl) σ H s):Inv X a1Z σ H s:=I.pins_of fun p hp=>I.pin p (S7 _ (Zb _ hp))
theorem F9 {iter:RI}{body:List Stmt}{wi:TI}{g:TG}{tb:TS}{pos:TC}(hp:a0Z (R0 X.prog X.w) X.A X.env X.xe)(hc:X.calm=true)(hi:PI X tg iter wi)(hg:PG X tg g)(hb:PSs X body tb)
  (hs:∀ x,VH iter X.env x=pure x:=by intro _;rfl):PS X (.For tg iter body [] pos) (F7 wi g tb):=by
 intro a1Z s σ H D I h
 refine wpAny_For (aQ (hi a1Z s σ H _ I h) fun v s1 h1=>aQ h1 fun itv s2 h2=>?_) hs
 obtain ⟨it,fp,tn,J,H2,e,I2,T,st2,f2,W,⟨m0,w0⟩,turn⟩:=h2
 subst e
  -- what stays true of the iterator's objects through the loop
 have stat:∀ {H':Hp},(∀ b∈fp,H' b=none)->∀ b∈fp,gT X a1Z H' b:=fun hn b hb=>⟨hn b hb,(f2 b hb).2⟩
 refine codeAny_forLoop_any (fun n s'=>∃ i σ' H',Inv X a1Z σ' H' s'/\tn i s'.heap/\(∀ b∈fp,H' b=none)/\W i n σ' H') ?_ m0 ⟨0,σ,H2,I2,st2,fun b hb=>(f2 b hb).1,w0⟩
 rintro n s3 ⟨i,σ3,H3,I3,st3,fr3,w3⟩
 rcases turn i n σ3 H3 w3 with ⟨stop,qn⟩|⟨go,N,hN,step⟩
 ·refine V7 hp (aQ (T.done X rfl rfl rfl hc i a1Z s3 σ3 H3 X.xe I3 (stat fr3) st3 stop) fun r s4 ⟨hr,I4⟩=>?_)
  subst hr
  exact Yx ⟨σ3,H3,I4,qn⟩
 ·refine V7 hp (aQ (T.item X rfl rfl rfl hc i a1Z s3 σ3 H3 X.xe I3 (stat fr3) st3 go) fun r s4 ⟨u,hr,h4⟩=>?_)
  subst hr
  refine V7 hp (aQ h4 fun _ s5 ⟨x,H5,I5,r5,y5,st5,fr5⟩=>?_)
  have I5':=I5.pinned (stat fr5) (T.obj _ _ st5)
  refine V7 hp (aQ (hg _ s5 σ3 H5 x u _ I5' r5 (step x H5 y5)) fun _ s6 ⟨σ6,H6,I6,q6⟩=>?_)
  refine V7 hp (aQ (hb _ s6 σ6 H6 _ I6 q6) fun f s7 q7=>?_)
  have again:∀ {σ7:St}{H7:Hp},Inv X (a1Z++oD fp s5.heap) σ7 H7 s7->N σ7 H7->∃ m,m<n/\∃ i σ' H',Inv X a1Z σ' H' s7/\tn i s7.heap/\(∀ b∈fp,H' b=none)/\W i m σ' H':=fun {σ7 H7} I7 n7=>by
   obtain ⟨m',hm,w7⟩:=hN σ7 H7 n7
   refine ⟨m',hm,i+1,σ7,H7,I7.unpinned,T.keep _ _ _ st5 fun b hb o e=>(I7.pin (b,o) (S7 _ (S7 _ (qH hb e)))).1,fun b hb=>?_,w7⟩
   obtain ⟨o,e,d⟩:=T.obj _ _ st5 b hb
   exact (I7.pin (b,o) (S7 _ (S7 _ (qH hb e)))).2.1
  cases f with
  | next=>obtain ⟨σ7,H7,I7,n7⟩:=q7;exact again I7 n7
  | cont=>obtain ⟨σ7,H7,I7,n7⟩:=q7;exact again I7 n7
  | brk=>obtain ⟨σ7,H7,I7,q7⟩:=q7;exact ⟨σ7,H7,I7.unpinned,q7⟩
  | ret v=>obtain ⟨x7,σ7,H7,I7,r7,q7⟩:=q7;exact ⟨x7,σ7,H7,I7.unpinned,r7,q7⟩
end
end L2
namespace L2
open PySem PySem.Spec PyProof.Rows
noncomputable abbrev R2:=V->V->Hp->VK->Prop
noncomputable def OpR (X:Cx)(f:Ru->Ru->a1n Ru)(r:R2):Prop:=
 ∀ (a1Z:List (Addr×TK))(s:RC)(σ:St)(H:Hp)(x y:V)(v u:Ru)(Q:VK),Inv X a1Z σ H s->RelV x v->RelV y u->r x y H Q->
  RQ (R0 X.prog X.w) X.A (f v u) (EP X a1Z σ Q) X.xe s
noncomputable def tS (X:Cx)(f:Ru->a1n Ru)(r:V->Hp->VK->Prop):Prop:=
 ∀ (a1Z:List (Addr×TK))(s:RC)(σ:St)(H:Hp)(x:V)(v:Ru)(Q:VK),Inv X a1Z σ H s->RelV x v->r x H Q->
  RQ (R0 X.prog X.w) X.A (f v) (EP X a1Z σ Q) X.xe s
noncomputable def CallR (X:Cx)(f:Ru)(r:List V->Hp->VK->Prop):Prop:=
 ∀ (a1Z:List (Addr×TK))(s:RC)(σ:St)(H:Hp)(xs:List V)(us:List Ru)(Q:VK),Inv X a1Z σ H s->Vals xs us->r xs H Q->
  RQ (R0 X.prog X.w) X.A (call f us) (EP X a1Z σ Q) X.xe s
noncomputable def Ga (X:Cx)(r:V->Hp->(Bool->Hp->Prop)->Prop):Prop:=
 ∀ (a1Z:List (Addr×TK))(s:RC)(σ:St)(H:Hp)(x:V)(v:Ru)(Q:Bool->Hp->Prop),Inv X a1Z σ H s->RelV x v->r x H Q->
  RQ (R0 X.prog X.w) X.A (truthy v) (TP X a1Z σ Q) X.xe s
noncomputable def oE (r:R2)(ta tb:TE):TE:=fun σ H Q=>ta σ H fun x H1=>tb σ H1 fun y H2=>r x y H2 Q
noncomputable def Gb (r:V->Hp->VK->Prop)(ta:TE):TE:=fun σ H Q=>ta σ H fun x H1=>r x H1 Q
noncomputable def rI (C:Int->Int->Prop)(g:Int->Int->V):R2:=fun x y H Q=>∃ i j,x=.int i/\y=.int j/\C i j/\Q (g i j) H
noncomputable def fT (g:Int->Int->V):R2:=fun x y H Q=>∃ i j,x=.int i/\y=.int j/\Q (g i j) H
noncomputable def rU (g:Int->V):V->Hp->VK->Prop:=fun x H Q=>∃ i,x=.int i/\Q (g i) H
section
variable {X:Cx}{a b c:RI}{ta tb tc:TE}{pos:TC}
theorem tT (ha:PE X a ta)(hb:PE X b tb){a1Z:List (Addr×TK)}{s:RC}{σ:St}{H:Hp}{R:V->V->Hp->Prop}(I:Inv X a1Z σ H s)
  (h:ta σ H fun x H1=>tb σ H1 fun y H2=>R x y H2){Q:Ru->RC->Prop}{f:Ru->Ru->a1n Ru}
  (hf:∀ v u s2 x y H2,Inv X a1Z σ H2 s2->RelV x v->RelV y u->R x y H2->RQ (R0 X.prog X.w) X.A (f v u) Q X.xe s2) :
  RQ (R0 X.prog X.w) X.A (eval a X.env) (fun v s₁=>RQ (R0 X.prog X.w) X.A (eval b X.env) (fun u s₂=>RQ (R0 X.prog X.w) X.A (f v u) Q X.xe s₂) X.xe s₁) X.xe s:=by
 refine aQ (ha a1Z s σ H _ I h) fun v s1 ⟨x,H1,I1,r1,q1⟩=>?_
 refine aQ (hb a1Z s1 σ H1 _ I1 q1) fun u s2 ⟨y,H2,I2,r2,q2⟩=>?_
 exact hf v u s2 x y H2 I2 r1 r2 q2
theorem Gd {op:YY}{r:R2}(ho:OpR X (UL op) r)(ha:PE X a ta)(hb:PE X b tb):PE X (.BinOp a op b pos) (oE r ta tb):=by
 intro a1Z s σ H Q I h
 exact wpAny_BinOp (tT ha hb I h fun v u s2 x y H2 I2 rx ry q=>ho a1Z s2 σ H2 x y v u Q I2 rx ry q)
theorem Ge {op:UnaryOp}{r:V->Hp->VK->Prop}(ho:tS X (unaryOp op) r)(ha:PE X a ta):PE X (.UnaryOp op a pos) (Gb r ta):=by
 intro a1Z s σ H Q I h
 exact UnaryOp_ (aQ (ha a1Z s σ H _ I h) fun v s1 ⟨x,H1,I1,r1,q1⟩=>ho a1Z s1 σ H1 x v Q I1 r1 q1)
theorem qI {f:Ru->Ru->a1n Ru}{C:Int->Int->Prop}{g:Int->Int->Int}
  (rule:∀ (i j:Int)(t u:a1U)(s:RC)(Q:Ru->RC->Prop)(E:Ru->RC->Prop),C i j->Q (.int (g i j) s.toks) { s with toks:=s.toks+1 }->RQ (R0 X.prog X.w) X.A (f (.int i t) (.int j u)) Q E s) :
  OpR X f (rI C fun i j=>.int (g i j)):=by
 intro a1Z s σ H x y v u Q I rx ry h
 obtain ⟨i,j,rfl,rfl,hc,q⟩:=h
 obtain ⟨t,rfl⟩:=rx
 obtain ⟨t',rfl⟩:=ry
 exact rule i j t t' s _ _ hc ⟨.int (g i j),H,I.tok _,⟨_,rfl⟩,q⟩
theorem zY {f:Ru->Ru->a1n Ru}{g:Int->Int->Int}
  (rule:∀ (i j:Int)(t u:a1U)(s:RC)(Q:Ru->RC->Prop)(E:Ru->RC->Prop),Q (.int (g i j) s.toks) { s with toks:=s.toks+1 }->RQ (R0 X.prog X.w) X.A (f (.int i t) (.int j u)) Q E s) :
  OpR X f (fT fun i j=>.int (g i j)):=by
 intro a1Z s σ H x y v u Q I rx ry h
 obtain ⟨i,j,rfl,rfl,q⟩:=h
 obtain ⟨t,rfl⟩:=rx
 obtain ⟨t',rfl⟩:=ry
 exact rule i j t t' s _ _ ⟨.int (g i j),H,I.tok _,⟨_,rfl⟩,q⟩
theorem qJ {f:Ru->Ru->a1n Ru}{g:Int->Int->Bool}
  (rule:∀ (i j:Int)(t u:a1U)(s:RC)(Q:Ru->RC->Prop)(E:Ru->RC->Prop),Q (.bool (g i j)) s->RQ (R0 X.prog X.w) X.A (f (.int i t) (.int j u)) Q E s) :
  OpR X f (fT fun i j=>.bl (g i j)):=by
 intro a1Z s σ H x y v u Q I rx ry h
 obtain ⟨i,j,rfl,rfl,q⟩:=h
 obtain ⟨t,rfl⟩:=rx
 obtain ⟨t',rfl⟩:=ry
 exact rule i j t t' s _ _ ⟨.bl (g i j),H,I,rfl,q⟩
noncomputable def Gf (i j:Int):Prop:=0<=j/\j<=1000000/\i.natAbs<2 ^ 64
noncomputable def CMul (i j:Int):Prop:=(-(2 ^ 64)<i/\i<2 ^ 64)\/(-(2 ^ 64)<j/\j<2 ^ 64)
theorem CMul.ok {i j:Int}(h:CMul i j):a0l i j:=by
 rcases h with ⟨h1,h2⟩|⟨h1,h2⟩
 ·exact .of_left (intBits_le_64 h1 h2)
 ·exact .of_right (intBits_le_64 h1 h2)
theorem op_add:OpR X (UL .Add) (fT fun i j=>.int (i+j)):=zY fun _ _ _ _ _ _ _ q=>add_int q
theorem Gg:OpR X (UL .Sub) (fT fun i j=>.int (i - j)):=zY fun _ _ _ _ _ _ _ q=>sub_int q
theorem Gh:OpR X (UL .Mod) (rI (fun _ j=>0<j) fun i j=>.int (i % j)):=qI fun i j _ _ _ _ _ hc q=>by
 have h1:(0:Int)<j:=hc
 exact mod_int' (by omega) (by rw [Int.fmod_eq_emod_of_nonneg i (by omega)];exact q)
theorem zZ {f:Ru->a1n Ru}{g:Int->Int}
  (rule:∀ (i:Int)(t:a1U)(s:RC)(Q:Ru->RC->Prop)(E:Ru->RC->Prop),Q (.int (g i) s.toks) { s with toks:=s.toks+1 }->RQ (R0 X.prog X.w) X.A (f (.int i t)) Q E s) :
  tS X f (rU fun i=>.int (g i)):=by
 intro a1Z s σ H x v Q I rx h
 obtain ⟨i,rfl,q⟩:=h
 obtain ⟨t,rfl⟩:=rx
 exact rule i t s _ _ ⟨.int (g i),H,I.tok _,⟨_,rfl⟩,q⟩
theorem Gi:tS X (unaryOp .USub) (rU fun i=>.int (-i)):=zZ fun _ _ _ _ _ q=>neg_int q
end
section
variable {X:Cx}{a b c:RI}{ta tb tc:TE}{pos:TC}
theorem Gj {a1Z:List (Addr×TK)}{σ:St}{H:Hp}{s:RC}{Q:VK}{k k':Bool}(I:Inv X a1Z σ H s)(q:Q (.bl k) H)(e:k=k'):EP X a1Z σ Q (.bool k') s:=by
 subst e
 exact ⟨.bl k,H,I,rfl,q⟩
theorem tU:OpR X (S4 .Lt) (fT fun i j=>.bl (decide (i<j))):=qJ fun _ _ _ _ _ _ _ q=>lt_int q
theorem tV:OpR X (S4 .LtE) (fT fun i j=>.bl (decide (i<=j))):=qJ fun _ _ _ _ _ _ _ q=>le_int q
theorem tW:OpR X (S4 .Gt) (fT fun i j=>.bl (decide (j<i))):=qJ fun _ _ _ _ _ _ _ q=>gt_int q
theorem tX:OpR X (S4 .GtE) (fT fun i j=>.bl (decide (j<=i))):=qJ fun _ _ _ _ _ _ _ q=>ge_int q
theorem z7:OpR X (S4 .In) (fun x y H Q=>∃ i j,x=.str i/\y=.str j/\Q (.bl (!(Tn j i 0 j.length 1).isEmpty)) H):=by
 intro a1Z s σ H x y v u Q I rx ry h
 obtain ⟨i,j,rfl,rfl,q⟩:=h
 obtain ⟨t,rfl⟩:=rx
 obtain ⟨t',rfl⟩:=ry
 exact in_str (Gj I q rfl)
theorem OpR.or {f:Ru->Ru->a1n Ru}{r r':R2}(h:OpR X f r)(h':OpR X f r'):OpR X f (fun x y H Q=>r x y H Q\/r' x y H Q):=by
 intro a1Z s σ H x y v u Q I rx ry q
 rcases q with q|q
 ·exact h a1Z s σ H x y v u Q I rx ry q
 ·exact h' a1Z s σ H x y v u Q I rx ry q
theorem dZ (b:RI){op:Vr}(h:op≠.In:=by decide)(h2:op≠.NotIn:=by decide):U1 op b=false:=by
 have e1:(op == CmpOp.In)=false:=by cases op<;>first|rfl|exact absurd rfl h
 have e2:(op == CmpOp.NotIn)=false:=by cases op<;>first|rfl|exact absurd rfl h2
 cases b<;>simp [U1,e1,e2]
theorem Gk {op:Vr}{r:R2}(ho:OpR X (S4 op) r)(ha:PE X a ta)(hb:PE X b tb)(hm:U1 op b=false):PE X (.Compare a [op] [b] pos) (oE r ta tb):=by
 intro a1Z s σ H Q I h
 exact wpAny_Compare1 (tT ha hb I h fun v u s2 x y H2 I2 rx ry q=>ho a1Z s2 σ H2 x y v u Q I2 rx ry q) hm
noncomputable def z8 (t:TE):TT:=fun σ H Q=>t σ H fun x H'=>∃ k,x=.bl k/\Q k H'
theorem Gm {op:Vr}{r:R2}(ho:OpR X (S4 op) r)(ha:PE X a ta)(hb:PE X b tb)(hm:U1 op b=false):PT X (.Compare a [op] [b] pos) (z8 (oE r ta tb)):=by
 intro a1Z s σ H Q I h
 refine wpAny_isTrue_Compare1 (aQ (ha a1Z s σ H _ I h) fun v s1 ⟨x,H1,I1,r1,q1⟩=>aQ (hb a1Z s1 σ H1 _ I1 q1) fun u s2 ⟨y,H2,I2,r2,q2⟩=>
  aQ (ho a1Z s2 σ H2 x y v u _ I2 r1 r2 q2) fun c s3 ⟨z,H3,I3,r3,k,e,q3⟩=>?_) hm
 subst e
 cases r3
 exact Ue ⟨H3,I3,q3⟩
noncomputable def tY (r r':R2)(ta tb tc:TE):TE:=fun σ H Q=>ta σ H fun x H1=>tb σ H1 fun y H2=>r x y H2 fun z H3=>∃ k,z=.bl k /\
 (if k=true then tc σ H3 fun w' H4=>r' y w' H4 Q else Q (.bl false) H3)
theorem Gn {op op':Vr}{r r':R2}(ho:OpR X (S4 op) r)(ho':OpR X (S4 op') r')(ha:PE X a ta)(hb:PE X b tb)(hc:PE X c tc)
  (hm:a0U [op,op'] [b,c]=false:=by with_unfolding_all rfl):PE X (.Compare a [op,op'] [b,c] pos) (tY r r' ta tb tc):=by
 intro a1Z s σ H Q I h
 refine Compare_chain (aQ (ha a1Z s σ H _ I h) fun v s1 ⟨x,H1,I1,r1,q1⟩=>chain_link (aQ (hb a1Z s1 σ H1 _ I1 q1) fun u s2 ⟨y,H2,I2,r2,q2⟩=>
  aQ (ho a1Z s2 σ H2 x y v u _ I2 r1 r2 q2) fun d s3 ⟨z,H3,I3,r3,k,e,q3⟩=>?_)) hm
 subst e
 cases r3
 refine Ue ?_
 cases k with
 | false=>exact ite_ff ⟨.bl false,H3,I3,rfl,q3⟩
 | true=>exact ite_tt (chain_last (aQ (hc a1Z s3 σ H3 _ I3 q3) fun w' s4 ⟨z',H4,I4,r4,q4⟩=>ho' a1Z s4 σ H4 y z' u w' Q I4 r2 r4 q4))
theorem Gp {op op':Vr}{r r':R2}(ho:OpR X (S4 op) r)(ho':OpR X (S4 op') r')(ha:PE X a ta)(hb:PE X b tb)(hc:PE X c tc)
  (hm:a0U [op,op'] [b,c]=false:=by with_unfolding_all rfl):PT X (.Compare a [op,op'] [b,c] pos) (z8 (tY r r' ta tb tc)):=by
 intro a1Z s σ H Q I h
 refine isTrue_chain (aQ (ha a1Z s σ H _ I h) fun v s1 ⟨x,H1,I1,r1,q1⟩=>test_link (aQ (hb a1Z s1 σ H1 _ I1 q1) fun u s2 ⟨y,H2,I2,r2,q2⟩=>
  aQ (ho a1Z s2 σ H2 x y v u _ I2 r1 r2 q2) fun d s3 ⟨z,H3,I3,r3,k,e,q3⟩=>?_)) hm
 subst e
 cases r3
 refine Ue ?_
 cases k with
 | false=>
  obtain ⟨k',e',q'⟩:=q3
  cases e'
  exact ite_ff ⟨H3,I3,q'⟩
 | true=>
  refine ite_tt (test_last (aQ (hc a1Z s3 σ H3 _ I3 q3) fun w' s4 ⟨z',H4,I4,r4,q4⟩=>aQ (ho' a1Z s4 σ H4 y z' u w' _ I4 r2 r4 q4) fun d' s5 ⟨z2,H5,I5,r5,k2,e2,q5⟩=>?_))
  subst e2
  cases r5
  exact Ue ⟨H5,I5,q5⟩
noncomputable def tZ (K:Rn)(x:V)(H:Hp)(k:Bool):Prop:=
 match x with
 | .non=>k=false
 | .bl b=>k=b
 | .int i=>k=(i != 0)
 | .str y=>y.length<=RL/\k=((y.length:Int) != 0)
 | .byt y=>y.size<=RL/\k=((y.size:Int) != 0)
 | .ref p=>(∃ xs,SqL K H p xs/\k = !xs.isEmpty)\/(∃ xs,SqT K H p xs/\k = !xs.isEmpty)\/∃ kvs,H p=some (.dK kvs)/\k = !kvs.isEmpty
 | _=>False
theorem Gq {κ:Type}{kvs:List (κ×V)}{vs:List (κ×Ru)}(r:KV kvs vs):(!vs.isEmpty) = !kvs.isEmpty:=by
 cases r<;>rfl
theorem z9 {xs:List V}{its:List Ru}(r:Vals xs its):(!its.toArray.isEmpty) = !xs.isEmpty:=by
 cases r<;>simp
theorem lA:(RL:Nat)<2 ^ 63:=by rw [Sh];decide
theorem Gs:Ga X (fun x H Q=>∃ k,tZ X.K x H k/\Q k H):=by
 intro a1Z s σ H x v Q I rx h
 obtain ⟨k,e,q⟩:=h
 have hl:=lA
 have hs:RL=16777216:=Sh
 cases x with
 | non=>
  cases rx
  have e':k=false:=e
  subst e'
  exact truthy_none ⟨H,I,q⟩
 | bl b=>
  cases rx
  have e':k=b:=e
  subst e'
  exact Ue ⟨H,I,q⟩
 | int i=>
  obtain ⟨t,rfl⟩:=rx
  have e':k=(i != 0):=e
  subst e'
  exact PySem.P.truthy_int ⟨H,I,q⟩
 | str y=>
  obtain ⟨t,rfl⟩:=rx
  obtain ⟨hy,e'⟩:y.length<=RL/\k=((y.length:Int) != 0):=e
  subst e'
  exact PySem.P.truthy_str (by omega) ⟨H,I.tok _,q⟩
 | byt y=>
  obtain ⟨t,rfl⟩:=rx
  obtain ⟨hy,e'⟩:y.size<=RL/\k=((y.size:Int) != 0):=e
  subst e'
  exact PySem.W.truthy_bytes (by omega) ⟨H,I.tok _,q⟩
 | ref p=>
  cases rx
  have e':(∃ xs,SqL X.K H p xs/\k = !xs.isEmpty)\/(∃ xs,SqT X.K H p xs/\k = !xs.isEmpty)\/∃ kvs,H p=some (.dK kvs)/\k = !kvs.isEmpty:=e
  rcases e' with ⟨xs,hx,e'⟩|⟨xs,hx,e'⟩|⟨kvs,hx,e'⟩
  ·subst e'
   obtain ⟨its,r,pl,hz⟩:=I.list hx
   have hlen:=r.length
   exact wpAny_truthy_list pl.isList (by simp only [RS];omega) ⟨H,I.tok _,by rw [z9 r];exact q⟩
  ·subst e'
   obtain ⟨its,r,pl,hz⟩:=I.tuple hx
   have hlen:=r.length
   exact truthy_tuple pl (by simp only [RS];omega) ⟨H,I.tok _,by rw [z9 r];exact q⟩
  ·subst e'
   obtain ⟨hz,hS,vs,r,m⟩:kvs.length<=RL/\(p == SW)=false/\∃ vs,KV kvs vs/\s.heap.DictOf (k9 X.prog X.w) p vs:=I.hok p _ hx
   have hlen:kvs.length=vs.length:=Yb r
   exact wpAny_truthy_dict hS m (by omega) ⟨H,I.tok _,by rw [Gq r];exact q⟩
 | _=>exact (show False from e).elim
theorem Gu (ha:PE X a ta)(he:∀ whole,ZC a X.env whole=(do let v <- whole;standAt a.pos;holding [v] (truthy v))) :
  PT X a (fun σ H Q=>ta σ H fun x H'=>∃ k,tZ X.K x H' k/\Q k H'):=by
 intro a1Z s σ H Q I h
 exact isTrue_plain (aQ (ha a1Z s σ H _ I h) fun v s1 ⟨x,H1,I1,r1,q1⟩=>Gs a1Z s1 σ H1 x v Q I1 r1 q1) (he _)
theorem op_add_str:OpR X (UL .Add) (fun x y H Q=>∃ i j,x=.str i/\y=.str j/\i.length+j.length<=RL/\Q (.str (i++j)) H):=by
 intro a1Z s σ H x y v u Q I rx ry h
 obtain ⟨i,j,rfl,rfl,hz,q⟩:=h
 obtain ⟨t,rfl⟩:=rx
 obtain ⟨t',rfl⟩:=ry
 exact add_str (fun t' tk=>⟨.str (i++j),H,I.tok _,⟨_,rfl⟩,q⟩) hz
theorem fU {x:V}{us:List Ru}(r:Vals [x] us):∃ u,us=[u]/\RelV x u:=by
 cases r with
 | cons r1 r2=>cases r2;exact ⟨_,rfl,r1⟩
theorem t4 {x y:V}{us:List Ru}(r:Vals [x,y] us):∃ u w',us=[u,w']/\RelV x u/\RelV y w':=by
 cases r with
 | cons r1 r2=>
  cases r2 with
  | cons r3 r4=>cases r4;exact ⟨_,_,rfl,r1,r3⟩
theorem Gv (hc:X.calm=true):CallR X (.builtin "max") (fun xs H Q=>∃ i j,xs=[.int i,.int j]/\Q (.int (if j>i then j else i)) H):=by
 intro a1Z s σ H xs us Q I r h
 obtain ⟨i,j,rfl,q⟩:=h
 obtain ⟨u,w',rfl,⟨t,rfl⟩,⟨t',rfl⟩⟩:=t4 r
 refine max_two_ints (I.ok.hd hc) fun h' tk k=>⟨_,H,I.kept k,?_,q⟩
 by_cases hj:j>i
 ·rw [if_pos hj,if_pos hj];exact ⟨_,rfl⟩
 ·rw [if_neg hj,if_neg hj];exact ⟨_,rfl⟩
theorem Gw (hc:X.calm=true):CallR X (.builtin "min") (fun xs H Q=>∃ i j,xs=[.int i,.int j]/\Q (.int (if j<i then j else i)) H):=by
 intro a1Z s σ H xs us Q I r h
 obtain ⟨i,j,rfl,q⟩:=h
 obtain ⟨u,w',rfl,⟨t,rfl⟩,⟨t',rfl⟩⟩:=t4 r
 refine min_two_ints (I.ok.hd hc) fun h' tk k=>⟨_,H,I.kept k,?_,q⟩
 by_cases hj:j<i
 ·rw [if_pos hj,if_pos hj];exact ⟨_,rfl⟩
 ·rw [if_neg hj,if_neg hj];exact ⟨_,rfl⟩
end
end L2
namespace L2
open PySem PySem.Spec PyProof.Rows
structure ObjM (h:SO)(x dx C:Addr)(mA:Str->Option Ru):Prop where
 obj:h.get? x=some (Vb C dx)
 ns:h.Ns1 dx mA
 ne:dx≠x
section
variable {prog:R8}{w:Sy}{A:Sn}{E:Ru->RC->Prop}{s:RC}{K:Rn}{x dx C f:Addr}{mA:Str->Option Ru}{name:Str}{v:Ru}
end
theorem RelO.some_of {v:V}{o:Option Ru}(r:RelO (some v) o):∃ u,o=some u/\RelV v u:=by
 cases o with
 | none=>exact (show False from r).elim
 | some u=>exact ⟨u,rfl,r⟩
section
variable {P:R8}{w:Sy}{H H':Hp}{h h':SO}{a C dx:Addr}{fs fs':List (Str×V)}
end
structure Cls (K:Rn)(C:Addr):Prop where
 pg:Zh K C Str.empty=true
 hd:PySem.W.hasDictIn K C=true
 po:PySem.W.plainOver K C=true
 sa:VS K (.ref C) "__setattr__" = some (some (.builtin "object.__setattr__"))
theorem Cls.get {K:Rn}{C:Addr}(c:Cls K C)(f:Str):Zh K C f=true:=c.pg
structure Con (K:Rn)(C:Addr)(f:Str)(v:V)(u:Ru):Prop where
 at_:VS K (.ref C) f=some (some u)
 rel:RelV v u
 get:Y4 K u "__get__" = some none
 cp:PySem.W.copiedNames.contains f=false
structure Meth (K:Rn)(C:Addr)(m:Str)(f:Addr):Prop where
 at_:VS K (.ref C) m=some (some (.ref f))
 fn:a0g K (.ref f)=true
 kp:TL K (.ref f)=true
section
variable {X:Cx}{a1Z:List (Addr×TK)}{σ:St}{H:Hp}{s:RC}{a C dx:Addr}{fs:List (Str×V)}{f:Str}{v:V}{A:Sn}{E:Ru->RC->Prop}
theorem Inv.made (I:Inv X a1Z σ H s):Inv X a1Z σ (aI (aI H s.heap.objs.size (.own (s.heap.objs.size+1))) (s.heap.objs.size+1) (.ins C s.heap.objs.size []))
  { s with heap:=(s.heap.push T3).push (Vb C s.heap.objs.size) }:=by
 have e1:(s.heap.push T3).get? s.heap.objs.size=some T3:=RK s.heap rfl
 have e2:((s.heap.push T3).push (Vb C s.heap.objs.size)).get? (s.heap.objs.size+1)=some (Vb C s.heap.objs.size):=by
  have:=RK (s.heap.push T3) (o:=Vb C s.heap.objs.size) rfl
  rwa [TU] at this
 have e3:(s.heap.push T3).Ns s.heap.objs.size (fun _=>none):=⟨T3,#[],_,e1,rfl,(fun e he=>absurd he (by simp)),fun _=>rfl⟩
 have I1:=I.laid (a:=s.heap.objs.size) (o:=.own (s.heap.objs.size+1)) (h':=s.heap.push T3) (t':=s.toks) (fun b u q=>Rt _ q) (RD _) ⟨_,e1⟩
 refine I1.laid (a:=s.heap.objs.size+1) (o:=.ins C s.heap.objs.size []) (t':=s.toks) (fun b u q=>Rt _ q) (Xs (TU _ _)) ?_
 have ne:s.heap.objs.size≠s.heap.objs.size+1:=RT (Wz _)
 refine ⟨by rw [bA ne,cG],SF _,ne,e2,fun _=>none,(Heap.Ns1.of_empty e3).at fun o q=>Rt _ q,fun _=>Uy,fun y hy=>absurd rfl hy⟩
end
section
variable {X:Cx}{o e value:RI}{f:Str}{pos pos' tpos:TC}{ta tv:TE}
end
section
variable {X:Cx}{a1Z:List (Addr×TK)}{σ:St}{H:Hp}{s:RC}{A:Sn}{E:Ru->RC->Prop}{Q:Ru->RC->Prop}{c:Ru}{b:Bool}
inductive TyOf (K:Rn)(H:Hp):V->Ru->Prop where
 | non:TyOf K H .non (.type "NoneType")
 | bl (x:Bool):TyOf K H (.bl x) (.type "bool")
 | int (i:Int):TyOf K H (.int i) (.type "int")
 | str (x:Str):TyOf K H (.str x) (.type "str")
 | flt (x:UInt64):TyOf K H (.flt x) (.type "float")
 | lst {a:Addr}{xs:List V}(e:H a=some (.lst xs)):TyOf K H (.ref a) (.type "list")
 | frz {a:Addr}{o:TK}{xs:List V}(e:H a=some (.frz o (.lst xs))):TyOf K H (.ref a) (.type "list")
 | tup {a:Addr}{xs:List V}(e:H a=some (.tup xs)):TyOf K H (.ref a) (.type "tuple")
 | dK {a:Addr}{kvs:List (a9×V)}(e:H a=some (.dK kvs)):TyOf K H (.ref a) (.type "dict")
 | dT {a:Addr}{kvs:List (List a9×V)}(e:H a=some (.dT kvs)):TyOf K H (.ref a) (.type "dict")
 | ins {a C dx:Addr}{fs:List (Str×V)}(e:H a=some (.ins C dx fs))(cl:Cls K C)(ha:VS K (.ref C) "__class__" = some (some (.builtin "object.__class__")))
   (hn:Y4 K (.builtin "object.__class__") "__get__" = some (some (.builtin "getset_descriptor.__get__"))) (htk:PySem.W.takesIn K (.builtin "object.__class__")=some true)
   (hm:PySem.W.mroIn K C (.type "object")=some true):TyOf K H (.ref a) (.ref C)
end
end L2
namespace L2
open PySem PySem.Spec PyProof.Rows
structure Room (k:Nat)(A:Sn):Prop where
 hd:A.handled=none
 dp:A.depth+3 * k+5<a1Q
 un:A.units+16 * k+200<TN
theorem Room.deeper {k:Nat}{A:Sn}(r:Room (k+1) A)(env:Xk):Room k (A.deeper env):=
 ⟨r.hd,by have:=r.dp;show A.depth+1+3 * k+5<_;omega,by have:=r.un;show A.units+3+16 * k+200<_;omega⟩
theorem Room.depth {k:Nat}{A:Sn}(r:Room k A):A.depth<a1Q:=by have:=r.dp;omega
theorem Room.units {k:Nat}{A:Sn}(r:Room k A):A.units+64<TN:=by have:=r.un;omega
noncomputable def Aa:TA:=fun _ H Q=>Q [] H
noncomputable def Gx (ta:TE)(tr:TA):TA:=fun σ H Q=>ta σ H fun x H1=>tr σ H1 fun xs H2=>Q (x::xs) H2
section
variable {X:Cx}{e:RI}{es:List RI}{te:TE}{t:TA}{pos:TC}
theorem Gy:PA X [] Aa:=fun _ _ _ _ H Q I h=>Wg ⟨[],H,I,.nil,h⟩
theorem Gz (ha:PE X e te)(hr:PA X es t)(hs:Sj (e::es) X.env=(false,eval e X.env)::Sj es X.env:=by rfl):PA X (e::es) (Gx te t):=by
 intro pos a1Z s σ H Q I h
 rw [hs]
 show RQ _ _ (spliced ((false,eval e X.env)::Uz pos (Sj es X.env))) _ _ s
 refine V2 (aQ (ha a1Z s σ H _ I h) fun u s1 ⟨x,H1,I1,r1,q1⟩=>?_)
 exact aQ (hr pos a1Z s1 σ H1 _ I1 q1) fun us s2 ⟨xs,H2,I2,r2,q2⟩=>⟨x::xs,H2,I2,.cons r1 r2,q2⟩
noncomputable def GA (t:TA):TE:=fun σ H Q=>t σ H fun xs H1=>xs.length<=RL/\∀ p,H1 p=none->Q (.ref p) (aI H1 p (.tup xs))
noncomputable def GB (t:TA):TE:=fun σ H Q=>t σ H fun xs H1=>xs.length<=RL/\∀ p,H1 p=none->Q (.ref p) (aI H1 p (.lst xs))
theorem GC {x1} (h:PA X es t):PE X (.Tuple es x1 pos) (GA t):=by
 intro a1Z s σ H Q I hq
 refine wpAny_Tuple_spliced (aQ (h pos a1Z s σ H _ I hq) fun us s1 ⟨xs,H1,I1,r,z,q⟩=>⟨by rw [<- r.length];exact z,?_⟩)
 have hf:H1 s1.heap.objs.size=none:=I1.hok.fresh (RD _)
 refine ⟨.ref s1.heap.objs.size,aI H1 s1.heap.objs.size (.tup xs),I1.laid (t':=s1.toks) (fun b u e=>Rt _ e) (RD _) ?_,rfl,q _ hf⟩
 exact ⟨z,us,r,⟨_,RK _ rfl,rfl,_,rfl,rfl⟩⟩
theorem GD (h:PA X es t):PE X (.List es pos) (GB t):=by
 intro a1Z s σ H Q I hq
 refine wpAny_List_spliced (aQ (h pos a1Z s σ H _ I hq) fun us s1 ⟨xs,H1,I1,r,z,q⟩=>⟨by rw [<- r.length];exact z,?_⟩)
 have hf:H1 s1.heap.objs.size=none:=I1.hok.fresh (RD _)
 refine ⟨.ref s1.heap.objs.size,aI H1 s1.heap.objs.size (.lst xs),I1.laid (t':=s1.toks) (fun b u e=>Rt _ e) (RD _) ?_,rfl,q _ hf⟩
 exact ⟨z,us,0,r,RK _ rfl⟩
end
noncomputable abbrev Sp:=List V->Hp->VK->XK->Prop
noncomputable abbrev iQ:=List Xk->Hp->RC->XK->Ru->RC->Prop
structure Env0 (P:R8)(w:Sy)(K:Rn)(mg:Str->Option Ru)(base:SO)(A:Sn)(outer:List Xk)(s:RC)(H:Hp):Prop where
 frames:A.frames=some outer
 mod:Mod K mg base
 bs:∀ b o,base.get? b=some o->s.heap.get? b=some o/\H b=none
 bsz:base.objs.size<=s.heap.objs.size
 funs:s.heap.FunFrames base outer
 frf:∀ b∈gR outer,H b=none
 hok:HOk P w H s.heap
 bare:Xm s.gens
noncomputable def CE (outer:List Xk)(P:R8)(w:Sy)(H:Hp)(s:RC)(Q:VK)(u:Ru)(s':RC):Prop:=
 ∃ v H',s'.os=s.os/\Xm s'.gens/\Un (gR outer) [] H H' s.heap s'.heap/\HOk P w H' s'.heap/\RelV v u/\Q v H'
noncomputable def CR (CX:iQ)(outer:List Xk)(P:R8)(w:Sy)(H:Hp)(s:RC)(Q:VK)(E:XK)(r:YX)(s':RC):Prop:=
 match r with
 | .ok (.ret u)=>CE outer P w H s Q u s'
 | .ok _=>False
 | .error e=>CX outer H s E e s'
structure FnOk (P:R8)(w:Sy)(K:Rn)(mg:Str->Option Ru)(base:SO)(CX:iQ)(k:Nat)(f:Addr)(fd:Uq)(ps:List Str)(sp:Sp):Prop where
 len:∀ vs H Q E,sp vs H Q E->vs.length=ps.length
 run:∀ (A:Sn)(outer:List Xk)(s:RC)(H:Hp)(args:Args)(us:List Ru)(vs:List V)(Q:VK)(E:XK),Room k A->Env0 P w K mg base A outer s H->X4 s fd args (ps.zip us)->Vals vs us->sp vs H Q E->
  VY (R0 P w) A (.call (.ref f) args) (CR CX outer P w H s Q E) s
section
variable {X:Cx}{a1Z:List (Addr×TK)}{σ:St}{H:Hp}{s s':RC}
theorem Inv.env0 (I:Inv X a1Z σ H s):Env0 X.prog X.w X.K X.mg X.base X.A X.stack s H:=
 ⟨I.ok.frames,I.ok.mod,I.bs,SQ I.ok.bsz I.sz,I.stack,I.stkFree,I.hok,I.bare⟩
theorem Inv.after {Q:VK}{u:Ru}(I:Inv X a1Z σ H s)(h:CE X.stack X.prog X.w H s Q u s'):EP X a1Z σ Q u s':=by
 obtain ⟨v,H',os,bare,un,hok,r,q⟩:=h
 obtain ⟨hh,g,d,t,os'⟩:=s'
 obtain rfl:os'=s.os:=os
 exact ⟨v,H',I.call (h':=hh) (g':=g) (d':=d) (t':=t) (ch:=[]) un hok bare (fun b z=>absurd z (by simp)),r,q⟩
end
noncomputable def t5 (sp:Sp)(dvs:List V)(E:XK)(t:TA):TE:=fun σ H Q=>t σ H fun vs H1=>sp (vs++dvs) H1 Q E
noncomputable def Binds (K:Rn)(fd:Uq)(ps:List Str)(ds:List Ru):Prop:=
 ∀ (s:RC)(us:List Ru),K.In s.heap->(us++ds).length=ps.length->X4 s fd ⟨us,[]⟩ (ps.zip (us++ds))
theorem Binds.all {K:Rn}{fd:Uq}{ps:List Str}(h:∀ us:List Ru,us.length=ps.length->YU fd ⟨us,[]⟩=pure (ps.zip us)):Binds K fd ps []:=fun s us _ hl=>by
 rw [US] at hl ⊢
 exact .of_eq (h us hl)
noncomputable def qK (CX:iQ)(X:Cx)(E:XK):Prop:=∀ (a1Z:List (Addr×TK))(σ:St)(H:Hp)(s:RC)(e:Ru)(s':RC),Inv X a1Z σ H s->CX X.stack H s E e s'->X.xe e s'
section
variable {X:Cx}{CX:iQ}{k:Nat}{f C:Addr}{fd:Uq}{ps:List Str}{sp:Sp}{dvs:List V}{ds:List Ru}{E:XK}{x m:Str}{p pos apos:TC}{e o:RI}{es:List RI}{ta:TE}{t:TA}
theorem Ab {a1Z:List (Addr×TK)}{σ:St}{H:Hp}{s:RC}{Q:VK}{us:List Ru}{vs:List V}(F:FnOk X.prog X.w X.K X.mg X.base CX k f fd ps sp)(hr:Room k X.A)(hb:Binds X.K fd ps ds)(hd:Vals dvs ds)(hx:qK CX X E)
  (I:Inv X a1Z σ H s)(r:Vals vs us)(h:sp (vs++dvs) H Q E):RQ (R0 X.prog X.w) X.A (call (.ref f) us) (EP X a1Z σ Q) X.xe s:=by
 have r2:Vals (vs++dvs) (us++ds):=r.append hd
 have hl:(us++ds).length=ps.length:=by rw [<- r2.length];exact F.len _ _ _ _ h
 refine wpAny_call (XU (F.run X.A X.stack s H ⟨us,[]⟩ (us++ds) (vs++dvs) Q E hr I.env0 (hb s us I.kIn hl) r2 h) fun r s' hq=>?_)
 cases r with
 | error e=>exact hx a1Z σ H s e s' I hq
 | ok fl=>
  cases fl with
  | ret u=>exact I.after hq
  | next=>exact T9 hq
  | brk=>exact T9 hq
  | cont=>exact T9 hq
theorem GF (F:FnOk X.prog X.w X.K X.mg X.base CX k f fd ps sp)(hr:Room k X.A)(hg:Gl X x)(hm:X.mg x=some (.ref f))(hk:TL X.K (.ref f)=true)(hb:Binds X.K fd ps ds)(hd:Vals dvs ds)(hx:qK CX X E)
  (ha:PA X (e::es) t)(hdb:(x == ("__debug__":Str))=false:=by decide) (he:Sj (e::es) X.env=(false,eval e X.env)::Sj es X.env:=by rfl)(hpl:(Uz pos (Sj es X.env)).any (·.1)=false:=by rfl) :
  PE X (.Call (.Name x p) (e::es) [] pos) (t5 sp dvs E t):=by
 intro a1Z s σ H Q I h
 refine T5 (tN I hg hm ?_ hdb)
 refine PySem.W.callWith_K (h₀:=X.base) I.ok.mod.kin hk (aQ (ha pos a1Z s σ H _ I h) fun us s1 ⟨vs,H1,I1,r,q⟩=>⟨I1.kIn,?_⟩) he hpl
 exact Ab F hr hb hd hx I1 r q
theorem GG (F:FnOk X.prog X.w X.K X.mg X.base CX k f fd ps sp)(hr:Room k X.A)(hg:Gl X x)(hm:X.mg x=some (.ref f))(hk:TL X.K (.ref f)=true)(hb:Binds X.K fd ps ds)(hd:Vals dvs ds)(hx:qK CX X E)
  (hdb:(x == ("__debug__":Str))=false:=by decide):PE X (.Call (.Name x p) [] [] pos) (t5 sp dvs E Aa):=by
 intro a1Z s σ H Q I h
 refine T5 (tN I hg hm ?_ hdb)
 exact PySem.W.callWith_K0 I.kIn hk (Ab (us:=[]) F hr hb hd hx I .nil h)
structure Mk (K:Rn)(C f:Addr):Prop where
 makes:PySem.W.makesIn K C=true
 init:VS K (.ref C) "__init__" = some (some (.ref f))
 fn:a0g K (.ref f)=true
 kp:TL K (.ref C)=true
end
section
variable {X:Cx}{CX:iQ}{k:Nat}{f C:Addr}{fd:Uq}{ps ks:List Str}{sp:Sp}{E:XK}{x m:Str}{p pos apos kpos:TC}{e o:RI}{es:List RI}{kws:List Vh}{te ta:TE}{t tk:TA}{nm:Option Str}
structure KBinds (K:Rn)(fd:Uq)(ps ks:List Str)(g:List Ru->List Ru->List Ru)(gV:List V->List V->List V):Prop where
 to:∀ (s:RC)(us ws:List Ru),K.In s.heap->(g us ws).length=ps.length->X4 s fd ⟨us,ks.zip ws⟩ (ps.zip (g us ws))
 rel:∀ {vs:List V}{us:List Ru}{zs:List V}{ws:List Ru},Vals vs us->Vals zs ws->Vals (gV vs zs) (g us ws)
variable {g:List Ru->List Ru->List Ru}{gV:List V->List V->List V}
end
structure FnScope (N P:List Str)(sc:UN):Prop where
 kind:sc.kind=.function
 co:sc.isCoroutine=false
 gen:sc.isGenerator=false
 nd:N.Nodup
 pre:N.take P.length=P
 par:∀ x∈P,sc.names.lookup x=some .local\/sc.names.lookup x=some .cell
 nofree:∀ y∈sc.names,y.2≠.free
theorem Ac {kindOf:Str->Option UC}{x:Str}:∀ {binds:List (Str×Ru)}{m:Str->Option Ru},(∀ v,(x,v)∉binds)->Zm kindOf binds m x=m x
 | [],_,_=>rfl
 | (n,v)::r,m,h=>by
  unfold Zm
  rw [Ac fun w hw=>h w (RP _ hw)]
  split
  ·have:x≠n:=by rintro rfl;exact h v RX
   simp [this]
  ·rfl
theorem Ad {kindOf:Str->Option UC}{x:Str}:∀ {binds:List (Str×Ru)}{m:Str->Option Ru},(∀ v,(x,v)∉binds)->Zn kindOf binds m x=m x
 | [],_,_=>rfl
 | (n,v)::r,m,h=>by
  unfold Zn
  rw [Ad fun w hw=>h w (RP _ hw)]
  split
  ·rfl
  ·have:x≠n:=by rintro rfl;exact h v RX
   simp [this]
theorem Ae {kindOf:Str->Option UC}{x:Str}{v:Ru}:∀ {P:List Str}{vs:List Ru}{i:Nat}{m:Str->Option Ru},P.Nodup->P[i]? = some x->vs[i]? = some v->kindOf x=some .local->
  Zm kindOf (P.zip vs) m x=some v
 | [],_,_,_,_,h,_,_=>by simp at h
 | _::_,[],_,_,_,_,h,_=>by simp at h
 | p::P,w::vs,0,m,nd,h1,h2,hk=>by
  simp at h1 h2;subst h1;subst h2
  show Zm kindOf ((p,w)::P.zip vs) m p=_
  unfold Zm
  rw [Ac fun v hv=>(Sv.mp nd).1 (XI hv).1,if_pos hk]
  simp
 | p::P,w::vs,i+1,m,nd,h1,h2,hk=>by
  show Zm kindOf ((p,w)::P.zip vs) m x=_
  unfold Zm
  exact Ae (i:=i) (Sv.mp nd).2 (by simpa using h1) (by simpa using h2) hk
theorem Af {kindOf:Str->Option UC}{x:Str}{v:Ru}:∀ {P:List Str}{vs:List Ru}{i:Nat}{m:Str->Option Ru},P.Nodup->P[i]? = some x->vs[i]? = some v->kindOf x≠some .local->
  Zn kindOf (P.zip vs) m x=some v
 | [],_,_,_,_,h,_,_=>by simp at h
 | _::_,[],_,_,_,_,h,_=>by simp at h
 | p::P,w::vs,0,m,nd,h1,h2,hk=>by
  simp at h1 h2;subst h1;subst h2
  show Zn kindOf ((p,w)::P.zip vs) m p=_
  unfold Zn
  rw [Ad fun v hv=>(Sv.mp nd).1 (XI hv).1,if_neg hk]
  simp
 | p::P,w::vs,i+1,m,nd,h1,h2,hk=>by
  show Zn kindOf ((p,w)::P.zip vs) m x=_
  unfold Zn
  exact Af (i:=i) (Sv.mp nd).2 (by simpa using h1) (by simpa using h2) hk
noncomputable def start (N:List Str)(vs:List V):St:=vs.map some++T4 (N.length - vs.length) none
noncomputable def jN (CX:iQ)(P:R8)(w:Sy)(K:Rn)(mg:Str->Option Ru)(base:SO)(N:List Str)(qual:Str)(scope:UN)(f:Addr)(cd:Ru)(A:Sn)(outer:List Xk)(s:RC)(H:Hp)(E:XK):Cx where
 prog:=P
 w:=w
 K:=K
 mg:=mg
 base:=base
 A:=A.deeper (envOfC qual scope s.heap.objs.size f cd)
 N:=N
 s₀:=s
 H₀:=H
 env:=envOfC qual scope s.heap.objs.size f cd
 outer:=outer
 stack:=envOfC qual scope s.heap.objs.size f cd::outer
 ex:=[]
 calm:=true
 fn:=fun _=>true
 pn:=[]
 xe:=fun e s'=>RQ (R0 P w) (A.deeper (envOfC qual scope s.heap.objs.size f cd)) (leaving (envOfC qual scope s.heap.objs.size f cd) e) (fun _ s''=>CX outer H s E e s'') (fun e' s''=>CX outer H s E e' s'') s'
theorem Ag {sc:UN}{n:Nat}{x:Str}(h:sc.names.lookup x=some .cell):∃ c,(a0V n sc.names []).lookup x=some c:=by
 have q:=Yj sc.names n [] (.inl h)
 exact Option.isSome_iff_exists.mp q
theorem GH {CX:iQ}{P:R8}{w:Sy}{K:Rn}{mg:Str->Option Ru}{base:SO}{N ps:List Str}{qual:Str}{scope:UN}{f:Addr}{cd:Ru}{A:Sn}{outer:List Xk}{s s1:RC}{H:Hp}{E:XK}{us:List Ru}{vs:List V}
  (S:FnScope N ps scope)(hd:A.handled=none)(e0:Env0 P w K mg base A outer s H)(hl:vs.length=ps.length)(r:Vals vs us)
  (x:InCallC s s.heap.objs.size (Zm (envOfC qual scope s.heap.objs.size f cd).kindOf (ps.zip us) fun _=>none) (a0V (s.heap.objs.size+1) scope.names []) (Zn (envOfC qual scope s.heap.objs.size f cd).kindOf (ps.zip us) fun _=>none) s1) :
  Inv (jN CX P w K mg base N qual scope f cd A outer s H E) [] (start N vs) H s1:=by
 have hpl:ps.length<=N.length:=by have:=congrArg Ss S.pre;rw [SJ] at this;omega
 obtain ⟨h1,tk,rfl,hk⟩:=x.done
 have noA:∀ b:Addr,b∉(jN CX P w K mg base N qual scope f cd A outer s H E).ex:=fun b z=>absurd (show b∈([]:List Addr) from z) (by simp)
 refine ⟨⟨e0.mod,S.kind,rfl,rfl,RD _,fun y z c h1 h2=>?_,fun y hy=>?_,fun y c _ h=>?_,fun _=>hd,Around.frames_deeper e0.frames,.inr ⟨rfl,rfl⟩,fun b z=>absurd z (noA b),e0.bs,e0.bsz,fun b _ _=>noA b,fun b z=>absurd z (noA b),e0.funs,e0.frf⟩,
  rfl,e0.bare,Un.kept hk,⟨_,x.toInCall.ns,fun i y v h1 h2 h3=>?_⟩,fun y c h=>⟨_,x.cell y c h⟩,e0.hok.fresh (RD _),fun y c h=>?_,fun p hp=>absurd (show p∈([]:List (Addr×TK)) from hp) (by simp),e0.hok.kept hk,?_⟩
 ·exact name_of_addr x.apart (S6 h1) (S6 h2)
 ·have hy:scope.names.lookup y=some .cell\/scope.names.lookup y=some .free:=hy
  rcases hy with hy|hy
  ·exact Ag hy
  ·exact absurd rfl (S.nofree _ (S6 hy))
 ·exact Va (x.above y c (S6 h))
 ·have hi:i<vs.length:=by
   unfold start at h2
   by_cases hi:i<vs.length
   ·exact hi
   ·rw [TR (by simpa using hi)] at h2
    rw [UE] at h2
    split at h2<;>cases h2
  have ha:vs[i]? = some v:=by
   unfold start at h2
   rw [Sw (by simpa using hi),RR] at h2
   cases e:vs[i]? with
   | none=>rw [e] at h2;cases h2
   | some a=>rw [e] at h2;cases h2;rfl
  obtain ⟨u,hu,rv⟩:=r.get ha
  have hp:ps[i]? = some y:=by
   rw [<- S.pre,Yw (by omega)];exact h1
  have ndP:ps.Nodup:=by rw [<- S.pre];exact S.nd.sublist (List.take_sublist _ _)
  refine ⟨u,rv,?_⟩
  rcases S.par y (Sf hp) with k|k
  ·exact .inl ⟨k,Ae ndP hp hu k⟩
  ·obtain ⟨c,e⟩:=Ag (n:=s.heap.objs.size+1) k
   refine .inr ⟨.inl k,c,e,?_⟩
   have q:=x.cell y c e
   rw [Af ndP hp hu (by show scope.names.lookup y≠_;rw [k];decide)] at q
   exact q
 ·exact e0.hok.fresh (Va (x.above y c (S6 h)))
 ·unfold start
  show _=N.length
  rw [RV,Ro,Uk]
  omega
theorem GJ {CX:iQ}{P:R8}{w:Sy}{K:Rn}{mg:Str->Option Ru}{base:SO}{k:Nat}{f:Addr}{name qual:Str}{params:Arguments}{body:List Stmt}{scope:UN}{dV kV doc pm cdv ct oc:Ru}{an od:Option Addr}
  {osl:Array (Option Ru)}{N ps:List Str}{sp:Sp}(lk:K.lookup f=some ⟨oc,od,.func (Um name qual params body scope dV kV doc pm an cdv ct),osl⟩)(hcd:WD K cdv qual=true)(S:FnScope N ps scope)
  (len:∀ vs H Q E,sp vs H Q E->vs.length=ps.length)
  (hbody:∀ (A:Sn)(outer:List Xk)(s:RC)(H:Hp)(vs:List V)(Q:VK)(E:XK),Room k (A.deeper (envOfC qual scope s.heap.objs.size f cdv))->sp vs H Q E->
   ∃ t,PSs (jN CX P w K mg base N qual scope f cdv A outer s H E) body t/\t { nx:=fun _ H'=>Q .non H',rt:=Q } (start N vs) H) :
  FnOk P w K mg base CX (k+1) f (Um name qual params body scope dV kV doc pm an cdv ct) ps sp:=by
 refine ⟨len,fun A outer s H args us vs Q E hr e0 hb r hsp=>?_⟩
 have hl:=len _ _ _ _ hsp
 have KX:K.In s.heap:=e0.mod.kin.keeps fun b o e=>(e0.bs b o e).1
 have lim:s.heap.NoLimit:=e0.mod.nolimit.keeps fun b o e=>(e0.bs b o e).1
 have hkind:∀ y∈ps.zip us,scope.names.lookup y.1=some .local\/(scope.names.lookup y.1=some .cell/\((a0V (s.heap.objs.size+1) scope.names []).lookup y.1).isSome=true):=fun ⟨n,v⟩ hy=>by
  rcases S.par n (XI hy).1 with q|q
  ·exact .inl q
  ·exact .inr ⟨q,Yj _ _ _ (.inl q)⟩
 refine codeAny_call_function hr.depth (KX _ _ lk) rfl S.co S.gen rfl (PySem.W.codeRec_of KX hcd) (hb _ _ _ _ ?_)
 refine wpAny_newFunctionEnv_cells S.kind hkind fun env he s1 x=>?_
 subst he
 refine ⟨lim.keeps x.toInCall.keep,codeAny_func ?_⟩
 obtain ⟨t,ht,hq⟩:=hbody A outer s H vs Q E (hr.deeper _) hsp
 have I:Inv (jN CX P w K mg base N qual scope f cdv A outer s H E) [] (start N vs) H s1:=GH S hr.hd e0 hl r x
 refine S5 (ht [] s1 (start N vs) H _ I hq) (fun fl s' hs=>?_) fun e s' hs=>hs
 have fin:∀ {σ':St}{H':Hp}{v:V}{u:Ru},Inv (jN CX P w K mg base N qual scope f cdv A outer s H E) [] σ' H' s'->RelV v u->Q v H'->CE outer P w H s Q u s':=
  fun {σ' H' v u} J rv q=>⟨v,H',J.os,J.bare,J.base,J.hok,rv,q⟩
 cases fl with
 | ret u=>
  obtain ⟨v,σ',H',J,rv,q⟩:=hs
  exact fin J rv q
 | next=>
  obtain ⟨σ',H',J,q⟩:=hs
  exact fin (v:=V.non) (u:=Sz) J rfl q
 | brk=>
  obtain ⟨_,_,_,q⟩:=hs
  exact T9 q
 | cont=>
  obtain ⟨_,_,_,q⟩:=hs
  exact T9 q
end L2
namespace L2
open PySem PySem.Spec PyProof.Rows
section
variable {X:Cx}{x:Str}{p pos:TC}{e:RI}{es:List RI}{t:TA}{id T:String}{r:List V->Hp->VK->Prop}
noncomputable def qL (r:List V->Hp->VK->Prop)(t:TA):TE:=fun σ H Q=>t σ H fun vs H1=>r vs H1 Q
theorem GK (hc:CallR X (.builtin id) r)(hg:Gl X x)(hm:X.mg x=none)(hv:Tz x=some (.builtin id))(ha:PA X (e::es) t)(hn:x ≠ "__name__":=by decide) (hdb:(x == ("__debug__":Str))=false:=by decide)
  (he:Sj (e::es) X.env=(false,eval e X.env)::Sj es X.env:=by rfl)(hpl:(Uz pos (Sj es X.env)).any (·.1)=false:=by rfl):PE X (.Call (.Name x p) (e::es) [] pos) (qL r t):=by
 intro a1Z s σ H Q I h
 refine T5 (iE I hg hm hv ?_ hn hdb)
 exact WQ (aQ (ha pos a1Z s σ H _ I h) fun us s1 ⟨vs,H1,I1,r1,q1⟩=>hc a1Z s1 σ H1 vs us Q I1 r1 q1) he hpl
theorem GL (hc:CallR X (.type T) r)(hg:Gl X x)(hm:X.mg x=none)(hv:Tz x=some (.type T))(ha:PA X (e::es) t)(hn:x ≠ "__name__":=by decide) (hdb:(x == ("__debug__":Str))=false:=by decide)
  (he:Sj (e::es) X.env=(false,eval e X.env)::Sj es X.env:=by rfl)(hpl:(Uz pos (Sj es X.env)).any (·.1)=false:=by rfl):PE X (.Call (.Name x p) (e::es) [] pos) (qL r t):=by
 intro a1Z s σ H Q I h
 refine T5 (iE I hg hm hv ?_ hn hdb)
 exact Tf (aQ (ha pos a1Z s σ H _ I h) fun us s1 ⟨vs,H1,I1,r1,q1⟩=>hc a1Z s1 σ H1 vs us Q I1 r1 q1) he hpl
end
end L2
namespace L2
open PySem PySem.Spec PyProof.Rows
section
variable {κ:Type} [DecidableEq κ]
noncomputable def d7 (kvs:List (κ×V))(k:κ):Option V:=(kvs.find? fun kv=>decide (kv.1=k)).map (·.2)
noncomputable def qM (kvs:List (κ×V))(k:κ)(v:V):List (κ×V):=
 if (kvs.any fun kv=>decide (kv.1=k))=true then kvs.map (fun kv=>if kv.1=k then (kv.1,v) else kv) else kvs++[(k,v)]
noncomputable def Ah (kvs:List (κ×V))(k:κ):List (κ×V):=kvs.filter fun kv=>decide (kv.1≠k)
theorem Ai {p:κ×V}{r:List (κ×V)}{k:κ}(e:p.1=k):d7 (p::r) k=some p.2:=by simp [d7,SK,e]
theorem Aj {p:κ×V}{r:List (κ×V)}{k:κ}(e:¬ p.1=k):d7 (p::r) k=d7 r k:=by simp [d7,SK,e]
theorem RelO.isSome_eq {o:Option V}{u:Option Ru}(r:RelO o u):o.isSome=u.isSome:=by
 cases o with
 | none=>cases u with
  | none=>rfl
  | some _=>exact (show False from r).elim
 | some _=>cases u with
  | none=>exact (show False from r).elim
  | some _=>rfl
theorem RelO.getD {o:Option V}{u:Option Ru}{d:V}{d':Ru}(r:RelO o u)(rd:RelV d d'):RelV (o.getD d) (u.getD d'):=by
 cases o with
 | none=>cases u with
  | none=>exact rd
  | some _=>exact (show False from r).elim
 | some _=>cases u with
  | none=>exact (show False from r).elim
  | some _=>exact r
theorem KV.val {kvs:List (κ×V)}{vs:List (κ×Ru)}(r:KV kvs vs)(k:κ):RelO (d7 kvs k) (YG vs k):=by
 unfold KV at r
 induction r with
 | nil=>exact Uy
 | @cons p q ps qs h t ih=>
  obtain ⟨h1,h2⟩:=h
  by_cases e:p.1=k
  ·have e':q.1=k:=h1.symm.trans e
   have b:YG (q::qs) k=some q.2:=by simp [YG,SK,e']
   rw [Ai e,b];exact h2
  ·have e':¬ q.1=k:=fun z=>e (h1.trans z)
   have b:YG (q::qs) k=YG qs k:=by simp [YG,SK,e']
   rw [Aj e,b];exact ih
theorem KV.any {kvs:List (κ×V)}{vs:List (κ×Ru)}(r:KV kvs vs)(k:κ):(kvs.any fun kv=>decide (kv.1=k))=vs.any fun kv=>decide (kv.1=k):=by
 unfold KV at r
 induction r with
 | nil=>rfl
 | cons h t ih=>rw [Wo,Wo,ih,h.1]
theorem KV.drop {kvs:List (κ×V)}{vs:List (κ×Ru)}(r:KV kvs vs)(k:κ):KV (Ah kvs k) (without vs k):=by
 unfold KV at r ⊢
 unfold Ah without
 induction r with
 | nil=>exact .nil
 | @cons p q ps qs h t ih=>
  obtain ⟨h1,h2⟩:=h
  rw [Ww,Ww]
  by_cases e:p.1=k
  ·have a:¬ decide (p.1≠k)=true:=by simp [e]
   have b:¬ decide (q.1≠k)=true:=by simp [h1.symm.trans e]
   rw [if_neg a,if_neg b];exact ih
  ·have e':¬ q.1=k:=fun z=>e (h1.trans z)
   have a:decide (p.1≠k)=true:=by simp [e]
   have b:decide (q.1≠k)=true:=by simp [e']
   rw [if_pos a,if_pos b];exact .cons ⟨h1,h2⟩ ih
theorem KV.keys {kvs:List (κ×V)}{vs:List (κ×Ru)}(r:KV kvs vs):kvs.map (·.1)=vs.map (·.1):=by
 unfold KV at r
 induction r with
 | nil=>rfl
 | cons h t ih=>rw [RM,RM,ih,h.1]
theorem KV.length {kvs:List (κ×V)}{vs:List (κ×Ru)}(r:KV kvs vs):kvs.length=vs.length:=Yb r
end
noncomputable abbrev KT (H:Hp):List (List a9×V)->List (List a9×Addr×Ru)->Prop:=VU fun p q=>p.1=q.1/\H q.2.1=some (.tup (p.1.map kV))/\RelV p.2 q.2.2
theorem KT.val {H:Hp}{kvs:List (List a9×V)}{xs:List (List a9×Addr×Ru)}(r:KT H kvs xs)(k:List a9):RelO (d7 kvs k) ((VJ xs k).map (·.2)):=by
 induction r with
 | nil=>exact Uy
 | @cons p q ps qs h t ih=>
  obtain ⟨h1,_,h2⟩:=h
  by_cases e:p.1=k
  ·have e':q.1=k:=h1.symm.trans e
   have b:VJ (q::qs) k=some q.2:=by simp [VJ,SK,e']
   rw [Ai e,b];exact h2
  ·have e':¬ q.1=k:=fun z=>e (h1.trans z)
   have b:VJ (q::qs) k=VJ qs k:=by simp [VJ,SK,e']
   rw [Aj e,b];exact ih
theorem KT.keeps {H H':Hp}{kvs:List (List a9×V)}{xs:List (List a9×Addr×Ru)}(r:KT H kvs xs)(ht:∀ b ys,H b=some (.tup ys)->H' b=some (.tup ys)):KT H' kvs xs:=
 VU.mapP r fun _ _ z=>⟨z.1,ht _ _ z.2.1,z.2.2⟩
section
variable {P:R8}{w:Sy}{H:Hp}{h:SO}{a:Addr}
end
noncomputable def DGet (H:Hp)(a:Addr)(y:V)(r:Option V):Prop:=
 (∃ kvs k,Rd H a (.dK kvs)/\y=kV k/\r=d7 kvs k)\/∃ kvs k b,Rd H a (.dT kvs)/\y=.ref b/\H b=some (.tup (k.map kV))/\r=d7 kvs k
noncomputable def DPut (H:Hp)(a:Addr)(y v:V)(H':Hp):Prop:=
 (∃ kvs k,H a=some (.dK kvs)/\y=kV k/\kvs.length<RL/\H'=aI H a (.dK (qM kvs k v))) \/
 ∃ kvs k b,H a=some (.dT kvs)/\y=.ref b/\H b=some (.tup (k.map kV))/\kvs.length<RL/\H'=aI H a (.dT (qM kvs k v))
theorem DGet.k {H:Hp}{a:Addr}{kvs:List (a9×V)}{k:a9}(e:H a=some (.dK kvs)):DGet H a (kV k) (d7 kvs k):=.inl ⟨kvs,k,.inl e,rfl,rfl⟩
theorem DGet.t {H:Hp}{a b:Addr}{kvs:List (List a9×V)}{k:List a9}(e:H a=some (.dT kvs))(eb:H b=some (.tup (k.map kV))):DGet H a (.ref b) (d7 kvs k):=.inr ⟨kvs,k,b,.inl e,rfl,eb,rfl⟩
theorem DPut.k {H:Hp}{a:Addr}{kvs:List (a9×V)}{k:a9}{v:V}(e:H a=some (.dK kvs))(hl:kvs.length<RL):DPut H a (kV k) v (aI H a (.dK (qM kvs k v))):=.inl ⟨kvs,k,e,rfl,hl,rfl⟩
theorem DPut.t {H:Hp}{a b:Addr}{kvs:List (List a9×V)}{k:List a9}{v:V}(e:H a=some (.dT kvs))(eb:H b=some (.tup (k.map kV)))(hl:kvs.length<RL) :
  DPut H a (.ref b) v (aI H a (.dT (qM kvs k v))):=.inr ⟨kvs,k,b,e,rfl,eb,hl,rfl⟩
section
variable {X:Cx}{a1Z:List (Addr×TK)}{σ:St}{H:Hp}{s:RC}{a:Addr}{y v:V}{u r:Ru}{o:Option V}{A:Sn}{E:Ru->RC->Prop}
theorem Inv.big (I:Inv X a1Z σ H s):SW<s.heap.objs.size:=by
 have h:TF<s.heap.objs.size:=(I.mod.glob.keeps I.bk).lt
 exact Vy (by decide) h
theorem t6 {h':SO}{t':Nat}{ob:HO}(I:Inv X a1Z σ H s)(mu:n4 (H a))(hs:T1 a s.heap h')(he:∃ q,h'.get? a=some q)(new:ObjOk X.prog X.w (aI H a ob) h' a ob) :
  Inv X a1Z σ (aI H a ob) { s with heap:=h',toks:=t' }:=
 I.write (x:=a) (e:=a) mu (.inl rfl) (fun b q hb z=>(hs.2 b hb).trans z) he new
end
section
variable {X:Cx}{a1Z:List (Addr×TK)}{σ:St}{H:Hp}{s:RC}{a:Addr}{kvs:List (a9×V)}{k:a9}{u:Ru}{A:Sn}{E:Ru->RC->Prop}
end
noncomputable def Ak (i:RI):Prop:=∀ ov iv,Yp i false ov iv=operate [ov,iv] (YH ov iv)
theorem GN {prog:R8}{w:Sy}{A:Sn}{E:Ru->RC->Prop}{s:RC}{env:Xk}{value slice:RI}{pos:TC}{T id:String}{Q:Ru->RC->Prop}
  (hl:YQ (.type T) "__getitem__" = pure (some (.builtin id))) (hs:Ak slice)
  (h:RQ (R0 prog w) A (eval value env) (fun o s₁=>RQ (R0 prog w) A (eval slice env) (fun i s₂=>s₂.TypeIs o T/\RQ (R0 prog w) A (YH o i) Q E s₂) E s₁) E s) :
  RQ (R0 prog w) A (eval (.Subscript value slice pos) env) Q E s:=by
 refine YW (S5 h (fun o s₁ h₁=>S5 h₁ (fun i s₂ h₂=>?_) fun _ _ x=>x) fun _ _ x=>x)
 obtain ⟨hT,h₂⟩:=h₂
 unfold Xx
 refine Rm ?_
 rw [getitemInPython_of_ne hT.not_modules]
 refine Rm (Vs hT hl ?_)
 have fin:RQ (R0 prog w) A (Yp slice false o i) (fun r s₃=>RQ (R0 prog w) A (letTemporaryGo value o r >>= fun _=>pure r) Q E s₃) E s₂:=by
  rw [hs o i]
  exact wpAny_operating (S5 h₂ (fun r s₃ h₃=>Rm (wpAny_letTemporaryGo (Ry h₃))) fun _ _ x=>x)
 first
  | exact Ry (Rm fin)
  | exact Rm (Ry (Rm fin))
  | exact Rm fin
section
variable {X:Cx}{o i e value:RI}{pos pos' tpos:TC}{td ty tv:TE}
end
section
variable {X:Cx}{pos:TC}
end
noncomputable def Al:List (TE×TE)->St->Hp->(List (V×V)->Hp->Prop)->Prop
 | [],_,H,Q=>Q [] H
 | (tk,tv)::r,σ,H,Q=>tk σ H fun x H1=>tv σ H1 fun y H2=>Al r σ H2 fun ps H3=>Q ((x,y)::ps) H3
noncomputable abbrev VV:List (V×V)->List (Ru×Ru)->Prop:=VU fun p q=>RelV p.1 q.1/\RelV p.2 q.2
noncomputable def GO (X:Cx)(pos:TC)(keys:List (Option RI))(values:List RI)(trs:List (TE×TE)):Prop:=
 ∀ (a1Z:List (Addr×TK))(s:RC)(σ:St)(H:Hp)(Q:List (V×V)->Hp->Prop),Inv X a1Z σ H s->Al trs σ H Q->
  RQ (R0 X.prog X.w) X.A (evalPairs (pairTrees keys values X.env pos)) (fun vs s'=>∃ ps H',Inv X a1Z σ H' s'/\VV ps vs/\Q ps H') X.xe s
structure M1 (X:Cx)(o:RI)(m:Str)(apos:TC)(e:RI)(cpos:TC):Prop where
 base:UH o m X.env (eval o X.env)=eval o X.env
 few:((Uz cpos (Sj [e] X.env)).all (fun x=>!x.1)&&(YV cpos (Xf [] X.env)).all (fun x=>x.1.isSome)
  && decide (([e]:List RI).length+([]:List Vh).length+(if ([]:List Vh).isEmpty then 0 else 1)<30))=true
 line:(apos.endLine == cpos.line)=true
 trees:Uz cpos (Sj [e] X.env)=[(false,eval e X.env)]
structure M2 (X:Cx)(o:RI)(m:Str)(apos:TC)(e f:RI)(cpos:TC):Prop where
 base:UH o m X.env (eval o X.env)=eval o X.env
 few:((Uz cpos (Sj [e,f] X.env)).all (fun x=>!x.1)&&(YV cpos (Xf [] X.env)).all (fun x=>x.1.isSome)
  && decide (([e,f]:List RI).length+([]:List Vh).length+(if ([]:List Vh).isEmpty then 0 else 1)<30))=true
 line:(apos.endLine == cpos.line)=true
 trees:Uz cpos (Sj [e,f] X.env)=[(false,eval e X.env),(false,eval f X.env)]
noncomputable def IsD (H:Hp)(a:Addr):Prop:=(∃ kvs,Rd H a (.dK kvs))\/∃ kvs,Rd H a (.dT kvs)
section
variable {X:Cx}{a1Z:List (Addr×TK)}{σ:St}{H:Hp}{s:RC}{a:Addr}{y d:V}{u r:Ru}{o:Option V}{A:Sn}{E:Ru->RC->Prop}
end
section
variable {X:Cx}{o e f:RI}{apos cpos:TC}{td ty tx:TE}
end
section
variable {X:Cx}{a1Z:List (Addr×TK)}{σ:St}{H:Hp}{s:RC}{a:Addr}{kvs:List (a9×V)}{A:Sn}{E:Ru->RC->Prop}
end
section
variable {X:Cx}{a1Z:List (Addr×TK)}{σ:St}{H:Hp}{s:RC}{a:Addr}{y:V}{u:Ru}{A:Sn}{E:Ru->RC->Prop}
end
end L2
namespace HT
open PySem PyProof.Rows
noncomputable def lexLt:List Int->List Int->Bool
 | [],[]=>false
 | [],_::_=>true
 | _::_,[]=>false
 | x::xs,y::ys=>if x=y then lexLt xs ys else decide (x<y)
theorem lexLt_cons (x y:Int)(xs ys:List Int):lexLt (x::xs) (y::ys)=if x=y then lexLt xs ys else decide (x<y):=rfl
theorem GP:lexLt [] []=false:=rfl
theorem GQ (y:Int)(ys:List Int):lexLt [] (y::ys)=true:=rfl
theorem GR (x:Int)(xs:List Int):lexLt (x::xs) []=false:=rfl
theorem GS (A:Sn)(s:RC)(a:Int)(t:a1U)(c:Int)(u:a1U):∃ e,XX A s (.int a t) (.int c u) e/\(e=true↔a=c):=
 ⟨(a == c),Ys a t c u,by simp⟩
theorem GU (A:Sn)(s:RC)(a:Int)(t:a1U)(c:Int)(u:a1U)(prog:R8)(w:Sy)(E:Ru->RC->Prop)(Q:Ru->RC->Prop)(h:Q (.bool (decide (a<c))) s) :
  RQ (R0 prog w) A (richCompare .Lt (.int a t) (.int c u)) Q E s:=
 (X1 h:RQ (R0 prog w) A (S4 .Lt (.int a t) (.int c u)) Q E s)
section
open PySem.SeqAt
open PySem.AutoSeq1 (wpAny_loadPart')
open PySem.MeetsSeq PySem.MeetsSeq2 PySem.MeetsSeq3
theorem GV (l b:Addr)(items items2:Array Ru)(n n2:Nat)(dd dd2:Option Addr)(sl sl2:Array (Option Ru))(ns ms:List Int)(hi:UJ items.toList ns)(hj:UJ items2.toList ms) :
  Meets (Builtin.«tuple.__lt__» ⟨[.ref l,.ref b],[]⟩)
   (fun _ R s=>s.heap.get? l=some { cls:=.type "tuple",dict:=dd,data:=.seq items n,slots:=sl }/\s.heap.get? b=some { cls:=.type "tuple",dict:=dd2,data:=.seq items2 n2,slots:=sl2 } /\
    R (.ok (.ret (.bool (lexLt ns ms)))) s):=
 .of_wp fun prog w A R s h=>by
  obtain ⟨hp,g,d,tk,os⟩:=s;obtain ⟨hl,hb,h⟩:=h
  have f2:=AutoSeq1.sub_tuple_tuple
  have z1:items.size=ns.length:=by rw [<- hi.length];simp
  have z2:items2.size=ms.length:=by rw [<- hj.length];simp
  wp_walk using a1j hl,a1j hb,Ye _ (fun bN b s'=>b.1=none/\s'=⟨hp,g,d,tk,os⟩/\∃ (vs ws:List Ru)(ns' ms':List Int),bN=vs.zip ws /\
   UJ vs ns'/\UJ ws ms'/\ns'.length+items2.size=ms'.length+items.size/\R (.ok (.ret (.bool (lexLt ns' ms')))) ⟨hp,g,d,tk,os⟩) _
  case turn=>
   rintro ⟨y,x⟩ bN b s' ⟨hb',rfl,vs,ws,ns',ms',hz,hvi,hwi,hlen,hR⟩
   cases hvi with
   | nil=>rw [List.zip_nil_left] at hz;cases hz
   | cons a t hvi'=>
    cases hwi with
    | nil=>rw [List.zip_nil_right] at hz;cases hz
    | cons c u hwi'=>
     rw [Zq] at hz
     injection hz with hyx hrest
     injection hyx with hy hx
     subst hy hx
     rw [lexLt_cons] at hR
     simp only [SD] at hlen
     obtain ⟨e,he,hiff⟩:=GS A.in1 ⟨hp,g,d,tk,os⟩ a t c u
     refine Rm (he prog w _ _ ?_)
     cases e with
     | true=>
      rw [if_pos (hiff.mp rfl)] at hR
      wp_walk
      exact ⟨rfl,rfl,_,_,_,_,hrest,hvi',hwi',by omega,hR⟩
     | false=>
      rw [if_neg (fun q=>absurd (hiff.mpr q) RO)] at hR
      have hri:=GU A.in1 ⟨hp,g,d,tk,os⟩ a t c u prog w
      wp_walk using hri
      exact ⟨_,rfl,by simpa using hR⟩
  case fin=>
   rintro ⟨b1,b2⟩ s' ⟨hb',rfl,vs,ws,ns',ms',hz,hvi,hwi,hlen,hR⟩
   simp only at hb'
   subst hb'
   have hv:lexLt ns' ms'=decide (items.size<items2.size):=by
    cases hvi with
    | nil=>
     cases hwi with
     | nil=>
      simp only [WG] at hlen
      rw [GP]
      exact (decide_eq_false (by omega)).symm
     | cons c u hw=>
      simp only [WG,SD] at hlen
      rw [GQ]
      exact (decide_eq_true (by omega)).symm
    | cons a t hv=>
     cases hwi with
     | nil=>
      simp only [WG,SD] at hlen
      rw [GR]
      exact (decide_eq_false (by omega)).symm
     | cons c u hw=>
      rw [Zq] at hz
      cases hz
   rw [hv] at hR
   wp_walk
   exact ⟨_,rfl,by simpa [a1h] using hR⟩
  case h=>
   exact ⟨rfl,rfl,items.toList,items2.toList,ns,ms,rfl,hi,hj,by omega,h⟩
end
section
variable {prog:R8}{w:Sy}{A:Sn}{E:Ru->RC->Prop}{s:RC}
theorem lt_tupInts {l b:Addr}{items items2:Array Ru}{ns ms:List Int}{Q:Ru->RC->Prop}(hl:Zt s.heap l items)(hb:Zt s.heap b items2)(hi:UJ items.toList ns)(hj:UJ items2.toList ms)
  (hu:A.units<TN)(h:Q (.bool (lexLt ns ms)) s):RQ (R0 prog w) A (S4 .Lt (.ref l) (.ref b)) Q E s:=by
 obtain ⟨⟨cls,dd,data,sl⟩,ho,hc,n,hd⟩:=id hl
 obtain ⟨⟨cls2,dd2,data2,sl2⟩,ho2,hc2,n2,hd2⟩:=id hb
 simp only at hc hd hc2 hd2
 subst hc hd hc2 hd2
 exact richCompare_meets_room (op:=.Lt) ⟨_,ho,rfl⟩ ⟨_,ho2,rfl⟩ PySem.F.slot_tuple_lt PySem.F.entry_tuple_lt (PySem.F.args_tuple_lt_2 _ _) (GV l b items items2 n n2 dd dd2 sl sl2 ns ms hi hj)
  ⟨ho,ho2,show VD (lexLt ns ms)≠Value.notImplemented/\Q (.bool (lexLt ns ms)) s from ⟨(fun x=>nomatch x),h⟩⟩ hu
theorem cat_tup {t b:Addr}{vs ws:List Ru}{Q:Ru->RC->Prop}(ht:Zt s.heap t vs.toArray)(hb:Zt s.heap b ws.toArray)(hv:vs≠[])
  (h1:ws=[]->Q (.ref t) s)(h2:ws≠[]->Q (.ref s.heap.objs.size) { s with heap:=s.heap.push { cls:=.type "tuple",data:=.seq (vs++ws).toArray } })
  (hsz:vs.length+ws.length<=RL):RQ (R0 prog w) A (UL .Add (.ref t) (.ref b)) Q E s:=by
 obtain ⟨⟨cls,dd,data,sl⟩,ho,hc,n,hd⟩:=id ht
 obtain ⟨⟨cls2,dd2,data2,sl2⟩,ho2,hc2,n2,hd2⟩:=id hb
 simp only at hc hd hc2 hd2
 subst hc hd hc2 hd2
 have e:vs.toArray++ws.toArray=(vs++ws).toArray:=by simp
 by_cases hw:ws=[]
 ·exact concat_meets ⟨_,ho,rfl⟩ ⟨_,ho2,rfl⟩ a0T seq_tuple_add Yk X9 (X0 _ _)
   (tuple_addW1 t b vs.toArray ws.toArray n n2 dd dd2 sl sl2 (by simpa using hv) (by simp [hw])) ⟨ho,ho2,h1 hw⟩
 ·refine concat_meets ⟨_,ho,rfl⟩ ⟨_,ho2,rfl⟩ a0T seq_tuple_add Yk X9 (X0 _ _)
   (tuple_addW2 t b vs.toArray ws.toArray n n2 dd dd2 sl sl2 (by simpa using hv) (by simpa using hw) (by rw [RS,RS];exact hsz)) ⟨ho,ho2,?_⟩
  rw [e]
  exact h2 hw
noncomputable def sIx (n d:Nat):Option Int->Nat
 | none=>d
 | some v=>if v<0 then (v+(n:Int)).toNat else min v.toNat n
end
end HT
namespace L2
open PySem PySem.Spec PyProof.Rows
noncomputable abbrev TO:=St->Hp->(Option Int->Hp->Prop)->Prop
noncomputable def PO (X:Cx)(e:Option RI)(t:TO):Prop:=
 ∀ (a1Z:List (Addr×TK))(s:RC)(σ:St)(H:Hp)(Q:Option Int->Hp->Prop),Inv X a1Z σ H s->t σ H Q->
  RQ (R0 X.prog X.w) X.A (evalPart e X.env) (fun u s'=>∃ o H',Inv X a1Z σ H' s'/\IsPart u o/\Q o H') X.xe s
noncomputable def GW:TO:=fun _ H Q=>Q none H
noncomputable def GX (t:TE):TO:=fun σ H Q=>t σ H fun x H1=>∃ i,x=.int i/\Q (some i) H1
theorem t7 {ns:List Int}:∀ {us:List Ru},Vals (ns.map V.int) us->UJ us ns:=by
 induction ns with
 | nil=>intro us r;rw [U7] at r;cases r;exact .nil
 | cons n ns ih=>
  intro us r
  rw [RM] at r
  cases r with
  | cons r1 r2=>
   obtain ⟨t,e⟩:=r1
   subst e
   exact .cons n t (ih r2)
section
variable {X:Cx}{e:RI}{te:TE}{lo hi:Option RI}{tl th:TO}{pos p2:TC}
theorem GY:PO X none GW:=by
 intro a1Z s σ H Q I h
 rw [evalPart_none]
 exact Ry ⟨none,H,I,.none,h⟩
theorem G0 (h:PE X e te):PO X (some e) (GX te):=by
 intro a1Z s σ H Q I hw
 rw [evalPart_some]
 refine aQ (h a1Z s σ H _ I hw) fun u s1 ⟨x,H1,I1,r1,q1⟩=>?_
 obtain ⟨i,rfl,q⟩:=q1
 obtain ⟨t,rfl⟩:=r1
 exact ⟨some i,H1,I1,.int i t,q⟩
noncomputable def SlR (X:Cx)(r:V->Option Int->Option Int->Hp->VK->Prop):Prop:=
 ∀ (a1Z:List (Addr×TK))(s:RC)(σ:St)(H:Hp)(x:V)(v vl vu:Ru)(lo hi:Option Int)(sl:Addr)(Q:VK),Inv X a1Z σ H s->RelV x v->s.heap.IsSliceOf sl vl vu .none->IsPart vl lo->IsPart vu hi->r x lo hi H Q->
  ∃ T id,YQ (.type T) "__getitem__" = pure (some (.builtin id))/\s.TypeIs v T/\RQ (R0 X.prog X.w) X.A (YH v (.ref sl)) (EP X a1Z σ Q) X.xe s
theorem SlR.or {r r':V->Option Int->Option Int->Hp->VK->Prop}(h:SlR X r)(h':SlR X r'):SlR X (fun x lo hi H Q=>r x lo hi H Q\/r' x lo hi H Q):=by
 intro a1Z s σ H x v vl vu lo hi sl Q I rx hs pl pu q
 rcases q with q|q
 ·exact h a1Z s σ H x v vl vu lo hi sl Q I rx hs pl pu q
 ·exact h' a1Z s σ H x v vl vu lo hi sl Q I rx hs pl pu q
noncomputable def G2 (r:V->Option Int->Option Int->Hp->VK->Prop)(te:TE)(tl th:TO):TE:=fun σ H Q=>te σ H fun x H1=>tl σ H1 fun l H2=>th σ H2 fun u H3=>r x l u H3 Q
theorem G4 {r:V->Option Int->Option Int->Hp->VK->Prop}(hr:SlR X r)(he:PE X e te)(hl:PO X lo tl)(hu:PO X hi th):PE X (.Subscript e (.Slice lo hi none p2) pos) (G2 r te tl th):=by
 intro a1Z s σ H Q I h
 refine YW (aQ (he a1Z s σ H _ I h) fun v s1 ⟨x,H1,I1,r1,q1⟩=>?_)
 refine wpAny_Slice (aQ (hl a1Z s1 σ H1 _ I1 q1) fun vl s2 ⟨l,H2,I2,pl,q2⟩=>aQ (hu a1Z s2 σ H2 _ I2 q2) fun vu s3 ⟨u,H3,I3,pu,q3⟩=>?_)
 rw [evalPart_none]
 refine Ry ?_
 have I4:Inv X a1Z σ H3 { s3 with heap:=s3.heap.push { cls:=.type "slice",data:=.fields #[vl,vu,.none] } }:=I3.kept (t':=s3.toks) fun b ob q=>Rt _ q
 obtain ⟨T,id,hT,ht,hg⟩:=hr a1Z { s3 with heap:=s3.heap.push { cls:=.type "slice",data:=.fields #[vl,vu,.none] } } σ H3 x v vl vu l u s3.heap.objs.size Q I4 r1 (XJ ..) pl pu q3
 show RQ (R0 X.prog X.w) X.A (Xx e (.Slice lo hi none p2) v (.ref s3.heap.objs.size)) (EP X a1Z σ Q) X.xe { s3 with heap:=s3.heap.push { cls:=.type "slice",data:=.fields #[vl,vu,.none] } }
 exact a1O (ops:=[.ref s3.heap.objs.size,v]) ht hT hg (by with_unfolding_all rfl)
noncomputable def kB (xs:List V)(lo hi:Option Int):List V:=(xs.drop (HT.sIx xs.length 0 lo)).take (HT.sIx xs.length xs.length hi - HT.sIx xs.length 0 lo)
theorem G5 (xs:List V)(lo hi:Option Int):(kB xs lo hi).length<=xs.length:=by
 unfold kB
 rw [SJ,Z4]
 omega
noncomputable def Am (K:Rn):R2:=fun x y H Q=>∃ a b xs ys,x=.ref a/\y=.ref b/\SqT K H a xs/\SqT K H b ys/\xs≠[]/\xs.length+ys.length<=RL /\
 (ys=[]->Q (.ref a) H)/\(ys≠[]->∀ p,H p=none->Q (.ref p) (aI H p (.tup (xs++ys))))
theorem Vals.nil_iff {xs:List V}{us:List Ru}(r:Vals xs us):us=[]↔xs=[]:=by
 cases r with
 | nil=>simp
 | cons _ _=>simp
theorem G6:OpR X (UL .Add) (Am X.K):=by
 intro a1Z s σ H x y v u Q I rx ry h
 obtain ⟨a,b,xs,ys,rfl,rfl,ha,hb,hx,hz,q1,q2⟩:=h
 cases rx
 cases ry
 obtain ⟨its,r1,p1,_⟩:=I.tuple ha
 obtain ⟨its2,r2,p2,_⟩:=I.tuple hb
 refine HT.cat_tup p1 p2 (fun z=>hx (r1.nil_iff.mp z)) (fun z=>⟨.ref a,H,I,rfl,q1 (r2.nil_iff.mp z)⟩) (fun z=>?_) (by rw [<- r1.length,<- r2.length];exact hz)
 refine ⟨.ref s.heap.objs.size,_,I.laid (t':=s.toks) (o:=.tup (xs++ys)) (fun b ob q=>Rt _ q) (RD _) ?_,rfl,q2 (fun w=>z (r2.nil_iff.mpr w)) _ (I.hok.fresh (RD _))⟩
 exact ⟨by rw [RV];exact hz,_,r1.append r2,TupN.new _ _⟩
end
end L2
namespace L2
open PySem PySem.Spec PyProof.Rows
noncomputable def fV (n:Nat)(i:Int):Option Nat:=if 0<=i then (if i<n then some i.toNat else none) else if -(n:Int)<=i then some (i+n).toNat else none
noncomputable def atI {α:Type}(xs:List α)(i:Int):Option α:=(fV xs.length i).bind fun j=>xs[j]?
theorem An {n:Nat}{i:Int}{j:Nat}(h:fV n i=some j):seqIndex? i n=some j/\j<n/\-(n:Int)<=i/\i<n:=by
 unfold fV at h
 by_cases h0:0<=i
 ·rw [if_pos h0] at h
  by_cases h1:i<n
  ·rw [if_pos h1] at h
   have e:i.toNat=j:=RY h
   exact ⟨by rw [a0b h0 h1,e],by omega,by omega,h1⟩
  ·rw [if_neg h1] at h;cases h
 ·rw [if_neg h0] at h
  by_cases h1:-(n:Int)<=i
  ·rw [if_pos h1] at h
   have e:(i+n).toNat=j:=RY h
   exact ⟨by rw [Zz (by omega) h1,e],by omega,h1,by omega⟩
  ·rw [if_neg h1] at h;cases h
theorem t8 {α:Type}{xs:List α}{i:Int}{v:α}(h:atI xs i=some v):∃ j,seqIndex? i xs.length=some j/\xs[j]? = some v/\j<xs.length/\-(xs.length:Int)<=i/\i<xs.length:=by
 unfold atI at h
 cases e:fV xs.length i with
 | none=>rw [e] at h;cases h
 | some j=>
  rw [e] at h
  obtain ⟨h1,h2,h3,h4⟩:=An e
  exact ⟨j,h1,h,h2,h3,h4⟩
noncomputable def t9 (b:RI):Prop:=∀ o i,Yp b false o i=operate [o,i] (YH o i)
noncomputable def IxR (X:Cx)(r:R2):Prop:=
 ∀ (value slice:RI)(a1Z:List (Addr×TK))(s:RC)(σ:St)(H:Hp)(x y:V)(v u:Ru)(Q:VK),Inv X a1Z σ H s->RelV x v->RelV y u->r x y H Q->
  Yp slice false v u=operate [v,u] (YH v u)->RQ (R0 X.prog X.w) X.A (Xx value slice v u) (EP X a1Z σ Q) X.xe s
noncomputable def MtR (X:Cx)(id:String)(r:V->List V->Hp->VK->Prop):Prop:=
 ∀ (a1Z:List (Addr×TK))(s:RC)(σ:St)(H:Hp)(x:V)(xs:List V)(v:Ru)(us:List Ru)(Q:VK),Inv X a1Z σ H s->RelV x v->Vals xs us->r x xs H Q->
  RQ (R0 X.prog X.w) X.A (call (.builtin id) (v::us)) (EP X a1Z σ Q) X.xe s
section
variable {X:Cx}{a b:RI}{ta tb:TE}{pos:TC}
theorem IxR.or {r r':R2}(h:IxR X r)(h':IxR X r'):IxR X (fun x y H Q=>r x y H Q\/r' x y H Q):=by
 intro value slice a1Z s σ H x y v u Q I rx ry q hs
 rcases q with q|q
 ·exact h value slice a1Z s σ H x y v u Q I rx ry q hs
 ·exact h' value slice a1Z s σ H x y v u Q I rx ry q hs
theorem MtR.or {id:String}{r r':V->List V->Hp->VK->Prop}(h:MtR X id r)(h':MtR X id r'):MtR X id (fun x xs H Q=>r x xs H Q\/r' x xs H Q):=by
 intro a1Z s σ H x xs v us Q I rx rs q
 rcases q with q|q
 ·exact h a1Z s σ H x xs v us Q I rx rs q
 ·exact h' a1Z s σ H x xs v us Q I rx rs q
theorem G7 {r:R2}(hr:IxR X r)(ha:PE X a ta)(hb:PE X b tb)(hs:t9 b):PE X (.Subscript a b pos) (oE r ta tb):=by
 intro a1Z s σ H Q I h
 exact YW (tT ha hb I h fun v u s2 x y H2 I2 rx ry q=>hr a b a1Z s2 σ H2 x y v u Q I2 rx ry q (hs _ _))
noncomputable def Ao (K:Rn):R2:=fun x y H Q=>∃ p xs i v,x=.ref p/\y=.int i/\SqL K H p xs/\atI xs i=some v/\Q v H
noncomputable def Ap (K:Rn):R2:=fun x y H Q=>∃ p xs i v,x=.ref p/\y=.int i/\SqT K H p xs/\atI xs i=some v/\Q v H
noncomputable def Aq:R2:=fun x y H Q=>∃ z i c,x=.str z/\y=.int i/\z.length<=RL/\atI z.cps.toList i=some c/\Q (.str ⟨#[c]⟩) H
theorem ix_list:IxR X (Ao X.K):=by
 intro value slice a1Z s σ H x y v u Q I rx ry h hs
 obtain ⟨p,xs,i,z,rfl,rfl,hq,he,q⟩:=h
 cases rx
 obtain ⟨t,rfl⟩:=ry
 obtain ⟨its,r,pl,hz⟩:=I.list hq
 obtain ⟨j,h1,h2,h3,h4,h5⟩:=t8 he
 obtain ⟨w,ew,rw'⟩:=r.get h2
 have hl:=r.length
 have hn:=lA
 have fin:EP X a1Z σ Q w s:=⟨z,H,I,rw',q⟩
 by_cases h0:0<=i
 ·have hj:i.toNat=j:=by
   rw [a0b h0 h5] at h1
   exact RY h1
  exact item_listR pl.isList h0 (by omega) (by rw [hj];simpa using ew) fin hs
 ·have hj:(i+(its.toArray.size:Int)).toNat=j:=by
   rw [Zz (by omega) h4] at h1
   rw [RS,<- hl]
   exact RY h1
  exact Zy (x:=w) pl.isList.typeIs XQ.lookup
   (wpAny_getItem_list_neg (Q:=fun r s'=>r=w/\EP X a1Z σ Q r s') pl.isList (by omega) (by rw [RS]<;>omega) (by omega) (by rw [hj];simpa using ew) ⟨rfl,fin⟩) hs
theorem ix_tup:IxR X (Ap X.K):=by
 intro value slice a1Z s σ H x y v u Q I rx ry h hs
 obtain ⟨p,xs,i,z,rfl,rfl,hq,he,q⟩:=h
 cases rx
 obtain ⟨t,rfl⟩:=ry
 obtain ⟨its,r,pl,hz⟩:=I.tuple hq
 obtain ⟨j,h1,h2,h3,h4,h5⟩:=t8 he
 obtain ⟨w,ew,rw'⟩:=r.get h2
 have hl:=r.length
 have hn:=lA
 have fin:EP X a1Z σ Q w s:=⟨z,H,I,rw',q⟩
 exact Zy (x:=w) pl.typeIs slot_tuple_getitem.lookup
  (getItem_tuple (j:=j) (Q:=fun r s'=>r=w/\EP X a1Z σ Q r s') pl (by omega) (by omega) (by rw [RS,<- hl];exact h1) (by simpa using ew) ⟨rfl,fin⟩) hs
theorem G8:IxR X Aq:=by
 intro value slice a1Z s σ H x y v u Q I rx ry h hs
 obtain ⟨z,i,c,rfl,rfl,hz,he,q⟩:=h
 obtain ⟨t,rfl⟩:=rx
 obtain ⟨t',rfl⟩:=ry
 obtain ⟨j,h1,h2,h3,h4,h5⟩:=t8 he
 have hl:z.cps.toList.length=z.length:=by simp [Str.length]
 rw [hl] at h1 h4 h5
 have hn:=lA
 exact a1O (typeIs_str s z t) slot_str_getitem.lookup (getItem_str (c:=c) (by
  have e1:decide (i < -(2 ^ 63:Int))=false:=decide_eq_false (by omega)
  have e2:decide (i >= 2 ^ 63)=false:=decide_eq_false (by omega)
  rw [e1,e2,Xa]) (by rw [h1];simpa using h2) ⟨.str ⟨#[c]⟩,H,I.tok _,⟨_,rfl⟩,q⟩) hs
noncomputable def Ar (K:Rn):R2:=fun x y H Q=>Ao K x y H Q\/Ap K x y H Q\/Aq x y H Q
theorem G9:IxR X (Ar X.K):=ix_list.or (ix_tup.or G8)
theorem Ha (its:List Ru)(n j:Nat)(u:Ru):Ta (·.setIfInBounds j u) { cls:=.type "list",data:=.seq its.toArray n } = { cls:=.type "list",data:=.seq (its.set j u).toArray n }:=by
 simp [Ta]
theorem Inv.lst {a1Z:List (Addr×TK)}{σ:St}{H:Hp}{s:RC}{p:Addr}{xs:List V}(I:Inv X a1Z σ H s)(h:H p=some (.lst xs)) :
  ∃ (its:List Ru)(n:Nat),Vals xs its/\s.heap.get? p=some { cls:=.type "list",data:=.seq its.toArray n }/\xs.length<=RL:=by
 obtain ⟨z,its,n,r,e⟩:=I.hok p _ h
 exact ⟨its,n,r,e,z⟩
theorem Inv.lstUpd {a1Z:List (Addr×TK)}{σ:St}{H:Hp}{s:RC}{p:Addr}{xs ys:List V}{its its':List Ru}{n n':Nat}{f:TK->TK}(I:Inv X a1Z σ H s)(h:H p=some (.lst xs))
  (ho:s.heap.get? p=some { cls:=.type "list",data:=.seq its.toArray n }) (hf:f { cls:=.type "list",data:=.seq its.toArray n } = { cls:=.type "list",data:=.seq its'.toArray n' }) (r:Vals ys its')(hz:ys.length<=RL)(t:Nat) :
  Inv X a1Z σ (aI H p (.lst ys)) { s with heap:=s.heap.update p f,toks:=t }:=by
 have e:(s.heap.update p f).get? p=some { cls:=.type "list",data:=.seq its'.toArray n' }:=by
  rw [S2 f ho (by rw [hf]<;>rfl),hf]
 refine I.write (x:=p) (e:=p) (by rw [h];trivial) (.inl rfl) (fun b u hb q=>(Tv _ _ (So hb)).trans q) ⟨_,e⟩ ?_
 exact ⟨hz,its',n',r,e⟩
noncomputable def Au:V->V->V->Hp->(Hp->Prop)->Prop:=fun o i v H Q=>∃ p xs k j,o=.ref p/\i=.int k/\H p=some (.lst xs)/\fV xs.length k=some j/\Q (aI H p (.lst (xs.set j v)))
theorem Hb:FV X Au:=by
 intro a1Z s σ H o i v ov iv u Q I ro ri rv h
 obtain ⟨p,xs,k,j,rfl,rfl,hp,hj,q⟩:=h
 cases ro
 obtain ⟨t,rfl⟩:=ri
 obtain ⟨its,n,r,ho,hz⟩:=I.lst hp
 obtain ⟨h1,h2,h3,h4⟩:=An hj
 have hl:=r.length
 have hn:=lA
 have I':Inv X a1Z σ (aI H p (.lst (xs.set j v))) { s with heap:=s.heap.update p (Ta (·.setIfInBounds j u)) }:=
  I.lstUpd hp ho (Ha its n j u) (r.set rv j) (by rw [SE];exact hz) s.toks
 by_cases h0:0<=k
 ·have hk:k.toNat=j:=by
   rw [a0b h0 h4] at h1
   exact RY h1
  exact PySem.W.ki_setAt ho h0 (by omega) (by rw [RS,<- hl];exact h4) (by rw [hk];exact ⟨_,I',q⟩)
 ·have hk:(k+(its.toArray.size:Int)).toNat=j:=by
   rw [Zz (by omega) h3] at h1
   rw [RS,<- hl]
   exact RY h1
  exact PySem.W.ki_setBack ho (by omega) (by rw [RS,<- hl];exact h3) (by omega) (by rw [hk];exact ⟨_,I',q⟩)
theorem Hc (lo hi:Option Int)(n:Nat):(Ua lo hi none n).1=((HT.sIx n 0 lo:Nat):Int)/\(Ua lo hi none n).2.1=((HT.sIx n n hi:Nat):Int)/\(Ua lo hi none n).2.2=1:=by
 refine ⟨?_,?_,rfl⟩
 ·cases lo with
  | none=>simp [Ua,HT.sIx]
  | some i=>
   simp only [Ua,HT.sIx,Zp,show (1:Int)>0 by decide,if_true]
   by_cases h:i<0
   ·simp only [h,if_true]<;>omega
   ·simp only [h,if_false]<;>omega
 ·cases hi with
  | none=>simp [Ua,HT.sIx]
  | some i=>
   simp only [Ua,HT.sIx,Zp,show (1:Int)>0 by decide,if_true]
   by_cases h:i<0
   ·simp only [h,if_true]<;>omega
   ·simp only [h,if_false]<;>omega
theorem Hd (its:List Ru)(lo hi:Option Int):Zk its.toArray lo hi none=((its.drop (HT.sIx its.length 0 lo)).take (HT.sIx its.length its.length hi - HT.sIx its.length 0 lo)).toArray:=by
 obtain ⟨h1,h2,h3⟩:=Hc lo hi its.toArray.size
 unfold Zk
 rw [h1,h2,h3]
 simp only [sliceRange_one,pick_run,RS]<;>rfl
noncomputable def uA (K:Rn):V->Option Int->Option Int->Hp->VK->Prop:=fun x lo hi H Q=>∃ a xs,x=.ref a/\SqL K H a xs/\∀ p,H p=none->Q (.ref p) (aI H p (.lst (kB xs lo hi)))
theorem He:SlR X (uA X.K):=by
 intro a1Z s σ H x v vl vu lo hi sl Q I rx hs pl pu h
 obtain ⟨a,xs,rfl,hx,q⟩:=h
 cases rx
 obtain ⟨its,r,ht,hz⟩:=I.list hx
 have hlen:=r.length
 refine ⟨"list",_,XQ.lookup,ht.isList.typeIs,?_⟩
 refine Zf ht.isList hs pl pu .none (by simp) ?_ (by rw [RS]<;>omega)
 rw [Hd,<- hlen]
 refine ⟨.ref s.heap.objs.size,_,I.laid (t':=s.toks) (o:=.lst (kB xs lo hi)) (fun b ob q=>Rt _ q) (RD _) ?_,rfl,q _ (I.hok.fresh (RD _))⟩
 exact ⟨SQ (G5 xs lo hi) hz,_,0,(r.drop (HT.sIx xs.length 0 lo)).take (HT.sIx xs.length xs.length hi - HT.sIx xs.length 0 lo),RK _ rfl⟩
theorem Av:OpR X (S4 .NotIn) (fun x y H Q=>∃ i j,x=.str i/\y=.str j/\Q (.bl (!(!(Tn j i 0 j.length 1).isEmpty))) H):=by
 intro a1Z s σ H x y v u Q I rx ry h
 obtain ⟨i,j,rfl,rfl,q⟩:=h
 obtain ⟨t,rfl⟩:=rx
 obtain ⟨t',rfl⟩:=ry
 exact notIn_str ⟨.bl _,H,I,rfl,q⟩
theorem call_len_seq:CallR X (.builtin "len") (fun xs H Q=>∃ p ys,xs=[.ref p]/\(SqL X.K H p ys\/SqT X.K H p ys)/\Q (.int ys.length) H):=by
 intro a1Z s σ H xs us Q I r h
 obtain ⟨p,ys,rfl,hq,q⟩:=h
 obtain ⟨u,rfl,rx⟩:=fU r
 cases rx
 have hn:=lA
 rcases hq with hq|hq
 ·obtain ⟨its,r',pl,hz⟩:=I.list hq
  have hlen:=r'.length
  exact Calls.call_len_list pl.isList (by simp only [RS]<;>omega) ⟨.int ys.length,H,I.tok _,⟨s.toks+1,by rw [RS,hlen]⟩,q⟩
 ·obtain ⟨its,r',pl,hz⟩:=I.tuple hq
  have hlen:=r'.length
  exact len_tuple pl (by simp only [RS]<;>omega) ⟨.int ys.length,H,I.tok _,⟨s.toks+1,by rw [RS,hlen]⟩,q⟩
theorem Hf:CallR X (.builtin "len") (fun xs H Q=>∃ z,xs=[.str z]/\z.length<=RL/\Q (.int z.length) H):=by
 intro a1Z s σ H xs us Q I r h
 obtain ⟨z,rfl,hz,q⟩:=h
 obtain ⟨u,rfl,t,rfl⟩:=fU r
 have hn:=lA
 exact len_str (by omega) ⟨.int z.length,H,I.tok _,⟨_,rfl⟩,q⟩
theorem CallR.or {f:Ru}{r r':List V->Hp->VK->Prop}(h:CallR X f r)(h':CallR X f r'):CallR X f (fun xs H Q=>r xs H Q\/r' xs H Q):=by
 intro a1Z s σ H xs us Q I rs q
 rcases q with q|q
 ·exact h a1Z s σ H xs us Q I rs q
 ·exact h' a1Z s σ H xs us Q I rs q
theorem call_list_of:CallR X (.type "list") (fun xs H Q=>∃ p ys,xs=[.ref p]/\(SqL X.K H p ys\/SqT X.K H p ys)/\∀ l,H l=none->Q (.ref l) (aI H l (.lst ys))):=by
 intro a1Z s σ H xs us Q I r h
 obtain ⟨p,ys,rfl,hq,q⟩:=h
 obtain ⟨u,rfl,rx⟩:=fU r
 cases rx
 have fin:∀ (its:List Ru),Vals ys its->ys.length<=RL->∀ (h':SO)(c':Nat),(∀ b o',s.heap.get? b=some o'->h'.get? b=some o')->
   h'.get? s.heap.objs.size=some { cls:=.type "list",dict:=none,data:=.seq its.toArray c',slots:=#[] }->EP X a1Z σ Q (.ref s.heap.objs.size) { s with heap:=h' }:=fun its r' hz h' c' kp e=>
  ⟨.ref s.heap.objs.size,_,I.laid (t':=s.toks) kp (RD _) (show ObjOk X.prog X.w _ h' _ (.lst ys) from ⟨hz,its,c',r',e⟩),rfl,q _ (I.hok.fresh (RD _))⟩
 rcases hq with hq|hq
 ·obtain ⟨its,r',pl,hz⟩:=I.list hq
  have hlen:=r'.length
  obtain ⟨o,ho,hc,n,hd⟩:=pl.isList
  exact call_list_seq p (.inl rfl) ho hc hd (fun h' c' kp e=>fin its r' hz h' c' kp e) (by simp only [RS]<;>omega)
 ·obtain ⟨its,r',pl,hz⟩:=I.tuple hq
  have hlen:=r'.length
  obtain ⟨o,ho,hc,n,hd⟩:=pl
  exact call_list_seq p (.inr rfl) ho hc hd (fun h' c' kp e=>fin its r' hz h' c' kp e) (by simp only [RS]<;>omega)
theorem Aw:CallR X (.type "tuple") (fun xs H Q=>∃ p ys,xs=[.ref p]/\((SqL X.K H p ys/\∀ l,H l=none->Q (.ref l) (aI H l (.tup ys)))\/(SqT X.K H p ys/\Q (.ref p) H))):=by
 intro a1Z s σ H xs us Q I r h
 obtain ⟨p,ys,rfl,h⟩:=h
 obtain ⟨u,rfl,rx⟩:=fU r
 cases rx
 rcases h with ⟨hq,q⟩|⟨hq,q⟩
 ·obtain ⟨its,r',pl,hz⟩:=I.list hq
  have hlen:=r'.length
  refine call_tuple_list pl.isList (fun h' kp=>?_) (by simp only [RS]<;>omega)
  have I1:Inv X a1Z σ H { s with heap:=h' }:=I.kept (t':=s.toks) kp
  have I2:Inv X a1Z σ (aI H h'.objs.size (.tup ys)) { s with heap:=h'.push { cls:=.type "tuple",data:=.seq its.toArray } }:=
   I1.laid (t':=s.toks) (fun b o e=>Rt _ e) (RD _) (show ObjOk X.prog X.w _ _ _ (.tup ys) from ⟨hz,its,r',TupN.new _ _⟩)
  exact ⟨.ref h'.objs.size,_,I2,rfl,q _ (I1.hok.fresh (RD _))⟩
 ·obtain ⟨its,r',pl,hz⟩:=I.tuple hq
  exact call_tuple_same pl ⟨.ref p,H,I,rfl,q⟩
noncomputable def qN (K:Rn)(T:String)(x:V)(H:Hp):Prop:=match x with
 | .str _=>T = "str"
 | .int _=>T = "int"
 | .ref p=>(T = "list"/\∃ xs,SqL K H p xs)\/(T = "tuple"/\∃ o,K.lookup p=some o/\o.cls=.type "tuple"/\o.dict=none) \/
   (T = "dict"/\((∃ kvs,H p=some (.dK kvs))\/∃ kvs,H p=some (.dT kvs)))\/(T = "set"/\∃ S n,H p=some (.set S n))
 | _=>False
theorem Ax {a1Z:List (Addr×TK)}{σ:St}{H:Hp}{s:RC}{T:String}{x:V}{v:Ru}(I:Inv X a1Z σ H s)(r:RelV x v)(ty:qN X.K T x H) :
  s.TypeIs v T/\∀ a,v=.ref a->∃ ob,s.heap.get? a=some ob/\ob.dict=none:=by
 cases x with
 | str z=>
  obtain ⟨t,rfl⟩:=r
  cases (show T = "str" from ty)
  exact ⟨typeIs_str s z t,fun _ e=>nomatch e⟩
 | int i=>
  obtain ⟨t,rfl⟩:=r
  cases (show T = "int" from ty)
  exact ⟨typeIs_int s i t,fun _ e=>nomatch e⟩
 | ref p=>
  cases r
  rcases ty with ⟨rfl,xs,hq⟩|⟨rfl,o,hk,hc,hd⟩|⟨rfl,hk⟩|⟨rfl,S,n,hk⟩
  ·obtain ⟨its,_,pl,_⟩:=I.list hq
   refine ⟨pl.isList.typeIs,fun a e=>?_⟩
   cases e
   obtain ⟨o,n,e,c,hd,_⟩:=pl
   exact ⟨o,e,hd⟩
  ·refine ⟨⟨o,I.kIn p o hk,hc⟩,fun a e=>?_⟩
   cases e
   exact ⟨o,I.kIn _ o hk,hd⟩
  ·have z:∃ o,s.heap.get? p=some o/\o.ExactDict:=by
    rcases hk with ⟨kvs,hk⟩|⟨kvs,hk⟩
    ·obtain ⟨_,_,_,_,o,_,_,e,ex,_⟩:=I.hok p _ hk
     exact ⟨o,e,ex⟩
    ·obtain ⟨_,_,_,_,o,_,_,e,ex,_⟩:=I.hok p _ hk
     exact ⟨o,e,ex⟩
   obtain ⟨o,e,ex⟩:=z
   refine ⟨⟨o,e,ex.1⟩,fun a e2=>?_⟩
   cases e2
   exact ⟨o,e,ex.2.1⟩
  ·obtain ⟨o,_,_,_,e,ex,_⟩:=I.hok p _ hk
   refine ⟨⟨o,e,ex.1⟩,fun a e2=>?_⟩
   cases e2
   exact ⟨o,e,ex.2.1⟩
 | _=>exact T9 ty
noncomputable def Ay (K:Rn)(T:String)(r:V->List V->Hp->VK->Prop)(to:TE):TE:=fun σ H Q=>to σ H fun x H1=>qN K T x H1/\r x [] H1 Q
noncomputable def Az (K:Rn)(T:String)(r:V->List V->Hp->VK->Prop)(to:TE)(t:TA):TE:=fun σ H Q=>to σ H fun x H1=>qN K T x H1/\t σ H1 fun xs H2=>r x xs H2 Q
variable {o e:RI}{es:List RI}{to:TE}{t:TA}{name:Str}{apos cpos:TC}{T id:String}{r:V->List V->Hp->VK->Prop}
theorem Hg (pa:PlainAttrs T)(slot:a0W T name id)(hty:Yg (.builtin id)=pure (.type "method_descriptor")) (hm:MtR X id r)(ho:PE X o to)
  (hbase:UH o name X.env (eval o X.env)=eval o X.env:=by rfl)(hline:(apos.endLine == cpos.line)=true:=by rfl):PE X (.Call (.Attribute o name apos) [] [] cpos) (Ay X.K T r to):=by
 intro a1Z s σ H Q I h
 refine VB hbase hline (aQ (ho a1Z s σ H _ I h) fun v s1 ⟨x,H1,I1,r1,ty,q1⟩=>?_)
 obtain ⟨h1,h2⟩:=Ax I1 r1 ty
 exact ⟨T,id,pa,slot,hty,h1,h2,Ud rfl (VQ (hm a1Z s1 σ H1 x [] v [] Q I1 r1 .nil q1))⟩
theorem Hh (pa:PlainAttrs T)(slot:a0W T name id)(hty:Yg (.builtin id)=pure (.type "method_descriptor")) (hm:MtR X id r)(ho:PE X o to)(ha:PA X (e::es) t)
  (hbase:UH o name X.env (eval o X.env)=eval o X.env:=by rfl)
  (hfew:((Uz cpos (Sj (e::es) X.env)).all (fun x=>!x.1)&&(YV cpos (Xf [] X.env)).all (fun x=>x.1.isSome)
   && decide ((e::es).length+([]:List Vh).length+(if ([]:List Vh).isEmpty then 0 else 1)<30))=true:=by rfl)
  (hline:(apos.endLine == cpos.line)=true:=by rfl)(hs:Sj (e::es) X.env=(false,eval e X.env)::Sj es X.env:=by rfl)(hplain:(Uz cpos (Sj es X.env)).any (·.1)=false:=by rfl) :
  PE X (.Call (.Attribute o name apos) (e::es) [] cpos) (Az X.K T r to t):=by
 intro a1Z s σ H Q I h
 refine Zw hbase hfew hline rfl (aQ (ho a1Z s σ H _ I h) fun v s1 ⟨x,H1,I1,r1,ty,q1⟩=>?_)
 obtain ⟨h1,h2⟩:=Ax I1 r1 ty
 refine ⟨T,id,pa,slot,hty,h1,h2,?_⟩
 have hA:=ha cpos a1Z s1 σ H1 _ I1 q1
 rw [hs] at hA ⊢
 refine Ud (by show (false||(Uz cpos (Sj es X.env)).any (·.1))=false;rw [hplain]<;>rfl) (Y2 ?_)
 exact aQ hA fun us s2 ⟨vs,H2,I2,r2,q2⟩=>hm a1Z s2 σ H2 x vs v us Q I2 r1 r2 q2
end
end L2
namespace L2
open PySem PySem.Spec PyProof.Rows
noncomputable def fW (X:Cx)(id:String)(r:V->List V->Hp->VK->Prop):Prop:=
 ∀ (a1Z:List (Addr×TK))(s:RC)(σ:St)(H:Hp)(x:V)(xs:List V)(v:Ru)(us:List Ru)(Q:VK),Inv X a1Z σ H s->RelV x v->Vals xs us->r x xs H Q->
  RQ (R0 X.prog X.w) X.A (call (.builtin id) (v::us)) (EP X a1Z σ Q) X.xe s
theorem Vals.one:∀ {x:V}{us:List Ru},Vals [x] us->∃ u,us=[u]/\RelV x u
 | _,_,.cons r .nil=>⟨_,rfl,r⟩
theorem Vals.two:∀ {x y:V}{us:List Ru},Vals [x,y] us->∃ u v,us=[u,v]/\RelV x u/\RelV y v
 | _,_,_,.cons r (.cons q .nil)=>⟨_,_,rfl,r,q⟩
theorem Vals.zero:∀ {us:List Ru},Vals [] us->us=[]
 | _,.nil=>rfl
theorem Vals.dropLast {xs:List V}{us:List Ru}(h:Vals xs us):Vals xs.dropLast us.dropLast:=by
 induction h with
 | nil=>exact .nil
 | cons r t ih=>
  cases t with
  | nil=>exact .nil
  | cons q t'=>exact .cons r ih
theorem Vals.reverse {xs:List V}{us:List Ru}(h:Vals xs us):Vals xs.reverse us.reverse:=by
 induction h with
 | nil=>exact .nil
 | cons r t ih=>rw [UY,UY];exact Vals.append ih (.cons r .nil)
theorem Hi {α:Type}(l:List α):l.eraseIdx (l.length - 1)=l.dropLast:=by
 induction l with
 | nil=>rfl
 | cons a r ih=>
  cases r with
  | nil=>rfl
  | cons b r=>
   have e:(a::b::r).length - 1=((b::r).length - 1)+1:=by
    have h1:(a::b::r).length=r.length+2:=rfl
    have h2:(b::r).length=r.length+1:=rfl
    omega
   rw [e,List.eraseIdx_cons_succ,ih]
   all_goals rfl
section
variable {X:Cx}{a1Z:List (Addr×TK)}{σ:St}{H:Hp}{s:RC}{l b:Addr}{xs ys zs:List V}
theorem Inv.lset {its its':List Ru}{n:Nat}{f:Array Ru->Array Ru}{t':Nat}(I:Inv X a1Z σ H s)(hH:H l=some (.lst xs))
  (e:s.heap.get? l=some { cls:=.type "list",data:=.seq its.toArray n }) (hf:f its.toArray=its'.toArray)(hv:Vals ys its')(hz:ys.length<=RL) :
  Inv X a1Z σ (aI H l (.lst ys)) { s with heap:=s.heap.update l (Ta f),toks:=t' }:=by
 have q:=PySem.IsL.update e f
 rw [hf] at q
 refine I.write (x:=l) (e:=l) (by rw [hH];exact trivial) (.inl rfl) (fun b' u hb hu=>(Tv s.heap (Ta f) (So hb)).trans hu) ⟨_,q⟩ ?_
 exact ⟨hz,its',_,hv,q⟩
theorem Inv.lnew {its:List Ru}{t':Nat}(I:Inv X a1Z σ H s)(hv:Vals ys its)(hz:ys.length<=RL) :
  Inv X a1Z σ (aI H s.heap.objs.size (.lst ys)) { s with heap:=s.heap.push { cls:=.type "list",data:=.seq its.toArray },toks:=t' }:=
 I.laid (fun _ _ q=>Rt _ q) (RD _) ⟨hz,its,0,hv,RK _ rfl⟩
theorem Inv.fresh (I:Inv X a1Z σ H s):H s.heap.objs.size=none:=I.hok.fresh (RD _)
theorem Inv.lstM (I:Inv X a1Z σ H s)(hH:H l=some (.lst xs)):xs.length<=RL/\∃ (its:List Ru)(n:Nat),Vals xs its/\xs.length=its.length/\s.heap.get? l=some { cls:=.type "list",data:=.seq its.toArray n }:=by
 obtain ⟨z,its,n,r,e⟩:=I.hok l _ hH
 exact ⟨z,its,n,r,r.length,e⟩
end
section
variable {X:Cx}
noncomputable def AA:V->List V->Hp->VK->Prop:=fun x vs H Q=>∃ l xs y,x=.ref l/\vs=[y]/\H l=some (.lst xs)/\xs.length<RL/\Q .non (aI H l (.lst (xs++[y])))
theorem AB:fW X "list.append" AA:=by
 intro a1Z s σ H x vs v us Q I rx rv h
 obtain ⟨l,xs,y,rfl,rfl,hH,hz,q⟩:=h
 cases rx
 obtain ⟨u,rfl,ru⟩:=rv.one
 obtain ⟨z,its,n,r,hl,e⟩:=I.lstM hH
 refine YT F.slot_list_append ⟨_,e,rfl⟩ F.entry_list_append (F.args_list_append_2 _ _) (PySem.list_append l its.toArray n u (by rw [RS];omega)) ⟨e,?_⟩
 refine ⟨.non,_,I.lset (its':=its++[u]) hH e (by simp) (r.append (.cons ru .nil)) ?_,rfl,q⟩
 rw [RV,Uj]
 omega
noncomputable def AD:V->List V->Hp->VK->Prop:=fun x vs H Q=>∃ l xs y,x=.ref l/\vs=[]/\H l=some (.lst xs)/\xs[xs.length - 1]? = some y/\Q y (aI H l (.lst xs.dropLast))
theorem Hj:fW X "list.pop" AD:=by
 intro a1Z s σ H x vs v us Q I rx rv h
 obtain ⟨l,xs,y,rfl,rfl,hH,hy,q⟩:=h
 cases rx
 have hus:=rv.zero
 subst hus
 obtain ⟨z,its,n,r,hl,e⟩:=I.lstM hH
 obtain ⟨u,hu,ru⟩:=r.get hy
 have hy':its.toArray[its.toArray.size - 1]? = some u:=by
  show its.toArray[its.length - 1]? = some u
  rw [<- Tp,<- hl]
  exact hu
 refine YT F.slot_list_pop ⟨_,e,rfl⟩ F.entry_list_pop (F.args_list_pop_1 _) (MeetsSeq.list_pop_last l its.toArray n u hy' (by rw [RS];omega)) ⟨e,?_⟩
 refine ⟨y,_,I.lset (its':=its.dropLast) hH e ?_ r.dropLast ?_,ru,q⟩
 ·show its.toArray.eraseIdxIfInBounds (its.toArray.size - 1)=its.dropLast.toArray
  rw [RS,List.eraseIdxIfInBounds_toArray,Hi]
 ·rw [List.length_dropLast]
  omega
noncomputable def AE:V->List V->Hp->VK->Prop:=fun x vs H Q=>∃ l xs,x=.ref l/\vs=[]/\H l=some (.lst xs)/\Q .non (aI H l (.lst xs.reverse))
theorem Hk:fW X "list.reverse" AE:=by
 intro a1Z s σ H x vs v us Q I rx rv h
 obtain ⟨l,xs,rfl,rfl,hH,q⟩:=h
 cases rx
 have hus:=rv.zero
 subst hus
 obtain ⟨z,its,n,r,hl,e⟩:=I.lstM hH
 refine YT F.slot_list_reverse ⟨_,e,rfl⟩ F.entry_list_reverse (F.args_list_reverse_1 _) (AutoSeq1.list_reverse_list_0 l its.toArray n (by rw [RS];omega)) ⟨e,?_⟩
 refine ⟨.non,_,I.lset (its':=its.reverse) hH e (by simp) r.reverse ?_,rfl,q⟩
 rw [UD]
 omega
noncomputable def AF:V->List V->Hp->VK->Prop:=fun x vs H Q=>∃ l xs,x=.ref l/\vs=[]/\H l=some (.lst xs)/\Q .non (aI H l (.lst []))
theorem Hl:fW X "list.clear" AF:=by
 intro a1Z s σ H x vs v us Q I rx rv h
 obtain ⟨l,xs,rfl,rfl,hH,q⟩:=h
 cases rx
 have hus:=rv.zero
 subst hus
 obtain ⟨z,its,n,r,hl,e⟩:=I.lstM hH
 refine YT F.slot_list_clear ⟨_,e,rfl⟩ F.entry_list_clear (F.args_list_clear_1 _) (AutoSeq1.list_clear_list_0 l its.toArray n (by rw [RS];omega)) ⟨e,?_⟩
 exact ⟨.non,_,I.lset (its':=[]) (ys:=[]) hH e rfl .nil (SF _),rfl,q⟩
noncomputable def AG:R2:=fun x y H Q=>∃ l b xs zs,x=.ref l/\y=.ref b/\H l=some (.lst xs)/\H b=some (.lst zs)/\xs.length+zs.length<=RL/\∀ p,H p=none->Q (.ref p) (aI H p (.lst (xs++zs)))
theorem Hn:OpR X (UL .Add) AG:=by
 intro a1Z s σ H x y v u Q I rx ry h
 obtain ⟨l,b,xs,zs,rfl,rfl,hH,hB,hz,q⟩:=h
 cases rx
 cases ry
 obtain ⟨z,its,n,r,hl,e⟩:=I.lstM hH
 obtain ⟨z2,its2,n2,r2,hl2,e2⟩:=I.lstM hB
 refine PySem.P.add_list e e2 ?_ (by rw [RS,RS];omega)
 have ea:its.toArray++its2.toArray=(its++its2).toArray:=by simp
 rw [ea]
 exact ⟨.ref _,_,I.lnew (t':=s.toks) (r.append r2) (by rw [RV];omega),rfl,q _ I.fresh⟩
end
section
variable {prog:R8}{w:Sy}{A:Sn}{E:Ru->RC->Prop}{s:RC}
end
section
variable {X:Cx}
end
end L2
namespace Att
open PySem PySem.W PySem.Calls PyProof.Rows
theorem Ho {P:Params}{h:SO}:∀ (ns:List Int)(vs:List Ru),WellAll P h vs (ns.map VN)->UJ vs ns:=by
 intro ns
 induction ns with
 | nil=>
  intro vs w
  rw [U7] at w
  cases w
  exact .nil
 | cons n ns ih=>
  intro vs w
  rw [RM] at w
  cases w with
  | cons a b=>
   cases a
   exact .cons _ _ (ih _ b)
theorem script_of {l:OpenLaw}{n:Nat}(hn:l.most=some n){P:Params}{h:SO}{args:List WData}{vals:List Ru}
  (hpre:l.row.toRowW.claim.pre args=true)(hwl:WellAll P h vals args) :
  ∃ a vs ns,vals=[RJ a]/\args=[WData.list (ns.map VN)]/\h.get? a=some { cls:=.type "list",data:=.seq vs.toArray }/\UJ vs ns/\ns.length<=n:=by
 have hsh:WShape.hasAll [] args [.list .int]=true:=(pre_splitW hpre).1
 have hc:l.pre.holds [] { args:=args } = true:=(pre_splitW hpre).2
 obtain ⟨d,r,rfl,h1,h2⟩:=hasAllW_cons hsh
 obtain rfl:=hasAllW_nil h2
 obtain ⟨xs,rfl,h3⟩:=hasW_list h1
 obtain ⟨ns,rfl⟩:=items_int h3
 have hlen:ns.length<=n:=by
  unfold OpenLaw.pre at hc
  have h4:(WTm.not (.lt (.lit (.int (n:Int))) (.len (.arg 0)))).holds [] { args:=[.list (ns.map .int)] } = true:=by
   have h4:=(holds_andW hc).1
   rw [hn] at h4
   exact h4
  have h5:=condW_of h4 (w_not (w_lt w_lit (w_len_list (w_arg rfl))))
  rw [Ro] at h5
  refine XG fun q=>?_
  have q':(n:Int)<((ns.length:Nat):Int):=by omega
  first
   | (rw [decide_eq_true q'] at h5;exact absurd h5 (by decide))
   | (simp at h5;omega)
 cases hwl with
 | cons w1 w2=>
  cases w2
  cases w1 with
  | list ho hall=>exact ⟨_,_,ns,rfl,rfl,ho,Ho ns _ hall,hlen⟩
theorem post_true (l:OpenLaw)(args:List WData):l.row.toRowW.claim.post args (.bool true) args=true:=
 postW_of (r:=l.row.toRowW) (X:=(true == true))
  (show a0N [] (.bool true) .bool=true by first|rfl|decide|simp [a0N,WShape.arms,WShape.armsAll])
  (show (WTm.eq .res (.lit (.bool true))).value [] { args:=args,res:=some (.bool true),after:=args } = some (.bool (true == true)) from w_eq_bool (w_res rfl) w_lit) rfl
section
variable {prog:R8}{w:Sy}{A:Sn}{E:Ru->RC->Prop}{s:RC}{K:Frag}
end
end Att
namespace L2
open PySem PySem.Spec PyProof.Rows
theorem uB:∀ {vs:List Ru}{ns:List Int},UJ vs ns->Vals (ns.map V.int) vs
 | _,_,.nil=>.nil
 | _,_,.cons n t h=>.cons ⟨t,rfl⟩ (uB h)
noncomputable def AH (H:Hp):Prop:=∀ b,H b=none\/∃ o xs,H b=some (.frz o (.lst xs))
theorem law_call {P:R8}{w:Sy}{K:Rn}{mg mb:Str->Option Ru}{CX:iQ}{k:Nat}{fa a:Addr}{fd:Uq}{x:Str}{sp:Sp}{s₁:RC}{vs:List Ru}{ns:List Int}
  (KX:K.In s₁.heap)(hns:s₁.heap.Ns TF mg)(hb:s₁.heap.Ns a0B mb)(hbb:∀ x:Str,x ≠ "__name__"->mb x=Tz x) (hlim:s₁.heap.NoLimit)(hg:s₁.gens = #[])
  (ha:s₁.heap.get? a=some { cls:=.type "list",data:=.seq vs.toArray }) (hi:UJ vs ns)(hl:ns.length<=RL)(hr:Room k XW)
  (F:∀ base:SO,K.In base->base.Ns TF mg->FnOk P w K mg base CX k fa fd [x] sp)(hbind:∀ (s:RC)(u:Ru),X4 s fd ⟨[u],[]⟩ [(x,u)])
  (hsp:∀ H:Hp,AH H->SqL K H a (ns.map V.int)->sp [.ref a] H (fun v _=>v=.bl true) fun _ _ _=>False)
  (hCX:∀ H e s',CX [] H s₁ (fun _ _ _=>False) e s'->False) :
  VY (R0 P w) XW (.call (.ref fa) ⟨[.ref a],[]⟩) (fun r s'=>r=.ok (.ret (.bool true))/\OldK s₁.heap s'.heap/\s'.os=s₁.os/\Xm s'.gens) s₁:=by
 have rv:=uB hi
 have lenV:=hi.length
  -- from an abstract heap in which nothing but the script may be tracked
 have core:∀ H:Hp,AH H->SqL K H a (ns.map V.int)->HOk P w H s₁.heap->(∀ b,H b≠none->b=a)->(H a≠none->K.lookup a=none)->
   VY (R0 P w) XW (.call (.ref fa) ⟨[.ref a],[]⟩) (fun r s'=>r=.ok (.ret (.bool true))/\OldK s₁.heap s'.heap/\s'.os=s₁.os/\Xm s'.gens) s₁:=by
  intro H hO hS hok hA hK
  have jX:∀ {b:Addr}{o:TK},s₁.heap.get? b=some o->H b=none->(jM s₁.heap H).get? b=some o:=fun e n=>EZ e n
  have noA:∀ {b:Addr}{o:TK}{es:Array SV}{ep:Nat},s₁.heap.get? b=some o->o.data=.dict es ep->H b=none:=fun {b o es ep} e d=>by
   cases q:H b with
   | none=>rfl
   | some u=>
    have e':b=a:=hA b (by rw [q];simp)
    subst e'
    rw [ha] at e;cases e
    have d':Xl vs.toArray _=a1Y es ep:=d
    cases d'
  have nsK:∀ {b:Addr}{m:Str->Option Ru},s₁.heap.Ns b m->(jM s₁.heap H).Ns b m:=fun {b m} ⟨o,es,ep,e,d,r⟩=>⟨o,es,ep,jX e (noA e d),d,r⟩
  have hKb:K.In (jM s₁.heap H):=fun b o e=>jX (KX b o e) (by
   cases q:H b with
   | none=>rfl
   | some u=>
    have e':b=a:=hA b (by rw [q];simp)
    subst e'
    rw [hK (by rw [q];simp)] at e;cases e)
  have hM:Mod K mg (jM s₁.heap H):=⟨hKb,nsK hns,⟨mb,nsK hb,hbb⟩,let ⟨mc,h1,h2⟩:=hlim;⟨mc,nsK h1,h2⟩⟩
  have e0:Env0 P w K mg (jM s₁.heap H) XW [] s₁ H:=⟨rfl,hM,fun b o e=>E4 e,Xs (EY _ _),trivial,fun b hb=>absurd (show b∈([]:List Addr) from hb) (by simp),hok,.of_eq hg⟩
  refine XU ((F _ hKb (nsK hns)).run XW [] s₁ H ⟨[.ref a],[]⟩ [.ref a] [.ref a] _ _ hr e0 (hbind s₁ (.ref a)) (.cons rfl .nil) (hsp H hO hS)) fun r s' h=>?_
  cases r with
  | error e=>exact (hCX H e s' h).elim
  | ok fl=>
   cases fl with
   | next=>exact T9 h
   | brk=>exact T9 h
   | cont=>exact T9 h
   | ret u=>
    obtain ⟨v,H',os,bare,un,hok',r',q⟩:=h
    have q':v=.bl true:=q
    subst q'
    obtain rfl:u=VD true:=r'
    refine ⟨rfl,OldK.of_keep fun b o e=>?_,os,bare⟩
    cases q:H b with
    | none=>exact un.keep b o e q (by intro z;exact absurd (show b∈([]:List Addr) from z) (by simp)) (by simp)
    | some u=>
     rcases hO b with z|⟨ob,xs,z⟩
     ·rw [q] at z;cases z
     ·have z2:=un.frzs b ob _ z
      obtain ⟨e1,_⟩:=hok b _ z
      obtain ⟨e2,_⟩:=hok' b _ z2
      rw [e] at e1;cases e1
      exact e2
 cases hk:K.lookup a with
 | some o=>
    -- the script is one of the module's own objects
  have e:=KX a o hk
  rw [ha] at e
  cases e
  refine core (fun _=>none) (fun _=>.inl rfl) (.inr ⟨_,vs.toArray,_,hk,rfl,rfl,rfl,by rw [RS,lenV];exact hl,by simpa using rv⟩) (fun b u z=>by have z':(none:Option HO)=some u:=z;cases z') (fun b z=>absurd rfl z) fun z=>absurd rfl z
 | none=>
  refine core (fun b=>if b=a then some (.frz { cls:=.type "list",data:=.seq vs.toArray } (.lst (ns.map V.int))) else none) (fun b=>?_) (.inl (.inr ⟨{ cls:=.type "list",data:=.seq vs.toArray },if_pos rfl⟩)) (fun b u z=>?_) (fun b z=>?_) fun _=>hk
  ·by_cases hb:b=a
   ·exact .inr ⟨_,_,if_pos hb⟩
   ·exact .inl (if_neg hb)
  ·by_cases hb:b=a
   ·have z':=(if_pos hb).symm.trans z
    cases z'
    subst hb
    exact ⟨ha,by rw [Ro];exact hl,vs,_,rv,ha⟩
   ·have z':=(if_neg hb).symm.trans z
    cases z'
  ·by_cases hb:b=a
   ·exact hb
   ·exact absurd (if_neg hb) z
end L2
namespace L2
open PySem PySem.Spec PyProof.Rows
end L2
namespace L2
open PySem PySem.Spec PyProof.Rows
noncomputable def jO (s:Stmt):Arguments:=match s with
 | .FunctionDef _ a _ _ _ _ _ _ _ _=>a
 | _=>{ posonlyargs:=[],args:=[],vararg:=none,kwonlyargs:=[],kw_defaults:=[],kwarg:=none,defaults:=[] }
noncomputable def fX (s:Stmt):List Stmt:=match s with
 | .FunctionDef _ _ b _ _ _ _ _ _ _=>b
 | _=>[]
noncomputable def cJ (s:Stmt):UN:=match s with
 | .FunctionDef _ _ _ _ _ _ sc _ _ _=>sc
 | _=>{ kind:=.function,names:=[],isGenerator:=false,isCoroutine:=false }
noncomputable abbrev fE:iQ:=fun _ _ _ _ _ _=>False
noncomputable abbrev E0:XK:=fun _ _ _=>False
theorem AI {X:Cx}:qK fE X E0:=fun _ _ _ _ _ _ _ h=>h.elim
structure Fun (K:Rn)(x qual:Str)(st:Stmt)(f:Addr)(fd:Uq):Prop where
 ex:∃ (oc:Ru)(od:Option Addr)(kV doc pm:Ru)(an:Option Addr)(cdv ct:Ru)(osl:Array (Option Ru)),
  fd=Um x qual (jO st) (fX st) (cJ st) .none kV doc pm an cdv ct/\K.lookup f=some ⟨oc,od,.func fd,osl⟩/\WD K cdv qual=true
 kp:TL K (.ref f)=true
section
variable {P:R8}{w:Sy}{K:Rn}{mg:Str->Option Ru}{base:SO}
theorem Fun.ok {x qual:Str}{st:Stmt}{f:Addr}{fd:Uq}{N ps:List Str}{k:Nat}{sp:Sp}(F:Fun K x qual st f fd)(S:FnScope N ps (cJ st))(len:∀ vs H Q E,sp vs H Q E->vs.length=ps.length)
  (hbody:∀ (cdv:Ru)(A:Sn)(outer:List Xk)(s:RC)(H:Hp)(vs:List V)(Q:VK)(E:XK),Room k (A.deeper (envOfC qual (cJ st) s.heap.objs.size f cdv))->sp vs H Q E->
   ∃ t,PSs (jN fE P w K mg base N qual (cJ st) f cdv A outer s H E).nox (fX st) t/\t { nx:=fun _ H'=>Q .non H',rt:=Q } (start N vs) H):FnOk P w K mg base fE (k+1) f fd ps sp:=by
 obtain ⟨oc,od,kV,doc,pm,an,cdv,ct,osl,rfl,lk,hcd⟩:=F.ex
 refine GJ lk hcd S len fun A outer s H vs Q E hr hsp=>?_
 obtain ⟨t,h,q⟩:=hbody cdv A outer s H vs Q E hr hsp
 exact ⟨t,h.nox,q⟩
theorem Fun.binds {x qual:Str}{st:Stmt}{f:Addr}{fd:Uq}{ps:List Str}(F:Fun K x qual st f fd)
  (h:∀ (kV doc pm:Ru)(an:Option Addr)(cdv ct:Ru)(us:List Ru),us.length=ps.length->YU (Um x qual (jO st) (fX st) (cJ st) .none kV doc pm an cdv ct) ⟨us,[]⟩=pure (ps.zip us)):Binds K fd ps []:=by
 obtain ⟨oc,od,kV,doc,pm,an,cdv,ct,osl,rfl,lk,hcd⟩:=F.ex
 exact .all (h kV doc pm an cdv ct)
theorem Hq {x qual:Str}{st:Stmt}{f:Addr}{oc:Ru}{od an:Option Addr}{osl:Array (Option Ru)}{kV doc pm cdv ct:Ru}(l:K.lookup f=some ⟨oc,od,.func (Um x qual (jO st) (fX st) (cJ st) .none kV doc pm an cdv ct),osl⟩)
  (c:WD K cdv qual=true)(k:TL K (.ref f)=true):Fun K x qual st f (Um x qual (jO st) (fX st) (cJ st) .none kV doc pm an cdv ct):=⟨⟨oc,od,kV,doc,pm,an,cdv,ct,osl,rfl,l,c⟩,k⟩
end
theorem Hr {A:Sn}{k:Nat}(hr:Room k A):A.units+1<TN:=Nat.lt_of_le_of_lt (Nat.add_le_add_left (by decide:1<=64) _) hr.units
section
variable {X:Cx}
end
theorem lB {A B:Prop}(h:B):if false=true then A else B:=by
 rw [if_neg RO]
 exact h
theorem lD {A B:Prop}(h:A):if true=true then A else B:=by
 rw [if_pos rfl]
 exact h
noncomputable def Same (H H':Hp):Prop:=∀ b o,H b=some o->H' b=some o
theorem Same.trans {H H1 H2:Hp}(a:Same H H1)(b:Same H1 H2):Same H H2:=fun c o h=>b c o (a c o h)
theorem Same.free {H H':Hp}(e:Same H H'){l:Addr}(h:H' l=a0E):H l=a0E:=by
 cases q:H l with
 | none=>rfl
 | some o=>
  rw [e l o q] at h
  cases h
theorem Same.seq {K:Rn}{H H':Hp}{a:Addr}{xs:List V}(e:Same H H')(h:SqL K H a xs):SqL K H' a xs:=by
 rcases h with (h|⟨o,h⟩)|h
 ·exact .inl (.inl (e _ _ h))
 ·exact .inl (.inr ⟨o,e _ _ h⟩)
 ·exact .inr h
section
variable {κ:Type} [DecidableEq κ]
end
end L2
namespace Lw
open PySem L2
noncomputable def aO (i:Nat):Stmt:=Tr.main.body.getD i (.Pass ⟨0,0,0,0⟩)
noncomputable def Vw:R8:={ Tr with main:={ Tr.main with body:=aO 1::aO 2::aO 3::aO 4::aO 5::aO 7::aO 8::aO 9::aO 10::aO 11::aO 12::aO 14::aO 15::aO 16::aO 17::aO 18::aO 19::aO 20::aO 22::aO 24::aO 25::aO 26::aO 27::aO 28::aO 29::aO 31::aO 32::aO 33::aO 34::aO 35::aO 36::aO 37::aO 38::aO 39::aO 40::aO 41::aO 42::aO 43::aO 44::aO 45::aO 46::aO 47::aO 48::aO 49::[] } }
noncomputable abbrev vS (x:String)(n:Nat):Ru:=Yr (UM x) n
noncomputable abbrev vI (i:Int):Ru:=VC i 0
noncomputable abbrev vR (a:Addr):Ru:=RJ a
noncomputable abbrev vN:Ru:=Sz
noncomputable abbrev kO (x y:String)(a b c:Nat)(l n i j k:Int)(r:Addr)(q:Int)(vs:Array Ru)(t l2:Int)(e:Nat):TK:={ cls:=T8 "code",data:=WU (#[vS x a,vS x b,vS y c,vI l,vI n,vI i,vI j,vI k,vR r,VD true,vI q]++vs++#[vI t,vI l2,vS y e]) }
noncomputable abbrev tO (fs:Array Ru):TK:={ cls:=T8 "tuple",data:=Xl fs }
noncomputable abbrev fO (x:Str)(n:Nat)(m:Ru)(c:Addr):TK:=⟨T8 "function",none,.func (Um x x (jO (aO n)) (fX (aO n)) (cJ (aO n)) Sz Sz Sz m none (RJ c) Sz),#[]⟩
noncomputable abbrev eO (P:Vp)(x:String)(n:Nat)(v:Ru):SV:={ hash:=PyData.keyHash P (UM x),key:=Yr (UM x) n,val:=v }
noncomputable abbrev eR (P:Vp)(x:String)(n:Nat)(a:Addr):SV:=eO P x n (vR a)
noncomputable abbrev kA (p:Addr×TK)(R:Rn):Rn:=p::R
noncomputable abbrev vM (n:Nat):Ru:=[vS "creasecourt.places" 289,vS "creasecourt.sheets" 334,vS "creasecourt.layings" 392,vS "creasecourt.piles" 401,vS "law_creasecourt_k63_marks_by_piles" 459].getD n vN
noncomputable abbrev kF (x:String)(r a:Nat)(l n:Int)(t i:Nat)(m:Ru)(R:Rn):Rn:=(r+5,kO x "/claim/cut.py" a (a+1) (a+2) l n 0 0 3 r 181 #[vR (r+1),vN,vR (r+2),vR (r+3),vR (r+4)] t l (t+1))::(r+6,fO x i m (r+5))::R
noncomputable abbrev kG (x:String)(r a:Nat)(l n:Int)(t i:Nat)(m:Ru)(R:Rn):Rn:=(r+3,kO x "/claim/cut.py" a (a+1) (a+2) l n 0 0 3 r 181 #[vR (r+1),vN,vN,vN,vR (r+2)] t l (t+1))::(r+4,fO x i m (r+3))::R
noncomputable def Kx:Vp → Rn:=fun P=>kA (3,{ cls:=T8 "dict",data:=a1Y #[eO P "__name__" 165 (vS "law_creasecourt_k63_marks_by_piles" 459),eO P "__doc__" 166 vN,eO P "__package__" 167 vN,eO P "__loader__" 168 (Value.builtin "__main__.__loader__#opaque"),eO P "__spec__" 169 vN,eR P "__annotations__" 170 6,eR P "__builtins__" 171 4,eO P "__file__" 173 (vS "/claim/cut.py" 172),eO P "__cached__" 174 vN,eR P "CreaseError" 206 24,eR P "NoSize" 222 37,eR P "NoMark" 238 49,eR P "NoEdge" 263 68,eR P "Twice" 288 87,eR P "is_whole" 297 96,eR P "is_place" 304 103,eR P "is_edge" 311 110,eR P "is_quarter" 318 117,eR P "beside" 327 124,eR P "sides_of" 333 129,eR P "MARKS" 339 130,eR P "is_size" 346 137,eR P "check_size" 354 144,eR P "is_mark" 361 151,eR P "is_within" 370 158,eR P "is_inner_edge" 379 165,eR P "sheet_of" 391 172,eR P "is_turned" 400 179,eR P "heights_in" 413 186,eR P "is_above" 422 193,eR P "turned_first" 431 200,eR P "mark_by_heights" 441 207,eR P "marks_by" 447 212,eR P "keeps" 458 219,eR P "_law_given" 469 226,eR P "_law_number" 478 233,eR P "_law_quarters" 489 240,eR P "_law_rims" 500 247,eR P "_law_beside" 509 254,eR P "_law_value" 519 261,eR P "_law_mirror" 528 268,eR P "_law_led" 544 275,eR P "_law_then" 565 282,eR P "_law_fold" 571 287,eR P "_law_grown" 591 294,eR P "_law_creased" 604 301,eR P "_law_ranks" 615 308,eR P "_law_marks" 637 315,eR P "_law_some_turned" 647 322,eR P "_law_handed" 661 329,eR P "_law_in_turn" 672 336,eR P "_law_told" 678 341,eR P "law" 684 346] 53 }) <|
 kF "is_whole" 90 291 19 1 295 7 (vM 0) <|
 kF "is_place" 97 298 21 1 302 8 (vM 0) <|
 kF "is_edge" 104 305 23 1 309 9 (vM 0) <|
 kF "is_quarter" 111 312 27 1 316 10 (vM 0) <|
 kF "beside" 118 319 31 1 325 11 (vM 0) <|
 kG "sides_of" 125 328 35 1 331 12 (vM 0) <|
 kA (130,tO #[vS "h" 336,vS "v" 337,vS "o" 338]) <|
 kF "is_size" 131 340 39 1 344 15 (vM 1) <|
 kF "check_size" 138 347 41 2 352 16 (vM 1) <|
 kF "is_mark" 145 355 44 1 359 17 (vM 1) <|
 kF "is_within" 152 362 46 3 368 18 (vM 1) <|
 kF "is_inner_edge" 159 371 48 3 377 19 (vM 1) <|
 kF "sheet_of" 166 380 50 3 389 20 (vM 1) <|
 kF "is_turned" 173 394 64 1 398 22 (vM 2) <|
 kF "heights_in" 180 403 67 1 411 24 (vM 3) <|
 kF "is_above" 187 414 73 3 420 25 (vM 3) <|
 kF "turned_first" 194 423 75 2 429 26 (vM 3) <|
 kF "mark_by_heights" 201 432 80 3 439 27 (vM 3) <|
 kG "marks_by" 208 442 83 3 445 28 (vM 3) <|
 kF "keeps" 213 448 86 3 456 29 (vM 3) <|
 kF "_law_given" 220 461 92 2 467 31 (vM 4) <|
 kF "_law_number" 227 470 97 2 476 32 (vM 4) <|
 kF "_law_quarters" 234 479 100 2 487 33 (vM 4) <|
 kF "_law_rims" 241 490 107 2 498 34 (vM 4) <|
 kF "_law_beside" 248 501 114 1 507 35 (vM 4) <|
 kF "_law_value" 255 510 121 2 517 36 (vM 4) <|
 kF "_law_mirror" 262 520 124 2 526 37 (vM 4) <|
 kF "_law_led" 269 529 127 2 542 38 (vM 4) <|
 kF "_law_then" 276 545 131 2 563 39 (vM 4) <|
 kG "_law_fold" 283 566 136 6 569 40 (vM 4) <|
 kF "_law_grown" 288 572 157 5 589 41 (vM 4) <|
 kF "_law_creased" 295 592 171 3 602 42 (vM 4) <|
 kF "_law_ranks" 302 605 178 1 613 43 (vM 4) <|
 kF "_law_marks" 309 616 184 4 635 44 (vM 4) <|
 kF "_law_some_turned" 316 638 193 2 645 45 (vM 4) <|
 kF "_law_handed" 323 648 201 2 659 46 (vM 4) <|
 kF "_law_in_turn" 330 662 214 2 670 47 (vM 4) <|
 kG "_law_told" 337 673 224 2 676 48 (vM 4) <|
 kG "law" 342 679 228 1 682 49 (vM 4) <| []
noncomputable def As:List Addr:=[3,95,96,102,103,109,110,116,117,123,124,128,129,130,136,137,143,144,150,151,157,158,164,165,171,172,178,179,185,186,192,193,199,200,206,207,211,212,218,219,225,226,232,233,239,240,246,247,253,254,260,261,267,268,274,275,281,282,286,287,293,294,300,301,307,308,314,315,321,322,328,329,335,336,340,341,345,346]
theorem oF:∀ P,As=(Kx P).map (·.1):=fun _=>by kernel_rfl
open PySem.W PyProof.Rows in
theorem run:LeftO (YC Tq).prog Vw [] (fun s=>xlAt Vw [] s&&recOk (a0O (ZP (YC Tq))) s) (Hook.obs (a1R Kx As oF)) (Hook.val (a1R Kx As oF)) 4880:=fun w=>by kernel_rfl
end Lw
set_option maxHeartbeats 4000000
namespace L3
open PySem
open PySem.SetTable (Probe Met Slot bits runEnd leap turns insertAt sizeAbove)
namespace Tb
noncomputable def lE (m:Nat)(p:Probe):Probe:=
 if p.more>0 then { p with j:=p.j+1,more:=p.more - 1 } else
 { p with j:=(leap m p.i p.perturb).1,more:=runEnd m (leap m p.i p.perturb).1 - (leap m p.i p.perturb).1,i:=(leap m p.i p.perturb).1,perturb:=(leap m p.i p.perturb).2 }
noncomputable def Hs (m:Nat)(b:Nat):Probe:={ j:=b % (m+1),more:=runEnd m (b % (m+1)) - b % (m+1),i:=b % (m+1),perturb:=b,dummy:=none }
noncomputable def cD (m b:Nat):Nat->Probe
 | 0=>Hs m b
 | k+1=>lE m (cD m b k)
noncomputable def lp (m b:Nat):Nat->Nat×Nat
 | 0=>(b % (m+1),b)
 | n+1=>leap m (lp m b n).1 (lp m b n).2
noncomputable def hd (m i q:Nat):Probe:={ j:=i,more:=runEnd m i - i,i:=i,perturb:=q,dummy:=none }
theorem oG {m b k i q:Nat}(h:cD m b k=hd m i q):∀ r,r<=runEnd m i - i->cD m b (k+r) = { j:=i+r,more:=runEnd m i - i - r,i:=i,perturb:=q,dummy:=none }
 | 0,_=>by rw [a1d,h];rfl
 | r+1,hr=>by
  have e:=oG h r (by omega)
  show lE m (cD m b (k+r))=_
  rw [e]
  unfold lE
  rw [if_pos (show runEnd m i - i - r>0 by omega)]
  show Probe.mk (i+r+1) (runEnd m i - i - r - 1) i q none=_
  rw [Nat.add_assoc,Nat.sub_sub]
theorem Ht {m b k i q:Nat}(h:cD m b k=hd m i q):cD m b (k+(runEnd m i - i)+1)=hd m (leap m i q).1 (leap m i q).2:=by
 have e:=oG h (runEnd m i - i) (RD _)
 show lE m (cD m b (k+(runEnd m i - i)))=_
 rw [e]
 unfold lE
 rw [if_neg (show ¬ (runEnd m i - i - (runEnd m i - i)>0) by omega)]
 rfl
noncomputable def nx (m i:Nat):Nat:=(i * 5+1) % (m+1)
noncomputable def AJ (m:Nat):Nat->Nat->Nat
 | 0,i=>i
 | n+1,i=>AJ m n (nx m i)
noncomputable def mN (m:Nat):Nat->Nat->Nat->Nat
 | 0,_,acc=>acc
 | f+1,i,acc=>mN m f (nx m i) (acc ||| (1 <<< i))
noncomputable def AK (m:Nat):Bool:=mN m (m+1) 0 0 == 2 ^ (m+1) - 1&&AJ m (m+1) 0 == 0
theorem Hu (m b:Nat):∀ n,(lp m b n).1<=m
 | 0=>Z2 (a1W _ (Xr _))
 | n+1=>Z2 (a1W _ (Xr _))
noncomputable def uC (m:Nat)(S:List Nat)(b j:Nat):Prop:=∃ k,(cD m b k).j=j/\∀ k',k'<k->(cD m b k').j∈S
theorem uD {xs:Array Nat}{j:Nat}(hr:∀ a b,a<b->b<xs.size->xs.getD a 0<xs.getD b 0):∀ (f lo hi:Nat),hi - lo<=f->lo<=hi->hi<=xs.size->(∀ i,i<lo->xs.getD i 0<j)->(∀ i,hi<=i->i<xs.size->j<=xs.getD i 0)->
  VM xs j f lo hi<=xs.size/\(∀ i,i<VM xs j f lo hi->xs.getD i 0<j)/\∀ i,VM xs j f lo hi<=i->i<xs.size->j<=xs.getD i 0
 | 0,lo,hi,hf,h1,h2,a,b=>by
  have e:lo=hi:=by omega
  show lo<=xs.size/\(∀ i,i<lo->_)/\∀ i,lo<=i->_
  exact ⟨by omega,a,by rw [e];exact b⟩
 | f+1,lo,hi,hf,h1,h2,a,b=>by
  unfold VM
  by_cases q:lo<hi
  ·rw [if_pos q]
   dsimp only
   have hm:(lo+hi) / 2<xs.size:=by omega
   have e:xs.getD ((lo+hi) / 2) j=xs.getD ((lo+hi) / 2) 0:=by simp [Ux,hm]
   rw [e]
   by_cases c:xs.getD ((lo+hi) / 2) 0<j
   ·rw [if_pos c]
    refine uD hr f _ _ (by omega) (by omega) h2 (fun i hi'=>?_) b
    rcases UP i ((lo+hi) / 2) with z|z
    ·exact Vy (hr _ _ z hm) c
    ·have:i=(lo+hi) / 2:=by omega
     rw [this];exact c
   ·rw [if_neg c]
    refine uD hr f _ _ (by omega) (by omega) (by omega) a fun i hi' hs=>?_
    rcases UP ((lo+hi) / 2) i with z|z
    ·have:=hr _ _ z hs;omega
    ·have:i=(lo+hi) / 2:=by omega
     rw [this];omega
  ·rw [if_neg q]
   exact ⟨by omega,a,fun i h hs=>b i (by omega) hs⟩
theorem AL {xs:Array Nat}(h:xs.toList.Pairwise (·<·)):∀ a b,a<b->b<xs.size->xs.getD a 0<xs.getD b 0:=fun a b hab hb=>by
 have:=TZ.mp h a b (by simpa using Vy hab hb) (by simpa using hb) hab
 simpa [Ux,hb,Vy hab hb] using this
theorem Hv {xs:Array Nat}(h:xs.toList.Pairwise (·<·))(j:Nat):VP xs j<=xs.size/\(∀ i,i<VP xs j->xs.getD i 0<j)/\∀ i,VP xs j<=i->i<xs.size->j<=xs.getD i 0:=
 uD (AL h) _ _ _ (by omega) (by omega) (RD _) (fun i z=>absurd z (VW _)) fun i z z2=>by omega
noncomputable abbrev mO:=Nat×Int×Ru
structure Ok (t:WL)(R:List mO):Prop where
 place:t.place.toList=R.map (·.1)
 dum:t.dummies = #[]
 rise:(R.map (·.1)).Pairwise (·<·)
 le:∀ r∈R,r.1<=t.mask
 cov:AK t.mask=true
 odd:t.mask % 2=1
 room:R.length<=t.mask
 road:∀ r∈R,uC t.mask (R.map (·.1)) (bits r.2.1) r.1
section
variable {t:WL}{R:List mO}
theorem Ok.size (o:Ok t R):t.place.size=R.length:=by
 have:=congrArg Ss o.place
 simpa using this
theorem Ok.uniq (o:Ok t R){r r':mO}(h:r∈R)(h':r'∈R)(e:r.1=r'.1):r=r':=by
 have p:=Xj.mp o.rise
 obtain ⟨i,hi,e1⟩:=Vd h
 obtain ⟨k,hk,e2⟩:=Vd h'
 rcases Wn i k with z|z|z
 ·have:=TZ.mp p i k hi hk z
  rw [e1,e2] at this;omega
 ·subst z;rw [<- e1,<- e2]
 ·have:=TZ.mp p k i hk hi z
  rw [e1,e2] at this;omega
theorem Ok.getD (o:Ok t R){i:Nat}(hi:i<R.length):t.place.getD i 0=(R[i]).1:=by
 have h:t.place.toList[i]? = (R.map (·.1))[i]?:=by rw [o.place]
 have hs:i<t.place.size:=by rw [o.size];exact hi
 simp [hi,hs] at h
 simp [Ux,hs,h]
theorem Ok.sorted (o:Ok t R):t.place.toList.Pairwise (·<·):=by rw [o.place];exact o.rise
theorem Hw (j:Nat):ZX #[] j=false:=by
 unfold ZX
 simp
theorem Ok.live (o:Ok t R){j:Nat}(h:j∈R.map (·.1)):∃ i r,t.slot j=.live i/\R[i]? = some r/\r.1=j:=by
 obtain ⟨r,hr,e⟩:=RG.mp h
 obtain ⟨i,hi,ei⟩:=Vd hr
 have b:=Hv o.sorted j
 have hp:t.place.getD i 0=j:=by rw [o.getD hi,ei];exact e
 have hs:i<t.place.size:=by rw [o.size];exact hi
 have e2:VP t.place j=i:=by
  rcases Wn (VP t.place j) i with z|z|z
  ·have h1:=b.2.2 _ (RD _) (by omega)
   have h2:=AL o.sorted _ _ z hs
   omega
  ·exact z
  ·have:=b.2.1 i z;omega
 refine ⟨i,r,?_,by rw [<- ei];exact RN hi,e⟩
 unfold ZF
 dsimp only
 rw [e2,if_pos]
 have:t.place[i]? = some j:=by
  rw [U9 hs]
  simpa [Ux,hs] using hp
 rw [this]
 exact beq_self_eq_true _
theorem Ok.empty (o:Ok t R){j:Nat}(h:j∉R.map (·.1)):t.slot j=.empty:=by
 unfold ZF
 dsimp only
 rw [if_neg,o.dum,Hw]
 ·rfl
 ·intro q
  rw [beq_iff_eq] at q
  apply h
  rw [<- o.place]
  exact Array.mem_toList_iff.mpr (Array.mem_of_getElem? q)
theorem AM (m b:Nat):∀ k,(cD m b k).dummy=none
 | 0=>rfl
 | k+1=>by
  show (lE m (cD m b k)).dummy=none
  unfold lE
  split<;>exact AM m b k
theorem Ok.go (o:Ok t R)(Yi:Nat->Int)(hh:∀ i r,R[i]? = some r->Yi i=r.2.1){h:Int}{K:Nat}(hK:(cD t.mask (bits h) K).j∉R.map (·.1))(hT:∀ k',k'<K->(cD t.mask (bits h) k').j∈R.map (·.1)) :
  ∀ (f k:Nat),k<=K->K<k+f->
   (VL t Yi h f (cD t.mask (bits h) k)=some (.empty (cD t.mask (bits h) K).j none)/\∀ k' r,k<=k'->k'<K->r∈R->r.1=(cD t.mask (bits h) k').j->r.2.1≠h) \/
   ∃ k' i r,k<=k'/\k'<K/\R[i]? = some r/\r.1=(cD t.mask (bits h) k').j/\r.2.1=h/\VL t Yi h f (cD t.mask (bits h) k)=some (.candidate (cD t.mask (bits h) k').j i (cD t.mask (bits h) (k'+1))) /\
    ∀ k'' r',k<=k''->k''<k'->r'∈R->r'.1=(cD t.mask (bits h) k'').j->r'.2.1≠h
 | 0,k,h1,h2=>by omega
 | f+1,k,h1,h2=>by
  rcases UP k K with z|z
  ·obtain ⟨i,r,e,er,ej⟩:=o.live (hT k z)
   have eg:VL t Yi h (f+1) (cD t.mask (bits h) k)=if Yi i == h then some (.candidate (cD t.mask (bits h) k).j i (cD t.mask (bits h) (k+1))) else VL t Yi h f (cD t.mask (bits h) (k+1)):=by
    show (match t.slot (cD t.mask (bits h) k).j with|.empty=>_|.dummy=>_|.live i=>_)=_
    rw [e]
    rfl
   rw [eg,hh i r er]
   have hrm:r∈R:=Sf er
   by_cases q:r.2.1=h
   ·refine .inr ⟨k,i,r,RD _,z,er,ej,q,?_,fun k'' r' a b=>by omega⟩
    rw [q,if_pos (beq_self_eq_true _)]
   ·rw [if_neg (by simpa using q)]
    have here:∀ r',r'∈R->r'.1=(cD t.mask (bits h) k).j->r'.2.1≠h:=fun r' hr' e'=>by
     rw [o.uniq hr' hrm (e'.trans ej.symm)];exact q
    rcases Ok.go o Yi hh hK hT f (k+1) z (by omega) with ⟨a,b⟩|⟨k',i',r',a1,a2,a3,a4,a5,a6,a7⟩
    ·refine .inl ⟨a,fun k' r' c1 c2 hr' e'=>?_⟩
     rcases UP k k' with y|y
     ·exact b k' r' y c2 hr' e'
     ·have:k'=k:=by omega
      subst this;exact here r' hr' e'
    ·refine .inr ⟨k',i',r',by omega,a2,a3,a4,a5,a6,fun k'' r'' c1 c2 hr' e'=>?_⟩
     rcases UP k k'' with y|y
     ·exact a7 k'' r'' y c2 hr' e'
     ·have:k''=k:=by omega
      subst this;exact here r'' hr' e'
  ·have:k=K:=by omega
   subst this
   refine .inl ⟨?_,fun k' r a b=>by omega⟩
   show (match t.slot (cD t.mask (bits h) k).j with|.empty=>_|.dummy=>_|.live i=>_)=_
   rw [o.empty hK]
   show some (Met.empty _ (cD t.mask (bits h) k).dummy)=_
   rw [AM]
end
noncomputable def lv (m:Nat)(ow:Array (Option Nat)):List (Nat×Nat):=(SG (m+1)).filterMap fun j=>(ow.getD j none).map (j,·)
theorem mem_lv {m:Nat}{ow:Array (Option Nat)}{j i:Nat}:(j,i)∈lv m ow↔j<=m/\ow.getD j none=some i:=by
 unfold lv
 rw [Vj]
 constructor
 ·rintro ⟨a,ha,e⟩
  rw [Rv] at e
  obtain ⟨b,e1,e2⟩:=e
  cases e2
  exact ⟨by simpa [a0s] using ha,e1⟩
 ·rintro ⟨h1,h2⟩
  exact ⟨j,by simpa [a0s] using h1,by rw [h2];rfl⟩
structure Ow (m:Nat)(ds:List Int)(ow:Array (Option Nat)):Prop where
 size:ow.size=m+1
 lt:∀ j i,ow.getD j none=some i->i<ds.length
 all:∀ i,i<ds.length->∃ j,ow.getD j none=some i
 inj:∀ j j' i,ow.getD j none=some i->ow.getD j' none=some i->j=j'
 road:∀ j i,ow.getD j none=some i->uC m ((lv m ow).map (·.1)) (bits (ds.getD i 0)) j
section
variable {m:Nat}{ds:List Int}{ow:Array (Option Nat)}
theorem Ow.le (o:Ow m ds ow){j i:Nat}(h:ow.getD j none=some i):j<=m:=by
 rcases UP j ow.size with z|z
 ·rw [o.size] at z;omega
 ·simp [Ux,U5.mpr z] at h
theorem Ow.taken (o:Ow m ds ow){j:Nat}(hj:j<=m):j∈(lv m ow).map (·.1)↔(ow.getD j (some 0)).isNone=false:=by
 have hs:j<ow.size:=by rw [o.size];omega
 have e:ow.getD j (some 0)=ow.getD j none:=by simp [Ux,hs]
 rw [e]
 constructor
 ·intro q
  obtain ⟨⟨a,i⟩,q2,rfl⟩:=RG.mp q
  rw [(mem_lv.mp q2).2];rfl
 ·intro q
  cases z:ow.getD j none with
  | none=>rw [z] at q;cases q
  | some i=>exact RG.mpr ⟨(j,i),mem_lv.mpr ⟨hj,z⟩,rfl⟩
theorem Ow.free (o:Ow m ds ow){b:Nat}:∀ (f n k0:Nat),cD m b k0=hd m (lp m b n).1 (lp m b n).2->(∀ k',k'<k0->(cD m b k').j∈(lv m ow).map (·.1))->(∃ N,n<=N/\N<n+f/\(lp m b N).1∉(lv m ow).map (·.1))->
  ∃ j,W4 m ow f (lp m b n).1 (lp m b n).2=some j/\j<=m/\j∉(lv m ow).map (·.1)/\uC m ((lv m ow).map (·.1)) b j
 | 0,n,k0,_,_,⟨N,h1,h2,_⟩=>by omega
 | f+1,n,k0,hk,ht,⟨N,h1,h2,hN⟩=>by
  have hi:=Hu m b n
  have hre:runEnd m (lp m b n).1<=m:=by unfold runEnd;split<;>omega
  have hri:(lp m b n).1<=runEnd m (lp m b n).1:=by unfold runEnd;split<;>omega
  unfold W4
  cases z:(SG (runEnd m (lp m b n).1+1 - (lp m b n).1)).find? fun k=>(ow.getD ((lp m b n).1+k) (some 0)).isNone with
  | some r=>
   rw [List.find?_range_eq_some] at z
   obtain ⟨z1,z2,z3⟩:=z
   rw [S9] at z2
   refine ⟨(lp m b n).1+r,rfl,by omega,fun q=>?_,k0+r,by rw [oG hk r (by omega)],fun k' hk'=>?_⟩
   ·rw [o.taken (by omega)] at q
    rw [q] at z1;cases z1
   ·rcases UP k' k0 with y|y
    ·exact ht k' y
    ·obtain ⟨d,rfl⟩:=YI y
     rw [oG hk d (by omega)]
     show (lp m b n).1+d∈_
     rw [o.taken (by omega)]
     have:=z3 d (by omega)
     simpa using this
  | none=>
   rw [List.find?_range_eq_none] at z
   have tk:∀ r,r<runEnd m (lp m b n).1+1 - (lp m b n).1->(lp m b n).1+r∈(lv m ow).map (·.1):=fun r hr=>by
    rw [o.taken (by omega)]
    have:=z r hr
    simpa using this
   have ne:N≠n:=fun e=>hN (by rw [e];exact tk 0 (by omega))
   refine Ow.free o f (n+1) _ (Ht hk) (fun k' hk'=>?_) ⟨N,by omega,by omega,hN⟩
   rcases UP k' k0 with y|y
   ·exact ht k' y
   ·obtain ⟨d,rfl⟩:=YI y
    rw [oG hk d (by omega)]
    exact tk d (by omega)
end
theorem Ow.nil (m:Nat):Ow m [] (XH (m+1) none):=by
 have e:∀ j,(XH (m+1) (none:Option Nat)).getD j none=none:=fun j=>by
  simp [Ux]
 have no:∀ {P:Prop}(j i:Nat),(XH (m+1) (none:Option Nat)).getD j none=some i->P:=fun j i h=>by
  rw [e] at h;exact nomatch h
 exact ⟨by simp,fun j i h=>no j i h,fun i h=>absurd h (VW _),fun j j' i h _=>no j i h,fun j i h=>no j i h⟩
end Tb
end L3
namespace L3
open PySem
open PySem.SetTable (Probe Met Slot bits runEnd leap turns insertAt sizeAbove)
namespace Tb
section
variable {prog:R8}{w:Sy}{K:Type} [DecidableEq K] {knd:KeyKind prog w K}{A:Sn}{E:Ru->RC->Prop}{s:RC}
theorem fits_of {t:WL}{R:List mO}{es:Array (Int×Ru)}(o:Ok t R)(he:es.toList=R.map (·.2)):t.fits es.size=true:=by
 have h1:es.size=R.length:=by simpa using congrArg Ss he
 have h2:=o.room
 unfold SetTable.fits SetTable.fill
 rw [o.size,h1,o.dum]
 simp;exact h2
end
section
variable {prog:R8}{w:Sy}{A:Sn}{E:Ru->RC->Prop}{s:RC}
noncomputable abbrev El:=List Int×Addr
noncomputable def hashT (k:List Int):Int:=reduceHash (a1g (k.map hashInt))
noncomputable def Hx (p:El):Int×Ru:=(hashT p.1,RJ p.2)
noncomputable def Msk (m:Nat):Prop:=m=7\/m=31\/m=127\/m=511
theorem Msk.cov {m:Nat}(h:Msk m):AK m=true:=by
 rcases h with rfl|rfl|rfl|rfl<;>decide +kernel
theorem Msk.odd {m:Nat}(h:Msk m):m % 2=1:=by
 rcases h with rfl|rfl|rfl|rfl<;>rfl
noncomputable def uE (w:Sy):Bool:=w.params.followText "set-order"
noncomputable def AN (led:Bool)(L:List El)(o:TK):Prop:=∃ es ep t R,o.ExactSet/\o.data=.set es ep t/\es.toList=R.map (·.2)/\Ok t R/\es.toList.Perm (L.map Hx)/\(L.map (·.1)).Nodup/\Msk t.mask/\L.length * 5<t.mask * 3/\t.plain=true/\t.led=led
noncomputable def SObj (L:List El)(o:TK):Prop:=∃ led,AN led L o
noncomputable def zS (prog:R8)(w:Sy)(h:SO)(a:Addr)(L:List El):Prop:=∃ o,h.get? a=some o/\AN (!uE w) L o/\∀ p∈L,IsTupleKey (Ut prog w) h p.1 p.2
end
end Tb
end L3
namespace L3
open PySem
namespace Tb
noncomputable def Hy (w:Sy)(t:WL):Nat->Nat
 | 0=>0
 | i+1=>if uE w then 0 else t.place.getD i 0+1
section
variable {prog:R8}{w:Sy}{A:Sn}{E:Ru->RC->Prop}{s:RC}
noncomputable def SIt (w:Sy)(h:SO)(I a:Addr)(t:WL)(i n ep:Nat):Prop:=∃ o,h.get? I=some o/\o.cls=.type "set_iterator"/\o.data=.fields #[Up (Hy w t i),Up i,.ref a,Up n,Up ep]
theorem SIt.ty {I a:Addr}{t:WL}{i n ep:Nat}(x:SIt w s.heap I a t i n ep):s.TypeIs (.ref I) "set_iterator":=let ⟨o,ho,hc,_⟩:=x;⟨o,ho,hc⟩
structure SAt (w:Sy)(h:SO)(a:Addr)(es:Array (Int×Ru))(ep:Nat)(t:WL)(R:List mO):Prop where
 at_:∃ o,h.get? a=some o/\o.cls=.type "set"/\o.data=.set es ep t
 he:es.toList=R.map (·.2)
 ok:Ok t R
 pl:t.plain=true
 led:t.led = !uE w
theorem SAt.ty {a:Addr}{es:Array (Int×Ru)}{ep:Nat}{t:WL}{R:List mO}(x:SAt w s.heap a es ep t R):s.TypeIs (.ref a) "set":=let ⟨o,ho,hc,_⟩:=x.at_;⟨o,ho,hc⟩
end
end Tb
end L3
namespace L3
open PySem L2
inductive D where
 | non|bl (b:Bool)|int (i:Int)|str (x:Str)|tup (xs:List D)|rol (xs:List D)|loc (a:Nat)|ty (n:String)
 deriving Inhabited
inductive C where
 | lst (xs:List D)
 | dK (kvs:List (a9×D))
 | st (ks:List (List Int))
 | dT (kvs:List (List Int×D))
 | dF (kvs:List (List Int×D))
 deriving Inhabited
noncomputable abbrev Hm:=List C
noncomputable abbrev aH:=List (Option D)
noncomputable abbrev ME:=aH->Hm->Option (D×Hm)
noncomputable abbrev MT:=aH->Hm->Option (Bool×Hm)
noncomputable abbrev MA:=aH->Hm->Option (List D×Hm)
inductive Fl where
 | nx|rt (d:D)|bk|ct
noncomputable abbrev MS:=aH->Hm->Option (Fl×aH×Hm)
noncomputable abbrev MF:=List D->Hm->Option (D×Hm)
noncomputable def RoL (K:Rn)(H:Hp)(p:Addr)(xs:List V):Prop:=
 (∃ o,H p=some (.frz o (.lst xs))) \/
  ∃ (o:TK)(its:Array Ru)(n:Nat),K.lookup p=some o/\o.cls=.type "list"/\o.dict=none/\o.data=.seq its n/\its.size<=RL/\Vals xs its.toList
theorem RoL.sq {K:Rn}{H:Hp}{p:Addr}{xs:List V}(h:RoL K H p xs):SqL K H p xs:=by
 rcases h with ⟨o,h⟩|h
 ·exact .inl (.inr ⟨o,h⟩)
 ·exact .inr h
mutual
inductive IsD (K:Rn)(π:Nat->Addr)(n:Nat)(H:Hp):V->D->Prop where
 | non:IsD K π n H .non .non
 | bl (b:Bool):IsD K π n H (.bl b) (.bl b)
 | int (i:Int):IsD K π n H (.int i) (.int i)
 | str (x:Str):IsD K π n H (.str x) (.str x)
 | tup {p:Addr}{vs:List V}{ds:List D}(h:SqT K H p vs)(t:IsDs K π n H vs ds):IsD K π n H (.ref p) (.tup ds)
 | rol {p:Addr}{vs:List V}{ds:List D}(h:RoL K H p vs)(t:IsDs K π n H vs ds):IsD K π n H (.ref p) (.rol ds)
 | loc {a:Nat}(h:a<n):IsD K π n H (.ref (π a)) (.loc a)
 | ty (x:String):IsD K π n H (.ty x) (.ty x)
inductive IsDs (K:Rn)(π:Nat->Addr)(n:Nat)(H:Hp):List V->List D->Prop where
 | nil:IsDs K π n H [] []
 | cons {v:V}{d:D}{vs:List V}{ds:List D}(h:IsD K π n H v d)(t:IsDs K π n H vs ds):IsDs K π n H (v::vs) (d::ds)
end
structure Ext (π:Nat->Addr)(n:Nat)(H:Hp)(π':Nat->Addr)(n':Nat)(H':Hp):Prop where
 le:n<=n'
 pi:∀ a,a<n->π' a=π a
 tup:∀ p vs,H p=some (.tup vs)->H' p=some (.tup vs)
 frz:∀ p o u,H p=some (.frz o u)->H' p=some (.frz o u)
structure Ext0 (π:Nat->Addr)(n:Nat)(H:Hp)(π':Nat->Addr)(n':Nat)(H':Hp):Prop where
 le:n<=n'
 pi:∀ a,a<n->π' a=π a
 tup:∀ p vs,H p=some (.tup vs)->H' p=some (.tup vs)
 frz:∀ p o u,(∀ φ,u≠HO.ext φ)->H p=some (.frz o u)->H' p=some (.frz o u)
section
variable {K:Rn}{π π' π2:Nat->Addr}{n n' n2:Nat}{H H' H2:Hp}
theorem Ext.weak (e:Ext π n H π' n' H'):Ext0 π n H π' n' H':=⟨e.le,e.pi,e.tup,fun p o u _ h=>e.frz p o u h⟩
theorem Ext.refl:Ext π n H π n H:=⟨RD _,fun _ _=>rfl,fun _ _ h=>h,fun _ _ _ h=>h⟩
theorem Ext.trans (a:Ext π n H π' n' H')(b:Ext π' n' H' π2 n2 H2):Ext π n H π2 n2 H2:=
 ⟨SQ a.le b.le,fun i h=>(b.pi i (Si h a.le)).trans (a.pi i h),fun p vs h=>b.tup p vs (a.tup p vs h),fun p o u h=>b.frz p o u (a.frz p o u h)⟩
theorem Ext0.sqT (e:Ext0 π n H π' n' H'){p:Addr}{vs:List V}(h:SqT K H p vs):SqT K H' p vs:=by
 rcases h with h|h
 ·rcases h with h|⟨o,h⟩
  ·exact .inl (.inl (e.tup _ _ h))
  ·exact .inl (.inr ⟨o,e.frz _ _ _ (fun _ z=>nomatch z) h⟩)
 ·exact .inr h
theorem Ext.sqT (e:Ext π n H π' n' H'){p:Addr}{vs:List V}(h:SqT K H p vs):SqT K H' p vs:=e.weak.sqT h
theorem Ext0.roL (e:Ext0 π n H π' n' H'){p:Addr}{vs:List V}(h:RoL K H p vs):RoL K H' p vs:=by
 rcases h with ⟨o,h⟩|h
 ·exact .inl ⟨o,e.frz _ _ _ (fun _ z=>nomatch z) h⟩
 ·exact .inr h
theorem Ext.roL (e:Ext π n H π' n' H'){p:Addr}{vs:List V}(h:RoL K H p vs):RoL K H' p vs:=e.weak.roL h
mutual
theorem IsD.mono0 {v:V}{d:D}(e:Ext0 π n H π' n' H'):IsD K π n H v d->IsD K π' n' H' v d
 | .non=>.non
 | .bl b=>.bl b
 | .int i=>.int i
 | .str x=>.str x
 | .ty x=>.ty x
 | .tup h t=>.tup (e.sqT h) (IsDs.mono0 e t)
 | .rol h t=>.rol (e.roL h) (IsDs.mono0 e t)
 | .loc h=>by
  rw [<- e.pi _ h]
  exact .loc (Si h e.le)
theorem IsDs.mono0 {vs:List V}{ds:List D}(e:Ext0 π n H π' n' H'):IsDs K π n H vs ds->IsDs K π' n' H' vs ds
 | .nil=>.nil
 | .cons h t=>.cons (IsD.mono0 e h) (IsDs.mono0 e t)
end
theorem IsD.mono {v:V}{d:D}(e:Ext π n H π' n' H')(h:IsD K π n H v d):IsD K π' n' H' v d:=h.mono0 e.weak
theorem IsDs.mono {vs:List V}{ds:List D}(e:Ext π n H π' n' H')(h:IsDs K π n H vs ds):IsDs K π' n' H' vs ds:=h.mono0 e.weak
theorem IsDs.length {vs:List V}{ds:List D}(h:IsDs K π n H vs ds):vs.length=ds.length:=by
 induction ds generalizing vs with
 | nil=>cases h;rfl
 | cons d ds ih=>
  cases h with
  | cons h t=>rw [SD,SD,ih t]
theorem IsDs.get {vs:List V}{ds:List D}(h:IsDs K π n H vs ds){i:Nat}{d:D}(e:ds[i]? = some d):∃ v,vs[i]? = some v/\IsD K π n H v d:=by
 induction ds generalizing vs i with
 | nil=>simp at e
 | cons d' ds ih=>
  cases h with
  | cons h t=>
   cases i with
   | zero=>
    simp at e
    subst e
    exact ⟨_,rfl,h⟩
   | succ i=>
    obtain ⟨v,h1,h2⟩:=ih t (by simpa using e)
    exact ⟨v,by simpa using h1,h2⟩
theorem IsDs.append {vs ws:List V}{ds es:List D}(h:IsDs K π n H vs ds)(h2:IsDs K π n H ws es):IsDs K π n H (vs++ws) (ds++es):=by
 induction ds generalizing vs with
 | nil=>cases h;exact h2
 | cons d ds ih=>
  cases h with
  | cons h t=>exact .cons h (ih t)
theorem IsDs.drop {vs:List V}{ds:List D}(h:IsDs K π n H vs ds)(k:Nat):IsDs K π n H (vs.drop k) (ds.drop k):=by
 induction ds generalizing vs k with
 | nil=>cases h;simpa using IsDs.nil
 | cons d ds ih=>
  cases h with
  | cons h t=>
   cases k with
   | zero=>exact .cons h t
   | succ k=>exact ih t k
theorem IsDs.take {vs:List V}{ds:List D}(h:IsDs K π n H vs ds)(k:Nat):IsDs K π n H (vs.take k) (ds.take k):=by
 induction ds generalizing vs k with
 | nil=>cases h;simpa using IsDs.nil
 | cons d ds ih=>
  cases h with
  | cons h t=>
   cases k with
   | zero=>exact .nil
   | succ k=>exact .cons h (ih t k)
theorem IsDs.atI {vs:List V}{ds:List D}(h:IsDs K π n H vs ds){i:Int}{d:D}(e:L2.atI ds i=some d):∃ v,L2.atI vs i=some v/\IsD K π n H v d:=by
 unfold L2.atI at e ⊢
 rw [h.length]
 cases q:fV ds.length i with
 | none=>rw [q] at e;cases e
 | some j=>
  rw [q] at e
  exact h.get e
end
noncomputable def qO (p:Addr)(L:List Tb.El):HO:=.ext fun h=>∃ o,h.get? p=some o/\Tb.SObj L o
noncomputable def oH (p:List Int×Addr×V)(w:Ru):SV:=⟨Tb.hashT p.1,.ref p.2.1,w⟩
noncomputable def aS (a:Addr)(ps:List (List Int×Addr×V)):HO:=.ext fun h=>∃ ws:List Ru,Vals (ps.map (·.2.2)) ws/\(a == SW)=false/\ps.length<=RL /\
 ∃ o es ep,h.get? a=some o/\o.ExactDict/\o.data=.dict es ep/\es.toList=VZ oH ps ws/\(ps.map (·.1)).Nodup
structure Rp (K:Rn)(π:Nat->Addr)(H:Hp)(μ:Hm):Prop where
 inj:∀ a b,a<μ.length->b<μ.length->π a=π b->a=b
 has:∀ a,a<μ.length->(H (π a)).isSome=true
 lst:∀ a xs,μ[a]? = some (.lst xs)->∃ vs,H (π a)=some (.lst vs)/\IsDs K π μ.length H vs xs
 dK:∀ a kvs,μ[a]? = some (.dK kvs)->∃ vs,H (π a)=some (.dK vs)/\vs.map (·.1)=kvs.map (·.1)/\IsDs K π μ.length H (vs.map (·.2)) (kvs.map (·.2))
 st:∀ a ks,μ[a]? = some (.st ks)->∃ L:List Tb.El,H (π a)=some (qO (π a) L)/\L.map (·.1)=ks/\IsDs K π μ.length H (L.map fun p=>V.ref p.2) (ks.map fun k=>D.tup (k.map D.int))
 dT:∀ a kvs,μ[a]? = some (.dT kvs)->∃ ps:List (List Int×Addr×V),H (π a)=some (aS (π a) ps)/\ps.map (·.1)=kvs.map (·.1)/\IsDs K π μ.length H (ps.map fun p=>V.ref p.2.1) (kvs.map fun k=>D.tup (k.1.map D.int))/\IsDs K π μ.length H (ps.map (·.2.2)) (kvs.map (·.2))
 dF:∀ a kvs,μ[a]? = some (.dF kvs)->∃ (ob:TK)(ps:List (List Int×Addr×V)),H (π a)=some (.frz ob (aS (π a) ps))/\ps.map (·.1)=kvs.map (·.1)/\IsDs K π μ.length H (ps.map fun p=>V.ref p.2.1) (kvs.map fun k=>D.tup (k.1.map D.int))/\IsDs K π μ.length H (ps.map (·.2.2)) (kvs.map (·.2))
structure En (K:Rn)(π:Nat->Addr)(n:Nat)(H:Hp)(σ:St)(ρ:aH):Prop where
 len:σ.length=ρ.length
 get:∀ (i:Nat)(d:D),ρ[i]? = some (some d)->∃ v,σ[i]? = some (some v)/\IsD K π n H v d
section
variable {K:Rn}{π π' π2:Nat->Addr}{n n' n2:Nat}{H H' H2:Hp}{μ μ':Hm}{σ:St}{ρ:aH}
theorem En.mono (E:En K π n H σ ρ)(e:Ext π n H π' n' H'):En K π' n' H' σ ρ:=
 ⟨E.len,fun i d h=>let ⟨v,h1,h2⟩:=E.get i d h;⟨v,h1,h2.mono e⟩⟩
theorem En.set (E:En K π n H σ ρ){v:V}{d:D}(h:IsD K π n H v d)(i:Nat):En K π n H (σ.set i (some v)) (ρ.set i (some d)):=by
 refine ⟨by rw [SE,SE];exact E.len,fun j d' e=>?_⟩
 rw [List.getElem?_set] at e ⊢
 by_cases hij:i=j
 ·subst hij
  rw [if_pos rfl] at e ⊢
  rw [E.len]
  by_cases hl:i<ρ.length
  ·rw [if_pos hl] at e ⊢
   cases e
   exact ⟨v,rfl,h⟩
  ·rw [if_neg hl] at e
   cases e
 ·rw [if_neg hij] at e ⊢
  exact E.get j d' e
theorem Rp.ne {p:Addr}(R:Rp K π H μ)(h:H p=none){a:Nat}(ha:a<μ.length):π a≠p:=fun e=>by
 have:=R.has a ha
 rw [e,h] at this
 cases this
theorem Rp.fresh {p:Addr}{o:HO}(R:Rp K π H μ)(h:H p=none):Ext π μ.length H π μ.length (aI H p o)/\Rp K π (aI H p o) μ:=by
 have keep:∀ b u,H b=some u->aI H p o b=some u:=fun b u e=>by
  rw [bA (dY e h)]
  exact e
 have e:Ext π μ.length H π μ.length (aI H p o):=⟨RD _,fun _ _=>rfl,fun q vs e=>keep q _ e,fun q o u e=>keep q _ e⟩
 refine ⟨e,R.inj,fun a ha=>?_,fun a xs ha=>?_,fun a kvs ha=>?_,fun a ks ha=>?_
  ,fun a kvs ha=>?_
  ,fun a kvs ha=>?_
  ⟩
 ·rw [bA (R.ne h ha)]
  exact R.has a ha
 ·obtain ⟨vs,h1,h2⟩:=R.lst a xs ha
  exact ⟨vs,keep _ _ h1,h2.mono e⟩
 ·obtain ⟨vs,h1,h2,h3⟩:=R.dK a kvs ha
  exact ⟨vs,keep _ _ h1,h2,h3.mono e⟩
 ·obtain ⟨vs,h1,h2,h3⟩:=R.st a ks ha
  exact ⟨vs,keep _ _ h1,h2,h3.mono e⟩
 ·obtain ⟨vs,h1,h2,h3,h4⟩:=R.dT a kvs ha
  exact ⟨vs,keep _ _ h1,h2,h3.mono e,h4.mono e⟩
 ·obtain ⟨ob,vs,h1,h2,h3,h4⟩:=R.dF a kvs ha
  exact ⟨ob,vs,keep _ _ h1,h2,h3.mono e,h4.mono e⟩
noncomputable def uF (K:Rn)(π:Nat->Addr)(n:Nat)(H:Hp)(p:Addr):C->HO->Prop
 | .lst xs,.lst vs=>IsDs K π n H vs xs
 | .dK kvs,.dK vs=>vs.map (·.1)=kvs.map (·.1)/\IsDs K π n H (vs.map (·.2)) (kvs.map (·.2))
 | .st ks,o=>∃ L:List Tb.El,o=qO p L/\L.map (·.1)=ks/\IsDs K π n H (L.map fun p=>V.ref p.2) (ks.map fun k=>D.tup (k.map D.int))
 | .dT kvs,o=>∃ ps:List (List Int×Addr×V),o=aS p ps/\ps.map (·.1)=kvs.map (·.1)/\IsDs K π n H (ps.map fun p=>V.ref p.2.1) (kvs.map fun k=>D.tup (k.1.map D.int))/\IsDs K π n H (ps.map (·.2.2)) (kvs.map (·.2))
 | .dF kvs,o=>∃ (ob:TK)(ps:List (List Int×Addr×V)),o=.frz ob (aS p ps)/\ps.map (·.1)=kvs.map (·.1)/\IsDs K π n H (ps.map fun p=>V.ref p.2.1) (kvs.map fun k=>D.tup (k.1.map D.int))/\IsDs K π n H (ps.map (·.2.2)) (kvs.map (·.2))
 | _,_=>False
noncomputable def gU (π:Nat->Addr)(n:Nat)(p:Addr):Nat->Addr:=fun a=>if a=n then p else π a
theorem Rp.alloc {p:Addr}{c:C}{o:HO}(R:Rp K π H μ)(h:H p=none)(hc:uF K π μ.length H p c o) :
  Ext π μ.length H (gU π μ.length p) (μ++[c]).length (aI H p o)/\Rp K (gU π μ.length p) (aI H p o) (μ++[c])/\gU π μ.length p μ.length=p:=by
 have hl:(μ++[c]).length=μ.length+1:=by simp
 have keep:∀ b u,H b=some u->aI H p o b=some u:=fun b u e=>by
  rw [bA (dY e h)]
  exact e
 have pn:gU π μ.length p μ.length=p:=if_pos rfl
 have po:∀ a,a<μ.length->gU π μ.length p a=π a:=fun a ha=>if_neg (RT ha)
 have e:Ext π μ.length H (gU π μ.length p) (μ++[c]).length (aI H p o):=⟨by rw [hl];exact Vo _,po,fun q vs e=>keep q _ e,fun q o u e=>keep q _ e⟩
 have split:∀ a,a<(μ++[c]).length->a<μ.length\/a=μ.length:=fun a ha=>by rw [hl] at ha;omega
 have get:∀ a,a<μ.length->(μ++[c])[a]? = μ[a]?:=fun a ha=>Sw ha
 have getn:(μ++[c])[μ.length]? = some c:=by simp
 refine ⟨e,⟨fun a b ha hb q=>?_,fun a ha=>?_,fun a xs ha=>?_,fun a kvs ha=>?_,fun a ks ha=>?_
  ,fun a kvs ha=>?_
  ,fun a kvs ha=>?_
  ⟩,pn⟩
 ·rcases split a ha with ha|rfl<;>rcases split b hb with hb|rfl
  ·rw [po a ha,po b hb] at q
   exact R.inj a b ha hb q
  ·rw [po a ha,pn] at q
   exact absurd q (R.ne h ha)
  ·rw [pn,po b hb] at q
   exact absurd q.symm (R.ne h hb)
  ·rfl
 ·rcases split a ha with ha|rfl
  ·rw [po a ha,bA (R.ne h ha)]
   exact R.has a ha
  ·rw [pn,cG]
   rfl
 ·have hlt:a<(μ++[c]).length:=(Rw.mp ha).1
  rcases split a hlt with h1|rfl
  ·rw [get a h1] at ha
   obtain ⟨vs,h2,h3⟩:=R.lst a xs ha
   rw [po a h1]
   exact ⟨vs,keep _ _ h2,h3.mono e⟩
  ·rw [getn] at ha
   cases ha
   cases o with
   | lst vs=>
    rw [pn]
    exact ⟨vs,cG,IsDs.mono e hc⟩
   | _=>exact T9 hc
 ·have hlt:a<(μ++[c]).length:=(Rw.mp ha).1
  rcases split a hlt with h1|rfl
  ·rw [get a h1] at ha
   obtain ⟨vs,h2,h3,h4⟩:=R.dK a kvs ha
   rw [po a h1]
   exact ⟨vs,keep _ _ h2,h3,h4.mono e⟩
  ·rw [getn] at ha
   cases ha
   cases o with
   | dK vs=>
    rw [pn]
    exact ⟨vs,cG,hc.1,IsDs.mono e hc.2⟩
   | _=>exact T9 hc
 ·have hlt:a<(μ++[c]).length:=(Rw.mp ha).1
  rcases split a hlt with h1|rfl
  ·rw [get a h1] at ha
   obtain ⟨vs,h2,h3,h4⟩:=R.st a ks ha
   rw [po a h1]
   exact ⟨vs,keep _ _ h2,h3,h4.mono e⟩
  ·rw [getn] at ha
   cases ha
   obtain ⟨L,rfl,h3,h4⟩:=hc
   rw [pn]
   exact ⟨L,cG,h3,h4.mono e⟩
 ·have hlt:a<(μ++[c]).length:=(Rw.mp ha).1
  rcases split a hlt with h1|rfl
  ·rw [get a h1] at ha
   obtain ⟨vs,h2,h3,h4,h5⟩:=R.dT a kvs ha
   rw [po a h1]
   exact ⟨vs,keep _ _ h2,h3,h4.mono e,h5.mono e⟩
  ·rw [getn] at ha
   cases ha
   obtain ⟨L,rfl,h3,h4,h5⟩:=hc
   rw [pn]
   exact ⟨L,cG,h3,h4.mono e,h5.mono e⟩
 ·have hlt:a<(μ++[c]).length:=(Rw.mp ha).1
  rcases split a hlt with h1|rfl
  ·rw [get a h1] at ha
   obtain ⟨ob,vs,h2,h3,h4,h5⟩:=R.dF a kvs ha
   rw [po a h1]
   exact ⟨ob,vs,keep _ _ h2,h3,h4.mono e,h5.mono e⟩
  ·rw [getn] at ha
   cases ha
   obtain ⟨ob,L,rfl,h3,h4,h5⟩:=hc
   rw [pn]
   exact ⟨ob,L,cG,h3,h4.mono e,h5.mono e⟩
theorem Rp.put0 {a:Nat}{c:C}{o u:HO}(R:Rp K π H μ)(ha:a<μ.length)(ho:H (π a)=some u)(hu:(∃ vs,u=.lst vs)\/(∃ vs,u=.dK vs)\/(∃ φ,u=.ext φ)\/∃ ob φ,u=.frz ob (.ext φ))(hc:uF K π μ.length H (π a) c o) :
  Ext0 π μ.length H π (μ.set a c).length (aI H (π a) o)/\Rp K π (aI H (π a) o) (μ.set a c):=by
 have hl:(μ.set a c).length=μ.length:=SE ..
 have e:Ext0 π μ.length H π (μ.set a c).length (aI H (π a) o):=by
  refine ⟨Xs hl.symm,fun _ _=>rfl,fun q vs z=>?_,fun q o' u' nx z=>?_⟩
  ·rw [bA]
   ·exact z
   ·intro e
    subst e
    rw [ho] at z
    rcases hu with ⟨w,rfl⟩|⟨w,rfl⟩|⟨w,rfl⟩|⟨ob,w,rfl⟩<;>cases z
  ·rw [bA]
   ·exact z
   ·intro e
    subst e
    rw [ho] at z
    rcases hu with ⟨w,rfl⟩|⟨w,rfl⟩|⟨w,rfl⟩|⟨ob,w,rfl⟩<;>cases z
    exact nx _ rfl
 have other:∀ b,b<μ.length->b≠a->aI H (π a) o (π b)=H (π b):=fun b hb hne=>bA fun q=>hne (R.inj b a hb ha q)
 refine ⟨e,⟨fun b b' hb hb'=>R.inj b b' (hl ▸ hb) (hl ▸ hb'),fun b hb=>?_,fun b xs hb=>?_,fun b kvs hb=>?_,fun b ks hb=>?_
  ,fun b kvs hb=>?_
  ,fun b kvs hb=>?_
  ⟩⟩
 ·by_cases h:b=a
  ·subst h
   rw [cG]
   rfl
  ·rw [other b (hl ▸ hb) h]
   exact R.has b (hl ▸ hb)
 ·have hlt:b<μ.length:=hl ▸ (Rw.mp hb).1
  by_cases h:b=a
  ·subst h
   rw [SA hlt] at hb
   cases hb
   cases o with
   | lst vs=>exact ⟨vs,cG,IsDs.mono0 e hc⟩
   | _=>exact T9 hc
  ·rw [Rz (So h)] at hb
   obtain ⟨vs,h2,h3⟩:=R.lst b xs hb
   exact ⟨vs,by rw [other b hlt h];exact h2,h3.mono0 e⟩
 ·have hlt:b<μ.length:=hl ▸ (Rw.mp hb).1
  by_cases h:b=a
  ·subst h
   rw [SA hlt] at hb
   cases hb
   cases o with
   | dK vs=>exact ⟨vs,cG,hc.1,IsDs.mono0 e hc.2⟩
   | _=>exact T9 hc
  ·rw [Rz (So h)] at hb
   obtain ⟨vs,h2,h3,h4⟩:=R.dK b kvs hb
   exact ⟨vs,by rw [other b hlt h];exact h2,h3,h4.mono0 e⟩
 ·have hlt:b<μ.length:=hl ▸ (Rw.mp hb).1
  by_cases h:b=a
  ·subst h
   rw [SA hlt] at hb
   cases hb
   obtain ⟨L,rfl,h3,h4⟩:=hc
   exact ⟨L,cG,h3,h4.mono0 e⟩
  ·rw [Rz (So h)] at hb
   obtain ⟨vs,h2,h3,h4⟩:=R.st b ks hb
   exact ⟨vs,by rw [other b hlt h];exact h2,h3,h4.mono0 e⟩
 ·have hlt:b<μ.length:=hl ▸ (Rw.mp hb).1
  by_cases h:b=a
  ·subst h
   rw [SA hlt] at hb
   cases hb
   obtain ⟨L,rfl,h3,h4,h5⟩:=hc
   exact ⟨L,cG,h3,h4.mono0 e,h5.mono0 e⟩
  ·rw [Rz (So h)] at hb
   obtain ⟨vs,h2,h3,h4,h5⟩:=R.dT b kvs hb
   exact ⟨vs,by rw [other b hlt h];exact h2,h3,h4.mono0 e,h5.mono0 e⟩
 ·have hlt:b<μ.length:=hl ▸ (Rw.mp hb).1
  by_cases h:b=a
  ·subst h
   rw [SA hlt] at hb
   cases hb
   obtain ⟨ob,L,rfl,h3,h4,h5⟩:=hc
   exact ⟨ob,L,cG,h3,h4.mono0 e,h5.mono0 e⟩
  ·rw [Rz (So h)] at hb
   obtain ⟨ob,vs,h2,h3,h4,h5⟩:=R.dF b kvs hb
   exact ⟨ob,vs,by rw [other b hlt h];exact h2,h3,h4.mono0 e,h5.mono0 e⟩
theorem Rp.put {a:Nat}{c:C}{o u:HO}(R:Rp K π H μ)(ha:a<μ.length)(ho:H (π a)=some u)(hu:(∃ vs,u=.lst vs)\/(∃ vs,u=.dK vs)\/∃ φ,u=.ext φ)(hc:uF K π μ.length H (π a) c o) :
  Ext π μ.length H π (μ.set a c).length (aI H (π a) o)/\Rp K π (aI H (π a) o) (μ.set a c):=by
 have hl:(μ.set a c).length=μ.length:=SE ..
 have e:Ext π μ.length H π (μ.set a c).length (aI H (π a) o):=by
  refine ⟨Xs hl.symm,fun _ _=>rfl,fun q vs z=>?_,fun q o' u' z=>?_⟩
  ·rw [bA]
   ·exact z
   ·intro e
    subst e
    rw [ho] at z
    rcases hu with ⟨w,rfl⟩|⟨w,rfl⟩|⟨w,rfl⟩<;>cases z
  ·rw [bA]
   ·exact z
   ·intro e
    subst e
    rw [ho] at z
    rcases hu with ⟨w,rfl⟩|⟨w,rfl⟩|⟨w,rfl⟩<;>cases z
 exact ⟨e,(R.put0 ha ho (hu.imp_right fun h=>h.imp_right .inl) hc).2⟩
end
noncomputable def KC (K:Rn)(Q:VK)(π:Nat->Addr)(n:Nat)(H:Hp)(d:D)(μ':Hm):Prop:=
 ∀ π' v H',Ext π n H π' μ'.length H'->Rp K π' H' μ'->IsD K π' μ'.length H' v d->Q v H'
theorem KC.after {K:Rn}{Q:VK}{π π1:Nat->Addr}{n n1:Nat}{H H1:Hp}{d:D}{μ':Hm}(k:KC K Q π n H d μ')(e:Ext π n H π1 n1 H1):KC K Q π1 n1 H1 d μ':=
 fun π' v H' e' R i=>k π' v H' (e.trans e') R i
noncomputable def tM (K:Rn)(m:ME):TE:=fun σ H Q=>∃ π ρ μ d μ',Rp K π H μ/\En K π μ.length H σ ρ/\m ρ μ=some (d,μ')/\KC K Q π μ.length H d μ'
noncomputable def cR (K:Rn)(m:MT):TT:=fun σ H Q=>∃ π ρ μ b μ',Rp K π H μ/\En K π μ.length H σ ρ/\m ρ μ=some (b,μ')/\∀ π' H',Ext π μ.length H π' μ'.length H'->Rp K π' H' μ'->Q b H'
noncomputable def eU (K:Rn)(m:MA):TA:=fun σ H Q=>∃ π ρ μ ds μ',Rp K π H μ/\En K π μ.length H σ ρ/\m ρ μ=some (ds,μ')/\∀ π' vs H',Ext π μ.length H π' μ'.length H'->Rp K π' H' μ'->IsDs K π' μ'.length H' vs ds->Q vs H'
noncomputable def mP (K:Rn)(E:Ends)(π:Nat->Addr)(n:Nat)(H:Hp)(fl:Fl)(ρ':aH)(μ':Hm):Prop:=
 match fl with
 | .nx=>∀ π' σ' H',Ext π n H π' μ'.length H'->Rp K π' H' μ'->En K π' μ'.length H' σ' ρ'->E.nx σ' H'
 | .bk=>∀ π' σ' H',Ext π n H π' μ'.length H'->Rp K π' H' μ'->En K π' μ'.length H' σ' ρ'->E.bk σ' H'
 | .ct=>∀ π' σ' H',Ext π n H π' μ'.length H'->Rp K π' H' μ'->En K π' μ'.length H' σ' ρ'->E.ct σ' H'
 | .rt d=>KC K E.rt π n H d μ'
noncomputable def cV (K:Rn)(m:MS):TS:=fun E σ H=>∃ π ρ μ fl ρ' μ',Rp K π H μ/\En K π μ.length H σ ρ/\m ρ μ=some (fl,ρ',μ')/\mP K E π μ.length H fl ρ' μ'
noncomputable def iR (K:Rn)(k:Nat)(f:MF):Sp:=fun vs H Q _=>vs.length=k/\∃ π ds μ d μ',Rp K π H μ/\IsDs K π μ.length H vs ds/\f ds μ=some (d,μ')/\KC K Q π μ.length H d μ'
section
variable {X:Cx}{e a b c:RI}{t:TE}{m ma mb mc:ME}{pos:TC}
theorem cM (h:PE X e t)(hw:∀ σ H Q,tM X.K m σ H Q->t σ H Q):PE X e (tM X.K m):=fun a1Z s σ H Q I q=>h a1Z s σ H Q I (hw σ H Q q)
theorem qP {t:TT}{m:MT}(h:PT X e t)(hw:∀ σ H Q,cR X.K m σ H Q->t σ H Q):PT X e (cR X.K m):=fun a1Z s σ H Q I q=>h a1Z s σ H Q I (hw σ H Q q)
theorem AO {t:TT}{m:MT}(h:PW X e t)(hw:∀ σ H Q,cR X.K m σ H Q->t σ H Q):PW X e (cR X.K m):=fun wh a1Z s σ H Q I q=>h wh a1Z s σ H Q I (hw σ H Q q)
theorem AQ {es:List RI}{t:TA}{m:MA}(h:PA X es t)(hw:∀ σ H Q,eU X.K m σ H Q->t σ H Q):PA X es (eU X.K m):=fun p a1Z s σ H Q I q=>h p a1Z s σ H Q I (hw σ H Q q)
theorem iS {st:Stmt}{t:TS}{m:MS}(h:PS X st t)(hw:∀ E σ H,cV X.K m E σ H->t E σ H):PS X st (cV X.K m):=fun a1Z s σ H E I q=>h a1Z s σ H E I (hw E σ H q)
theorem AR {st:List Stmt}{t:TS}{m:MS}(h:PSs X st t)(hw:∀ E σ H,cV X.K m E σ H->t E σ H):PSs X st (cV X.K m):=fun a1Z s σ H E I q=>h a1Z s σ H E I (hw E σ H q)
noncomputable def aA (i:Nat):ME:=fun ρ μ=>match ρ[i]? with|some (some d)=>some (d,μ)|_=>none
noncomputable def mC (d:D):ME:=fun _ μ=>some (d,μ)
theorem Hz {i:Nat}{ρ:aH}{μ μ':Hm}{d:D}(h:aA i ρ μ=some (d,μ')):ρ[i]? = some (some d)/\μ'=μ:=by
 unfold aA at h
 split at h
 ·rename_i d' e
  cases h
  exact ⟨e,rfl⟩
 ·cases h
theorem HA {x:Str}(i:Nat)(h:PE X (.Name x pos) (zQ i)):PE X (.Name x pos) (tM X.K (aA i)):=cM h (by
 rintro σ H Q ⟨π,ρ,μ,d,μ',R,E,hm,k⟩
 obtain ⟨h1,rfl⟩:=Hz hm
 obtain ⟨v,h2,h3⟩:=E.get i d h1
 exact ⟨v,h2,k π v H .refl R h3⟩)
theorem mQ {v:V}{d:D}(h:PE X e (tC v))(hd:∀ π n H,IsD X.K π n H v d):PE X e (tM X.K (mC d)):=cM h (by
 rintro σ H Q ⟨π,ρ,μ,d',μ',R,E,hm,k⟩
 cases hm
 exact k π v H .refl R (hd _ _ _))
theorem HB {i:Int}{j:Nat}:PE X (.Constant (.int i) j pos) (tM X.K (mC (.int i))):=mQ Fd fun _ _ _=>.int i
theorem HC {i:Bool}{j:Nat}:PE X (.Constant (.bool i) j pos) (tM X.K (mC (.bl i))):=mQ Fe fun _ _ _=>.bl i
theorem HD {i:Str}{j:Nat}:PE X (.Constant (.str i) j pos) (tM X.K (mC (.str i))):=mQ Fg fun _ _ _=>.str i
theorem HE {j:Nat}:PE X (.Constant .none j pos) (tM X.K (mC .non)):=mQ Ff fun _ _ _=>.non
noncomputable def aB (f:D->D->Hm->Option (D×Hm))(a b:ME):ME:=fun ρ μ=>(a ρ μ).bind fun p=>(b ρ p.2).bind fun q=>f p.1 q.1 q.2
noncomputable def cP (K:Rn)(f:D->D->Hm->Option (D×Hm))(r:R2):Prop:=
 ∀ π H μ x y d μ' vx vy Q,Rp K π H μ->IsD K π μ.length H vx x->IsD K π μ.length H vy y->f x y μ=some (d,μ')->KC K Q π μ.length H d μ'->r vx vy H Q
theorem oI {f:D->D->Hm->Option (D×Hm)}{r:R2}{K:Rn}(hf:cP K f r):∀ σ H Q,tM K (aB f ma mb) σ H Q->oE r (tM K ma) (tM K mb) σ H Q:=by
 rintro σ H Q ⟨π,ρ,μ,d,μ',R,E,hm,k⟩
 obtain ⟨⟨x,μ1⟩,h1,hm⟩:=Rl.mp hm
 obtain ⟨⟨y,μ2⟩,h2,hm⟩:=Rl.mp hm
 exact ⟨π,ρ,μ,x,μ1,R,E,h1,fun π1 v1 H1 e1 R1 i1=>⟨π1,ρ,μ1,y,μ2,R1,E.mono e1,h2,fun π2 v2 H2 e2 R2 i2=>hf π2 H2 μ2 x y d μ' v1 v2 Q R2 (i1.mono e2) i2 hm (k.after (e1.trans e2))⟩⟩
theorem HF {op:YY}{r:R2}{f:D->D->Hm->Option (D×Hm)}(ho:OpR X (UL op) r)(hf:cP X.K f r)(ha:PE X a (tM X.K ma))(hb:PE X b (tM X.K mb)):PE X (.BinOp a op b pos) (tM X.K (aB f ma mb)):=
 cM (Gd ho ha hb) (oI hf)
theorem fF {op:Vr}{r:R2}{f:D->D->Hm->Option (D×Hm)}(ho:OpR X (S4 op) r)(hf:cP X.K f r)(ha:PE X a (tM X.K ma))(hb:PE X b (tM X.K mb))(hm:U1 op b=false):PE X (.Compare a [op] [b] pos) (tM X.K (aB f ma mb)):=
 cM (Gk ho ha hb hm) (oI hf)
noncomputable def bD (m:ME):MT:=fun ρ μ=>(m ρ μ).bind fun p=>match p.1 with|.bl b=>some (b,p.2)|_=>none
theorem AS {K:Rn}:∀ σ H Q,cR K (bD m) σ H Q->tM K m σ H fun x H'=>∃ k,x=.bl k/\Q k H':=by
 rintro σ H Q ⟨π,ρ,μ,b,μ',R,E,hm,k⟩
 obtain ⟨⟨x,μ1⟩,h1,hm⟩:=Rl.mp hm
 cases x with
 | bl c=>
  cases hm
  refine ⟨π,ρ,μ,_,_,R,E,h1,fun π' v H' e' R' i'=>?_⟩
  cases i'
  exact ⟨_,rfl,k π' H' e' R'⟩
 | _=>cases hm
theorem fG {op:Vr}{r:R2}{f:D->D->Hm->Option (D×Hm)}(ho:OpR X (S4 op) r)(hf:cP X.K f r)(ha:PE X a (tM X.K ma))(hb:PE X b (tM X.K mb))(hm:U1 op b=false):PT X (.Compare a [op] [b] pos) (cR X.K (bD (aB f ma mb))):=
 qP (Gm ho ha hb hm) fun σ H Q h=>oI hf σ H _ (AS σ H Q h)
end
end L3
namespace L3
open PySem L2
section
variable {X:Cx}{e a b c:RI}{m ma mb mc:ME}{pos:TC}{mt mu:MT}{bN:List RI}
noncomputable def iF (a b:MT):MT:=fun ρ μ=>(a ρ μ).bind fun p=>match p.1 with|true=>b ρ p.2|false=>some (false,p.2)
noncomputable def iT (a b:MT):MT:=fun ρ μ=>(a ρ μ).bind fun p=>match p.1 with|true=>some (true,p.2)|false=>b ρ p.2
noncomputable def iG (a:MT):MT:=fun ρ μ=>(a ρ μ).map fun p=>(!p.1,p.2)
theorem HG (ha:PT X a (cR X.K mt)):PW X (.BoolOp .And [a] pos) (cR X.K mt):=Fo ha
theorem HH (ha:PT X a (cR X.K mt)):PW X (.BoolOp .Or [a] pos) (cR X.K mt):=Fp ha
theorem HJ (ha:PT X a (cR X.K mt))(hb:PW X (.BoolOp .And (b::bN) pos) (cR X.K mu)):PW X (.BoolOp .And (a::b::bN) pos) (cR X.K (iF mt mu)):=AO (Fq ha hb) (by
 rintro σ H Q ⟨π,ρ,μ,d,μ',R,E,hm,k⟩
 obtain ⟨⟨x,μ1⟩,h1,hm⟩:=Rl.mp hm
 refine ⟨π,ρ,μ,x,μ1,R,E,h1,fun π1 H1 e1 R1=>?_⟩
 cases x with
 | true=>
  refine lD ?_
  exact ⟨π1,ρ,μ1,d,μ',R1,E.mono e1,hm,fun π2 H2 e2 R2=>k π2 H2 (e1.trans e2) R2⟩
 | false=>
  refine lB ?_
  cases hm
  exact k π1 H1 e1 R1)
theorem HK (ha:PT X a (cR X.K mt))(hb:PW X (.BoolOp .Or (b::bN) pos) (cR X.K mu)):PW X (.BoolOp .Or (a::b::bN) pos) (cR X.K (iT mt mu)):=AO (Fs ha hb) (by
 rintro σ H Q ⟨π,ρ,μ,d,μ',R,E,hm,k⟩
 obtain ⟨⟨x,μ1⟩,h1,hm⟩:=Rl.mp hm
 refine ⟨π,ρ,μ,x,μ1,R,E,h1,fun π1 H1 e1 R1=>?_⟩
 cases x with
 | true=>
  refine lD ?_
  cases hm
  exact k π1 H1 e1 R1
 | false=>
  refine lB ?_
  exact ⟨π1,ρ,μ1,d,μ',R1,E.mono e1,hm,fun π2 H2 e2 R2=>k π2 H2 (e1.trans e2) R2⟩)
theorem HL (ha:PT X a (cR X.K mt)):PT X (.UnaryOp .Not a pos) (cR X.K (iG mt)):=qP (Ft ha) (by
 rintro σ H Q ⟨π,ρ,μ,d,μ',R,E,hm,k⟩
 obtain ⟨⟨x,μ1⟩,h1,hm⟩:=Rv.mp hm
 cases hm
 exact ⟨π,ρ,μ,x,μ1,R,E,h1,fun π1 H1 e1 R1=>k π1 H1 e1 R1⟩)
noncomputable def eJ (a b:ME):ME:=fun ρ μ=>(a ρ μ).bind fun p=>match p.1 with|.bl true=>b ρ p.2|.bl false=>some (.bl false,p.2)|_=>none
noncomputable def uG (a b:ME):ME:=fun ρ μ=>(a ρ μ).bind fun p=>match p.1 with|.bl true=>some (.bl true,p.2)|.bl false=>b ρ p.2|_=>none
noncomputable def mR (a:ME):ME:=fun ρ μ=>(a ρ μ).bind fun p=>match p.1 with|.bl b=>some (.bl (!b),p.2)|_=>none
theorem HM {op:BoolOp}(h:PE X a (tM X.K m)):PE X (.BoolOp op [a] pos) (tM X.K m):=Fx h
theorem HN (ha:PE X a (tM X.K ma))(hb:PE X (.BoolOp .And (b::bN) pos) (tM X.K mb)):PE X (.BoolOp .And (a::b::bN) pos) (tM X.K (eJ ma mb)):=cM (Fy ha hb) (by
 rintro σ H Q ⟨π,ρ,μ,d,μ',R,E,hm,k⟩
 obtain ⟨⟨x,μ1⟩,h1,hm⟩:=Rl.mp hm
 cases x with
 | bl c=>
  refine ⟨π,ρ,μ,.bl c,μ1,R,E,h1,fun π1 v1 H1 e1 R1 i1=>?_⟩
  cases i1
  refine ⟨c,rfl,?_⟩
  cases c with
  | true=>
   refine lD ?_
   exact ⟨π1,ρ,μ1,d,μ',R1,E.mono e1,hm,k.after e1⟩
  | false=>
   refine lB ?_
   cases hm
   exact k π1 _ H1 e1 R1 (.bl false)
 | _=>cases hm)
theorem HP (ha:PE X a (tM X.K ma))(hb:PE X (.BoolOp .Or (b::bN) pos) (tM X.K mb)):PE X (.BoolOp .Or (a::b::bN) pos) (tM X.K (uG ma mb)):=cM (Fz ha hb) (by
 rintro σ H Q ⟨π,ρ,μ,d,μ',R,E,hm,k⟩
 obtain ⟨⟨x,μ1⟩,h1,hm⟩:=Rl.mp hm
 cases x with
 | bl c=>
  refine ⟨π,ρ,μ,.bl c,μ1,R,E,h1,fun π1 v1 H1 e1 R1 i1=>?_⟩
  cases i1
  refine ⟨c,rfl,?_⟩
  cases c with
  | true=>
   refine lD ?_
   cases hm
   exact k π1 _ H1 e1 R1 (.bl true)
  | false=>
   refine lB ?_
   exact ⟨π1,ρ,μ1,d,μ',R1,E.mono e1,hm,k.after e1⟩
 | _=>cases hm)
theorem HQ (ha:PE X a (tM X.K ma)):PE X (.UnaryOp .Not a pos) (tM X.K (mR ma)):=cM (FA ha) (by
 rintro σ H Q ⟨π,ρ,μ,d,μ',R,E,hm,k⟩
 obtain ⟨⟨x,μ1⟩,h1,hm⟩:=Rl.mp hm
 cases x with
 | bl c=>
  cases hm
  refine ⟨π,ρ,μ,_,_,R,E,h1,fun π1 v1 H1 e1 R1 i1=>?_⟩
  cases i1
  exact ⟨_,rfl,k π1 _ H1 e1 R1 (.bl _)⟩
 | _=>cases hm)
noncomputable def fY (t:MT)(a b:ME):ME:=fun ρ μ=>(t ρ μ).bind fun p=>match p.1 with|true=>a ρ p.2|false=>b ρ p.2
theorem HR (hc:PT X c (cR X.K mt))(ha:PE X a (tM X.K ma))(hb:PE X b (tM X.K mb)):PE X (.IfExp c a b pos) (tM X.K (fY mt ma mb)):=cM (FD hc ha hb) (by
 rintro σ H Q ⟨π,ρ,μ,d,μ',R,E,hm,k⟩
 obtain ⟨⟨x,μ1⟩,h1,hm⟩:=Rl.mp hm
 refine ⟨π,ρ,μ,x,μ1,R,E,h1,fun π1 H1 e1 R1=>?_⟩
 cases x with
 | true=>
  refine lD ?_
  exact ⟨π1,ρ,μ1,d,μ',R1,E.mono e1,hm,k.after e1⟩
 | false=>
  refine lB ?_
  exact ⟨π1,ρ,μ1,d,μ',R1,E.mono e1,hm,k.after e1⟩)
noncomputable def aD:MA:=fun _ μ=>some ([],μ)
noncomputable def aC (a:ME)(r:MA):MA:=fun ρ μ=>(a ρ μ).bind fun p=>(r ρ p.2).bind fun q=>some (p.1::q.1,q.2)
variable {es:List RI}{ms:MA}
theorem HS:PA X [] (eU X.K aD):=AQ Gy (by
 rintro σ H Q ⟨π,ρ,μ,d,μ',R,E,hm,k⟩
 cases hm
 exact k π [] H .refl R .nil)
theorem HU (ha:PE X e (tM X.K m))(hr:PA X es (eU X.K ms))(hs:Sj (e::es) X.env=(false,eval e X.env)::Sj es X.env:=by rfl):PA X (e::es) (eU X.K (aC m ms)):=AQ (Gz ha hr hs) (by
 rintro σ H Q ⟨π,ρ,μ,d,μ',R,E,hm,k⟩
 obtain ⟨⟨x,μ1⟩,h1,hm⟩:=Rl.mp hm
 obtain ⟨⟨xs,μ2⟩,h2,hm⟩:=Rl.mp hm
 cases hm
 exact ⟨π,ρ,μ,x,μ1,R,E,h1,fun π1 v1 H1 e1 R1 i1=>⟨π1,ρ,μ1,xs,μ2,R1,E.mono e1,h2,fun π2 vs H2 e2 R2 i2=>k π2 _ H2 (e1.trans e2) R2 (.cons (i1.mono e2) i2)⟩⟩)
noncomputable def bV (ms:MA):ME:=fun ρ μ=>(ms ρ μ).bind fun p=>if p.1.length<=RL then some (.tup p.1,p.2) else none
noncomputable def cK (ms:MA):ME:=fun ρ μ=>(ms ρ μ).bind fun p=>if p.1.length<=RL then some (.loc p.2.length,p.2++[.lst p.1]) else none
theorem HV {x1:Nat}(h:PA X es (eU X.K ms)):PE X (.Tuple es x1 pos) (tM X.K (bV ms)):=cM (GC h) (by
 rintro σ H Q ⟨π,ρ,μ,d,μ',R,E,hm,k⟩
 obtain ⟨⟨xs,μ1⟩,h1,hm⟩:=Rl.mp hm
 split at hm
 ·rename_i hl
  cases hm
  refine ⟨π,ρ,μ,_,_,R,E,h1,fun π1 vs H1 e1 R1 i1=>⟨by rw [i1.length];exact hl,fun p hp=>?_⟩⟩
  obtain ⟨e2,R2⟩:=R1.fresh (o:=.tup vs) hp
  exact k π1 _ _ (e1.trans e2) R2 (.tup (.of cG) (i1.mono e2))
 ·cases hm)
theorem HW (h:PA X es (eU X.K ms)):PE X (.List es pos) (tM X.K (cK ms)):=cM (GD h) (by
 rintro σ H Q ⟨π,ρ,μ,d,μ',R,E,hm,k⟩
 obtain ⟨⟨xs,μ1⟩,h1,hm⟩:=Rl.mp hm
 split at hm
 ·rename_i hl
  cases hm
  refine ⟨π,ρ,μ,xs,μ1,R,E,h1,fun π1 vs H1 e1 R1 i1=>⟨by rw [i1.length];exact hl,fun p hp=>?_⟩⟩
  obtain ⟨e2,R2,q⟩:=R1.alloc (c:=.lst xs) (o:=.lst vs) hp i1
  have i2:IsD X.K (gU π1 μ1.length p) (μ1++[C.lst xs]).length (aI H1 p (.lst vs)) (.ref p) (.loc μ1.length):=by
   have:=IsD.loc (K:=X.K) (π:=gU π1 μ1.length p) (n:=(μ1++[C.lst xs]).length) (H:=aI H1 p (.lst vs)) (a:=μ1.length) (by simp)
   rw [q] at this
   exact this
  exact k _ _ _ (e1.trans e2) R2 i2
 ·cases hm)
noncomputable def aK (f:MF)(ms:MA):ME:=fun ρ μ=>(ms ρ μ).bind fun p=>f p.1 p.2
theorem HX {K:Rn}{f:MF}{n:Nat}{E:XK}(hn:∀ ρ μ ds μ',ms ρ μ=some (ds,μ')->ds.length=n):∀ σ H Q,tM K (aK f ms) σ H Q->t5 (iR K n f) [] E (eU K ms) σ H Q:=by
 rintro σ H Q ⟨π,ρ,μ,d,μ',R,E,hm,k⟩
 obtain ⟨⟨xs,μ1⟩,h1,hm⟩:=Rl.mp hm
 refine ⟨π,ρ,μ,xs,μ1,R,E,h1,fun π1 vs H1 e1 R1 i1=>?_⟩
 show iR K n f (vs++[]) H1 Q _
 rw [US]
 exact ⟨by rw [i1.length];exact hn ρ μ xs μ1 h1,π1,xs,μ1,d,μ',R1,i1,hm,k.after e1⟩
theorem HY:∀ ρ μ ds μ',aD ρ μ=some (ds,μ')->ds.length=0:=by
 intro ρ μ ds μ' h
 cases h
 rfl
theorem HZ {n:Nat}(h:∀ ρ μ ds μ',ms ρ μ=some (ds,μ')->ds.length=n):∀ ρ μ ds μ',aC m ms ρ μ=some (ds,μ')->ds.length=n+1:=by
 intro ρ μ ds μ' hm
 obtain ⟨⟨x,μ1⟩,h1,hm⟩:=Rl.mp hm
 obtain ⟨⟨xs,μ2⟩,h2,hm⟩:=Rl.mp hm
 cases hm
 rw [SD,h ρ μ1 xs _ h2]
theorem Ia {k:Nat}{f:Addr}{fd:Uq}{ps:List Str}{fm:MF}{x:Str}{p:TC}{n:Nat}(F:FnOk X.prog X.w X.K X.mg X.base fE k f fd ps (iR X.K n fm))(hr:Room k X.A)(hg:Gl X x)(hm:X.mg x=some (.ref f))
  (hk:TL X.K (.ref f)=true)(hb:Binds X.K fd ps [])(ha:PA X (e::es) (eU X.K ms))(hn:∀ ρ μ ds μ',ms ρ μ=some (ds,μ')->ds.length=n)(hdb:(x == ("__debug__":Str))=false:=by decide)
  (he:Sj (e::es) X.env=(false,eval e X.env)::Sj es X.env:=by rfl)(hpl:(Uz pos (Sj es X.env)).any (·.1)=false:=by rfl) :
  PE X (.Call (.Name x p) (e::es) [] pos) (tM X.K (aK fm ms)):=
 cM (GF F hr hg hm hk hb .nil (E:=E0) AI ha hdb he hpl) (HX hn)
noncomputable def dA (K:Rn)(f:MF)(r:List V->Hp->VK->Prop):Prop:=
 ∀ π H μ xs d μ' vs Q,Rp K π H μ->IsDs K π μ.length H vs xs->f xs μ=some (d,μ')->KC K Q π μ.length H d μ'->r vs H Q
theorem uH {K:Rn}{f:MF}{r:List V->Hp->VK->Prop}(hf:dA K f r):∀ σ H Q,tM K (aK f ms) σ H Q->qL r (eU K ms) σ H Q:=by
 rintro σ H Q ⟨π,ρ,μ,d,μ',R,E,hm,k⟩
 obtain ⟨⟨xs,μ1⟩,h1,hm⟩:=Rl.mp hm
 exact ⟨π,ρ,μ,xs,μ1,R,E,h1,fun π1 vs H1 e1 R1 i1=>hf π1 H1 μ1 xs d μ' vs Q R1 i1 hm (k.after e1)⟩
theorem Ib {f:MF}{r:List V->Hp->VK->Prop}{id:String}{x:Str}{p:TC}(hc:CallR X (.builtin id) r)(hf:dA X.K f r)(hg:Gl X x)(hm:X.mg x=none)(hv:Tz x=some (.builtin id))(ha:PA X (e::es) (eU X.K ms))
  (hn:x ≠ "__name__":=by decide) (hdb:(x == ("__debug__":Str))=false:=by decide)
  (he:Sj (e::es) X.env=(false,eval e X.env)::Sj es X.env:=by rfl)(hpl:(Uz pos (Sj es X.env)).any (·.1)=false:=by rfl):PE X (.Call (.Name x p) (e::es) [] pos) (tM X.K (aK f ms)):=
 cM (GK hc hg hm hv ha hn hdb he hpl) (uH hf)
theorem Ic {f:MF}{r:List V->Hp->VK->Prop}{T:String}{x:Str}{p:TC}(hc:CallR X (.type T) r)(hf:dA X.K f r)(hg:Gl X x)(hm:X.mg x=none)(hv:Tz x=some (.type T))(ha:PA X (e::es) (eU X.K ms))
  (hn:x ≠ "__name__":=by decide) (hdb:(x == ("__debug__":Str))=false:=by decide)
  (he:Sj (e::es) X.env=(false,eval e X.env)::Sj es X.env:=by rfl)(hpl:(Uz pos (Sj es X.env)).any (·.1)=false:=by rfl):PE X (.Call (.Name x p) (e::es) [] pos) (tM X.K (aK f ms)):=
 cM (GL hc hg hm hv ha hn hdb he hpl) (uH hf)
noncomputable def bJ (μ:Hm):D->Option (List D)
 | .tup xs=>some xs
 | .rol xs=>some xs
 | .loc a=>match μ[a]? with|some (.lst xs)=>some xs|_=>none
 | _=>none
noncomputable def fZ:D->D->Hm->Option (D×Hm)
 | .str z,.int i,μ=>if z.length<=RL then (atI z.cps.toList i).map fun c=>(.str ⟨#[c]⟩,μ) else none
 | x,.int i,μ=>(bJ μ x).bind fun xs=>(atI xs i).map fun d=>(d,μ)
 | _,_,_=>none
theorem Ie {K:Rn}:cP K fZ (Ar K):=by
 intro π H μ x y d μ' vx vy Q R ix iy hm k
 cases iy with
 | int i=>
  cases ix with
  | str z=>
   simp only [fZ] at hm
   split at hm
   ·rename_i hl
    obtain ⟨c,h1,h2⟩:=Rv.mp hm
    cases h2
    exact .inr (.inr ⟨z,i,c,rfl,rfl,hl,h1,k π _ H .refl R (.str _)⟩)
   ·cases hm
  | tup h t=>
   simp only [fZ,bJ,R6] at hm
   obtain ⟨d',h1,h2⟩:=Rv.mp hm
   cases h2
   obtain ⟨v,h3,h4⟩:=t.atI h1
   exact .inr (.inl ⟨_,_,i,v,rfl,rfl,h,h3,k π _ H .refl R h4⟩)
  | rol h t=>
   simp only [fZ,bJ,R6] at hm
   obtain ⟨d',h1,h2⟩:=Rv.mp hm
   cases h2
   obtain ⟨v,h3,h4⟩:=t.atI h1
   exact .inl ⟨_,_,i,v,rfl,rfl,h.sq,h3,k π _ H .refl R h4⟩
  | @loc a ha=>
   simp only [fZ,bJ] at hm
   split at hm
   ·rename_i xs hx
    simp only [R6] at hm
    obtain ⟨d',h1,h2⟩:=Rv.mp hm
    cases h2
    obtain ⟨vs,h5,h6⟩:=R.lst a xs hx
    obtain ⟨v,h3,h4⟩:=h6.atI h1
    exact .inl ⟨_,_,i,v,rfl,rfl,.of h5,h3,k π _ H .refl R h4⟩
   ·cases hm
  | _=>simp [fZ,bJ] at hm
 | _=>cases ix<;>simp [fZ] at hm
theorem Ig (ha:PE X a (tM X.K ma))(hb:PE X b (tM X.K mb))(hs:t9 b):PE X (.Subscript a b pos) (tM X.K (aB fZ ma mb)):=cM (G7 G9 ha hb hs) (oI Ie)
noncomputable def oJ (xs:List D)(lo hi:Option Int):List D:=(xs.drop (HT.sIx xs.length 0 lo)).take (HT.sIx xs.length xs.length hi - HT.sIx xs.length 0 lo)
noncomputable abbrev MO:=aH->Hm->Option (Option Int×Hm)
noncomputable def mS:MO:=fun _ μ=>some (none,μ)
noncomputable def mT (m:ME):MO:=fun ρ μ=>(m ρ μ).bind fun p=>match p.1 with|.int i=>some (some i,p.2)|_=>none
noncomputable def oK (K:Rn)(m:MO):TO:=fun σ H Q=>∃ π ρ μ o μ',Rp K π H μ/\En K π μ.length H σ ρ/\m ρ μ=some (o,μ')/\∀ π' H',Ext π μ.length H π' μ'.length H'->Rp K π' H' μ'->Q o H'
theorem Ih:PO X none (oK X.K mS):=fun a1Z s σ H Q I q=>GY a1Z s σ H Q I (by
 obtain ⟨π,ρ,μ,o,μ',R,E,hm,k⟩:=q
 cases hm
 exact k π H .refl R)
theorem Ii (h:PE X e (tM X.K m)):PO X (some e) (oK X.K (mT m)):=fun a1Z s σ H Q I q=>G0 h a1Z s σ H Q I (by
 obtain ⟨π,ρ,μ,o,μ',R,E,hm,k⟩:=q
 obtain ⟨⟨x,μ1⟩,h1,hm⟩:=Rl.mp hm
 cases x with
 | int i=>
  cases hm
  refine ⟨π,ρ,μ,_,_,R,E,h1,fun π1 v1 H1 e1 R1 i1=>?_⟩
  cases i1
  exact ⟨_,rfl,k π1 H1 e1 R1⟩
 | _=>cases hm)
noncomputable abbrev AU (K:Rn):V->Option Int->Option Int->Hp->VK->Prop:=uA K
theorem Ij {X:Cx}:SlR X (AU X.K):=He
theorem AV {K:Rn}{x:V}{lo hi:Option Int}{H:Hp}{Q:VK}(h:uA K x lo hi H Q):AU K x lo hi H Q:=h
noncomputable def uI (a:ME)(lo hi:MO):ME:=fun ρ μ=>(a ρ μ).bind fun p=>(lo ρ p.2).bind fun q=>(hi ρ q.2).bind fun r=>
 match p.1 with
 | .tup _=>none
 | x=>(bJ r.2 x).bind fun xs=>some (.loc r.2.length,r.2++[.lst (oJ xs q.1 r.1)])
theorem AW {K:Rn}{π:Nat->Addr}{n:Nat}{H:Hp}{vs:List V}{ds:List D}(h:IsDs K π n H vs ds)(lo hi:Option Int):IsDs K π n H (kB vs lo hi) (oJ ds lo hi):=by
 unfold kB oJ
 rw [h.length]
 exact (h.drop _).take _
theorem gW {K:Rn}{π:Nat->Addr}{μ:Hm}{p:Addr}{c:C}{H:Hp}:IsD K (gU π μ.length p) (μ++[c]).length H (.ref p) (.loc μ.length):=by
 have:=IsD.loc (K:=K) (π:=gU π μ.length p) (n:=(μ++[c]).length) (H:=H) (a:=μ.length) (by simp)
 rw [show gU π μ.length p μ.length=p from if_pos rfl] at this
 exact this
theorem Ik {lo hi:Option RI}{ml mh:MO}{p2:TC}(ha:PE X a (tM X.K ma))(hl:PO X lo (oK X.K ml))(hu:PO X hi (oK X.K mh)):PE X (.Subscript a (.Slice lo hi none p2) pos) (tM X.K (uI ma ml mh)):=cM (G4 Ij ha hl hu) (by
 rintro σ H Q ⟨π,ρ,μ,d,μ',R,E,hm,k⟩
 obtain ⟨⟨x,μ1⟩,h1,hm⟩:=Rl.mp hm
 obtain ⟨⟨l,μ2⟩,h2,hm⟩:=Rl.mp hm
 obtain ⟨⟨u,μ3⟩,h3,hm⟩:=Rl.mp hm
 refine ⟨π,ρ,μ,x,μ1,R,E,h1,fun π1 v1 H1 e1 R1 i1=>⟨π1,ρ,μ1,l,μ2,R1,E.mono e1,h2,fun π2 H2 e2 R2=>⟨π2,ρ,μ2,u,μ3,R2,(E.mono e1).mono e2,h3,fun π3 H3 e3 R3=>?_⟩⟩⟩
 have i3:=(i1.mono e2).mono e3
 cases i3 with
 | rol h t=>
  simp only [bJ,R6] at hm
  cases hm
  refine AV ⟨_,_,rfl,h.sq,fun p hp=>?_⟩
  obtain ⟨e4,R4,q⟩:=R3.alloc (c:=.lst (oJ _ l u)) (o:=.lst (kB _ l u)) hp (AW t l u)
  exact k _ _ _ (((e1.trans e2).trans e3).trans e4) R4 gW
 | @loc i hi'=>
  simp only [bJ] at hm
  split at hm
  ·rename_i xs hx
   simp only [R6] at hm
   cases hm
   obtain ⟨vs,h5,h6⟩:=R3.lst i xs hx
   refine AV ⟨_,_,rfl,.of h5,fun p hp=>?_⟩
   obtain ⟨e4,R4,q⟩:=R3.alloc (c:=.lst (oJ xs l u)) (o:=.lst (kB vs l u)) hp (AW h6 l u)
   exact k _ _ _ (((e1.trans e2).trans e3).trans e4) R4 gW
  ·cases hm
 | tup h t=>simp at hm
 | _=>simp [bJ] at hm)
end
section
variable {X:Cx}{e a b c:RI}{m:ME}{pos:TC}{mt:MT}{st:Stmt}{bN body orelse:List Stmt}{ms mr mu:MS}
noncomputable def bY:MS:=fun ρ μ=>some (.nx,ρ,μ)
noncomputable def aG (a b:MS):MS:=fun ρ μ=>(a ρ μ).bind fun p=>match p.1 with|.nx=>b p.2.1 p.2.2|_=>some p
noncomputable def bE (m:ME):MS:=fun ρ μ=>(m ρ μ).map fun p=>(.rt p.1,ρ,p.2)
noncomputable def eV (m:ME):MS:=fun ρ μ=>(m ρ μ).map fun p=>(.nx,ρ,p.2)
noncomputable def bS (t:MT)(a b:MS):MS:=fun ρ μ=>(t ρ μ).bind fun p=>match p.1 with|true=>a ρ p.2|false=>b ρ p.2
noncomputable def aZ (i:Nat)(m:ME):MS:=fun ρ μ=>(m ρ μ).map fun p=>(.nx,ρ.set i (some p.1),p.2)
theorem Il:PSs X [] (cV X.K bY):=AR FG (by
 rintro E σ H ⟨π,ρ,μ,fl,ρ',μ',R,EN,hm,k⟩
 cases hm
 exact k π σ H .refl R EN)
theorem Im (h1:PS X st (cV X.K ms))(h2:PSs X bN (cV X.K mr)):PSs X (st::bN) (cV X.K (aG ms mr)):=AR (FH h1 h2) (by
 rintro E σ H ⟨π,ρ,μ,fl,ρ',μ',R,EN,hm,k⟩
 obtain ⟨⟨f1,ρ1,μ1⟩,h1,hm⟩:=Rl.mp hm
 refine ⟨π,ρ,μ,f1,ρ1,μ1,R,EN,h1,?_⟩
 cases f1 with
 | nx=>
  intro π1 σ1 H1 e1 R1 E1
  refine ⟨π1,ρ1,μ1,fl,ρ',μ',R1,E1,hm,?_⟩
  cases fl with
  | nx=>exact fun π2 σ2 H2 e2 R2 E2=>k π2 σ2 H2 (e1.trans e2) R2 E2
  | bk=>exact fun π2 σ2 H2 e2 R2 E2=>k π2 σ2 H2 (e1.trans e2) R2 E2
  | ct=>exact fun π2 σ2 H2 e2 R2 E2=>k π2 σ2 H2 (e1.trans e2) R2 E2
  | rt d=>exact KC.after k e1
 | rt d=>cases hm;exact k
 | bk=>cases hm;exact k
 | ct=>cases hm;exact k)
theorem Io (h1:PS X st (cV X.K ms)):PSs X [st] (cV X.K ms):=FI h1
theorem Ip:PS X (.Pass pos) (cV X.K bY):=iS FJ (by
 rintro E σ H ⟨π,ρ,μ,fl,ρ',μ',R,EN,hm,k⟩
 cases hm
 exact k π σ H .refl R EN)
theorem Iq (he:PE X e (tM X.K m)):PS X (.Return (some e) pos) (cV X.K (bE m)):=iS (FP he) (by
 rintro E σ H ⟨π,ρ,μ,fl,ρ',μ',R,EN,hm,k⟩
 obtain ⟨⟨x,μ1⟩,h1,hm⟩:=Rv.mp hm
 cases hm
 exact ⟨π,ρ,μ,x,μ1,R,EN,h1,k⟩)
theorem Ir (he:PE X e (tM X.K m))(hs:VR e none pos.line X.env=pure false:=by rfl):PS X (.Expr e pos) (cV X.K (eV m)):=iS (FL he hs) (by
 rintro E σ H ⟨π,ρ,μ,fl,ρ',μ',R,EN,hm,k⟩
 obtain ⟨⟨x,μ1⟩,h1,hm⟩:=Rv.mp hm
 cases hm
 exact ⟨π,ρ,μ,x,μ1,R,EN,h1,fun π1 v1 H1 e1 R1 i1=>k π1 σ H1 e1 R1 (EN.mono e1)⟩)
theorem Iu (hc:PT X c (cR X.K mt))(ha:PSs X body (cV X.K ms))(hb:PSs X orelse (cV X.K mu)):PS X (.If c body orelse pos) (cV X.K (bS mt ms mu)):=iS (FU hc ha hb) (by
 rintro E σ H ⟨π,ρ,μ,fl,ρ',μ',R,EN,hm,k⟩
 obtain ⟨⟨x,μ1⟩,h1,hm⟩:=Rl.mp hm
 refine ⟨π,ρ,μ,x,μ1,R,EN,h1,fun π1 H1 e1 R1=>?_⟩
 have k':mP X.K E π1 μ1.length H1 fl ρ' μ':=by
  cases fl with
  | nx=>exact fun π2 σ2 H2 e2 R2 E2=>k π2 σ2 H2 (e1.trans e2) R2 E2
  | bk=>exact fun π2 σ2 H2 e2 R2 E2=>k π2 σ2 H2 (e1.trans e2) R2 E2
  | ct=>exact fun π2 σ2 H2 e2 R2 E2=>k π2 σ2 H2 (e1.trans e2) R2 E2
  | rt d=>exact KC.after k e1
 cases x with
 | true=>
  refine lD ?_
  exact ⟨π1,ρ,μ1,fl,ρ',μ',R1,EN.mono e1,hm,k'⟩
 | false=>
  refine lB ?_
  exact ⟨π1,ρ,μ1,fl,ρ',μ',R1,EN.mono e1,hm,k'⟩)
theorem AX {i:Nat}{x:Str}{pos':TC}(hN:X.N.Nodup)(hi:X.N[i]? = some x)(hx:Loc X.env.scope x)(he:PE X e (tM X.K m))(hs:VR e (some (.Name x pos')) pos.line X.env=pure false:=by rfl)
  (hf:X.fn x=true\/X.env.scope.names.lookup x=some .local:=by first|exact .inl rfl|exact .inr rfl|assumption):PS X (.Assign [.Name x pos'] e pos) (cV X.K (aZ i m)):=iS (FZ hN hi hx he hs hf) (by
 rintro E σ H ⟨π,ρ,μ,fl,ρ',μ',R,EN,hm,k⟩
 obtain ⟨⟨x,μ1⟩,h1,hm⟩:=Rv.mp hm
 cases hm
 exact ⟨π,ρ,μ,x,μ1,R,EN,h1,fun π1 v1 H1 e1 R1 i1=>k π1 _ H1 e1 R1 ((EN.mono e1).set i1 i)⟩)
end
noncomputable def qQ (n:Nat)(ds:List D):aH:=ds.map some++T4 (n - ds.length) none
noncomputable def uJ (n:Nat)(m:MS):MF:=fun ds μ=>(m (qQ n ds) μ).bind fun p=>match p.1 with|.rt d=>some (d,p.2.2)|.nx=>some (.non,p.2.2)|_=>none
theorem Iv {K:Rn}{π:Nat->Addr}{n:Nat}{H:Hp}{N:List Str}{vs:List V}{ds:List D}(h:IsDs K π n H vs ds)(hl:vs.length<=N.length):En K π n H (L2.start N vs) (qQ N.length ds):=by
 have hlen:=h.length
 refine ⟨by simp [L2.start,qQ,hlen],fun i d e=>?_⟩
 unfold qQ at e
 unfold L2.start
 by_cases hi:i<ds.length
 ·rw [Sw (by simpa using hi),RR] at e
  obtain ⟨d',h1,h2⟩:=Rv.mp e
  cases h2
  obtain ⟨v,h3,h4⟩:=h.get h1
  exact ⟨v,by rw [Sw (by rw [Ro,hlen];exact hi),RR,h3];rfl,h4⟩
 ·rw [TR (by simpa using U5.mp hi)] at e
  have:=UE (n:=N.length - ds.length) (a:=(none:Option D)) (i:=i - (ds.map some).length)
  rw [this] at e
  split at e<;>simp at e
section
variable {P:R8}{w:Sy}{K:Rn}{mg:Str->Option Ru}{base:SO}
theorem Iw {x qual:Str}{st:Stmt}{f:Addr}{fd:Uq}{N ps:List Str}{k:Nat}{m:MS}(F:Fun K x qual st f fd)(S:FnScope N ps (cJ st))(hps:ps.length<=N.length)
  (hbody:∀ (cdv:Ru)(A:Sn)(outer:List Xk)(s:RC)(H:Hp)(E:XK),Room k (A.deeper (X2 qual (cJ st) s.heap.objs.size f cdv))->
   PSs (jN fE P w K mg base N qual (cJ st) f cdv A outer s H E).nox (fX st) (cV K m)):FnOk P w K mg base fE (k+1) f fd ps (iR K ps.length (uJ N.length m)):=by
 refine F.ok S (fun vs H Q E h=>h.1) fun cdv A outer s H vs Q E hr h=>⟨_,hbody cdv A outer s H E hr,?_⟩
 obtain ⟨hv,π,ds,μ,d,μ',R,i,hm,kc⟩:=h
 obtain ⟨⟨fl,ρ',μ1⟩,h1,hm⟩:=Rl.mp hm
 refine ⟨π,_,μ,fl,ρ',μ1,R,Iv i (by rw [hv];exact hps),h1,?_⟩
 cases fl with
 | rt d'=>cases hm;exact kc
 | nx=>cases hm;exact fun π1 σ1 H1 e1 R1 E1=>kc π1 .non H1 e1 R1 .non
 | bk=>cases hm
 | ct=>cases hm
end
end L3
namespace L3
open PySem L2
open SeqAt (EqAt RcAt RcNeAt)
inductive KD where
 | non|bl (b:Bool)|int (i:Int)|str (x:Str)|tup (n:Nat)|lst (n:Nat)
inductive IsK (s:RC):Ru->KD->Prop where
 | non:IsK s .none .non
 | bl (b:Bool):IsK s (.bool b) (.bl b)
 | int (i:Int)(t:a1U):IsK s (.int i t) (.int i)
 | str (x:Str)(t:a1U):IsK s (.str x t) (.str x)
 | tup {l:Addr}{its:List Ru}(h:s.heap.IsTuple l its.toArray):IsK s (.ref l) (.tup its.length)
 | lst {l:Addr}{its:List Ru}(h:s.heap.IsList l its.toArray):IsK s (.ref l) (.lst its.length)
noncomputable def mU (e:Nat->Bool):KD->KD->Bool
 | .non,.non=>true
 | .bl a,.bl b=>a == b
 | .bl a,.int b=>(if a then 1 else 0) == b
 | .int a,.bl b=>a == (if b then 1 else 0)
 | .int a,.int b=>a == b
 | .str a,.str b=>a == b
 | .tup n,.tup k=>(SG (min n k)).all e&&n == k
 | .lst n,.lst k=>(SG (min n k)).all e&&n == k
 | _,_=>false
noncomputable def qR (A:Sn)(s:RC)(u v:Ru)(e:Nat->Bool):Prop:=
 (∀ l b items items2,u=.ref l->v=.ref b->s.heap.IsTuple l items->s.heap.IsTuple b items2->∀ j (h1:j<items.size)(h2:j<items2.size),EqAt A.in1 s items[j] items2[j] (e j)) /\
 (∀ l b items items2,u=.ref l->v=.ref b->s.heap.IsList l items->s.heap.IsList b items2->∀ j (h1:j<items.size)(h2:j<items2.size),EqAt A.in1 s items[j] items2[j] (e j))
section
variable {A:Sn}{s:RC}{u v:Ru}{k k':KD}{e:Nat->Bool}
theorem AY {n k:Nat}(e:Nat->Bool)(h:n=k):((SG (min n k)).all e&&n == k)=(SG n).all e:=by
 subst h
 simp
theorem AZ {n k:Nat}(e:Nat->Bool)(h:n≠k):((SG (min n k)).all e&&n == k)=false:=by
 simp [h]
theorem uK (h:IsK s u k)(h':IsK s v k')(hu:A.units<TN)(he:qR A s u v e):RcAt A s u v (mU e k k'):=by
 cases h with
 | non=>
  cases h' with
  | non=>exact RcAt.none_none
  | bl b=>exact RcAt.none_bool b
  | int i t=>exact RcAt.none_int i t
  | str x t=>exact RcAt.none_str x t
  | tup h=>exact RcAt.none_tuple h hu
  | lst h=>exact RcAt.none_list h hu
 | bl a=>
  cases h' with
  | non=>exact RcAt.bool_none a
  | bl b=>exact RcAt.bool_bool a b
  | int i t=>exact RcAt.bool_int a i t
  | str x t=>exact RcAt.bool_str a x t
  | tup h=>exact RcAt.bool_tuple a h hu
  | lst h=>exact RcAt.bool_list a h hu
 | int a ta=>
  cases h' with
  | non=>exact RcAt.int_none a ta
  | bl b=>exact RcAt.int_bool a ta b
  | int i t=>exact RcAt.int_int a ta i t
  | str x t=>exact RcAt.int_str a ta x t
  | tup h=>exact RcAt.int_tuple a ta h hu
  | lst h=>exact RcAt.int_list a ta h hu
 | str a ta=>
  cases h' with
  | non=>exact RcAt.str_none a ta
  | bl b=>exact RcAt.str_bool a ta b
  | int i t=>exact RcAt.str_int a ta i t
  | str x t=>exact RcAt.str_str a ta x t
  | tup h=>exact RcAt.str_tuple a ta h hu
  | lst h=>exact RcAt.str_list a ta h hu
 | tup g=>
  cases h' with
  | non=>exact RcAt.tuple_none g hu
  | bl b=>exact RcAt.tuple_bool b g hu
  | int i t=>exact RcAt.tuple_int i t g hu
  | str x t=>exact RcAt.tuple_str x t g hu
  | tup h=>
   have:=RcAt.tuples (e:=e) g h hu (he.1 _ _ _ _ rfl rfl g h)
   simpa [mU] using this
  | lst h=>exact RcAt.tuple_list g h hu
 | lst g=>
  cases h' with
  | non=>exact RcAt.list_none g hu
  | bl b=>exact RcAt.list_bool b g hu
  | int i t=>exact RcAt.list_int i t g hu
  | str x t=>exact RcAt.list_str x t g hu
  | tup h=>exact RcAt.list_tuple g h hu
  | @lst b its2 h=>
   rename_i l its
   by_cases hl:its.length=its2.length
   ·have:=RcAt.lists (e:=e) g h (by simpa using hl) hu (he.2 _ _ _ _ rfl rfl g h)
    show RcAt A s _ _ ((SG (min its.length its2.length)).all e&&its.length == its2.length)
    rw [AY e hl]
    simpa using this
   ·have:=RcAt.lists_lengths g h (by simpa using hl) hu
    show RcAt A s _ _ ((SG (min its.length its2.length)).all e&&its.length == its2.length)
    rw [AZ e hl]
    exact this
theorem Iy (h:IsK s u k)(h':IsK s v k')(hu:A.units<TN)(he:qR A s u v e):RcNeAt A s u v (!mU e k k'):=by
 cases h with
 | non=>
  cases h' with
  | non=>exact RcNeAt.none_none
  | bl b=>exact RcNeAt.none_bool b
  | int i t=>exact RcNeAt.none_int i t
  | str x t=>exact RcNeAt.none_str x t
  | tup h=>exact RcNeAt.none_tuple h hu
  | lst h=>exact RcNeAt.none_list h hu
 | bl a=>
  cases h' with
  | non=>exact RcNeAt.bool_none a
  | bl b=>exact RcNeAt.bool_bool a b
  | int i t=>exact RcNeAt.bool_int a i t
  | str x t=>exact RcNeAt.bool_str a x t
  | tup h=>exact RcNeAt.bool_tuple a h hu
  | lst h=>exact RcNeAt.bool_list a h hu
 | int a ta=>
  cases h' with
  | non=>exact RcNeAt.int_none a ta
  | bl b=>exact RcNeAt.int_bool a ta b
  | int i t=>exact RcNeAt.int_int a ta i t
  | str x t=>exact RcNeAt.int_str a ta x t
  | tup h=>exact RcNeAt.int_tuple a ta h hu
  | lst h=>exact RcNeAt.int_list a ta h hu
 | str a ta=>
  cases h' with
  | non=>exact RcNeAt.str_none a ta
  | bl b=>exact RcNeAt.str_bool a ta b
  | int i t=>exact RcNeAt.str_int a ta i t
  | str x t=>exact RcNeAt.str_str a ta x t
  | tup h=>exact RcNeAt.str_tuple a ta h hu
  | lst h=>exact RcNeAt.str_list a ta h hu
 | tup g=>
  cases h' with
  | non=>exact RcNeAt.tuple_none g hu
  | bl b=>exact RcNeAt.tuple_bool b g hu
  | int i t=>exact RcNeAt.tuple_int i t g hu
  | str x t=>exact RcNeAt.tuple_str x t g hu
  | tup h=>
   have:=RcNeAt.tuples (e:=e) g h hu (he.1 _ _ _ _ rfl rfl g h)
   simpa [mU] using this
  | lst h=>exact RcNeAt.tuple_list g h hu
 | lst g=>
  cases h' with
  | non=>exact RcNeAt.list_none g hu
  | bl b=>exact RcNeAt.list_bool b g hu
  | int i t=>exact RcNeAt.list_int i t g hu
  | str x t=>exact RcNeAt.list_str x t g hu
  | tup h=>exact RcNeAt.list_tuple g h hu
  | @lst b its2 h=>
   rename_i l its
   by_cases hl:its.length=its2.length
   ·have:=RcNeAt.lists (e:=e) g h (by simpa using hl) hu (he.2 _ _ _ _ rfl rfl g h)
    show RcNeAt A s _ _ (!((SG (min its.length its2.length)).all e&&its.length == its2.length))
    rw [AY e hl]
    simpa using this
   ·have:=RcNeAt.lists_lengths g h (by simpa using hl) hu
    show RcNeAt A s _ _ (!((SG (min its.length its2.length)).all e&&its.length == its2.length))
    rw [AZ e hl]
    exact this
theorem Iz (h:IsK s u k)(h':IsK s v k')(hu:A.units<TN)(he:qR A s u v e)(hne:∀ l b,u=.ref l->v=.ref b->l≠b):EqAt A s u v (mU e k k'):=by
 cases h with
 | non=>
  cases h' with
  | non=>exact EqAt.same _
  | bl b=>exact EqAt.none_bool b
  | int i t=>exact EqAt.none_int i t
  | str x t=>exact EqAt.none_str x t
  | tup h=>exact EqAt.none_tuple h hu
  | lst h=>exact EqAt.none_list h hu
 | bl a=>
  cases h' with
  | non=>exact EqAt.bool_none a
  | bl b=>exact EqAt.bool_bool a b
  | int i t=>exact EqAt.bool_int a i t
  | str x t=>exact EqAt.bool_str a x t
  | tup h=>exact EqAt.bool_tuple a h hu
  | lst h=>exact EqAt.bool_list a h hu
 | int a ta=>
  cases h' with
  | non=>exact EqAt.int_none a ta
  | bl b=>exact EqAt.int_bool a ta b
  | int i t=>exact EqAt.int_int a ta i t
  | str x t=>exact EqAt.int_str a ta x t
  | tup h=>exact EqAt.int_tuple a ta h hu
  | lst h=>exact EqAt.int_list a ta h hu
 | str a ta=>
  cases h' with
  | non=>exact EqAt.str_none a ta
  | bl b=>exact EqAt.str_bool a ta b
  | int i t=>exact EqAt.str_int a ta i t
  | str x t=>exact EqAt.str_str a ta x t
  | tup h=>exact EqAt.str_tuple a ta h hu
  | lst h=>exact EqAt.str_list a ta h hu
 | @tup l its g=>
  cases h' with
  | non=>exact EqAt.tuple_none g hu
  | bl b=>exact EqAt.tuple_bool b g hu
  | int i t=>exact EqAt.tuple_int i t g hu
  | str x t=>exact EqAt.tuple_str x t g hu
  | @tup b its2 h=>exact EqAt.of_refs (hne l b rfl rfl) (uK (k:=.tup its.length) (k':=.tup its2.length) (.tup g) (.tup h) hu he)
  | lst h=>exact EqAt.tuple_list g h hu
 | @lst l its g=>
  cases h' with
  | non=>exact EqAt.list_none g hu
  | bl b=>exact EqAt.list_bool b g hu
  | int i t=>exact EqAt.list_int i t g hu
  | str x t=>exact EqAt.list_str x t g hu
  | tup h=>exact EqAt.list_tuple g h hu
  | @lst b its2 h=>exact EqAt.of_refs (hne l b rfl rfl) (uK (k:=.lst its.length) (k':=.lst its2.length) (.lst g) (.lst h) hu he)
end
inductive KdD where
 | non|bl (b:Bool)|int (i:Int)|str (x:Str)|tup (xs:List D)|lst (xs:List D)
noncomputable def dB (μ:Hm):D->Option KdD
 | .non=>some .non
 | .bl b=>some (.bl b)
 | .int i=>some (.int i)
 | .str x=>some (.str x)
 | .tup xs=>some (.tup xs)
 | .rol xs=>some (.lst xs)
 | .loc a=>match μ[a]? with|some (.lst xs)=>some (.lst xs)|_=>none
 | .ty _=>none
noncomputable def fH (f:D->D->Option Bool):List D->List D->Option Bool
 | x::xs,y::ys=>(f x y).bind fun b=>(fH f xs ys).map fun c=>b&&c
 | [],[]=>some true
 | _,_=>some false
noncomputable def gX (f:D->D->Option Bool):KdD->KdD->Option Bool
 | .non,.non=>some true
 | .bl a,.bl b=>some (a == b)
 | .bl a,.int b=>some ((if a then 1 else 0) == b)
 | .int a,.bl b=>some (a == (if b then 1 else 0))
 | .int a,.int b=>some (a == b)
 | .str a,.str b=>some (a == b)
 | .tup xs,.tup ys=>fH f xs ys
 | .lst xs,.lst ys=>fH f xs ys
 | _,_=>some false
noncomputable def bZ:Nat->Hm->D->D->Option Bool
 | 0,_,_,_=>none
 | n+1,μ,x,y=>(dB μ x).bind fun a=>(dB μ y).bind fun b=>gX (bZ n μ) a b
noncomputable def uL:KdD->KD
 | .non=>.non|.bl b=>.bl b|.int i=>.int i|.str x=>.str x|.tup xs=>.tup xs.length|.lst xs=>.lst xs.length
noncomputable def mV:KdD->List D
 | .tup xs=>xs|.lst xs=>xs|_=>[]
section
variable {X:Cx}{a1Z:List (Addr×TK)}{σ:St}{H:Hp}{s:RC}{π:Nat->Addr}{μ:Hm}
inductive KdAt (X:Cx)(π:Nat->Addr)(n:Nat)(H:Hp)(s:RC)(u:Ru):KdD->Prop where
 | non (h:u=.none):KdAt X π n H s u .non
 | bl (b:Bool)(h:u=.bool b):KdAt X π n H s u (.bl b)
 | int (i:Int)(t:a1U)(h:u=.int i t):KdAt X π n H s u (.int i)
 | str (x:Str)(t:a1U)(h:u=.str x t):KdAt X π n H s u (.str x)
 | tup {xs:List D}(p:Addr)(vs:List V)(its:List Ru)(h:u=.ref p)(q:SqT X.K H p vs)(i:IsDs X.K π n H vs xs)(r:Vals vs its)(t:s.heap.IsTuple p its.toArray):KdAt X π n H s u (.tup xs)
 | lst {xs:List D}(p:Addr)(vs:List V)(its:List Ru)(h:u=.ref p)(q:SqL X.K H p vs)(i:IsDs X.K π n H vs xs)(r:Vals vs its)(t:s.heap.IsList p its.toArray):KdAt X π n H s u (.lst xs)
theorem mW (I:Inv X a1Z σ H s)(R:Rp X.K π H μ){v:V}{d:D}{u:Ru}(h:IsD X.K π μ.length H v d)(r:RelV v u){k:KdD}(e:dB μ d=some k):KdAt X π μ.length H s u k:=by
 cases h with
 | non=>cases e;exact .non r
 | bl b=>cases e;exact .bl b r
 | int i=>cases e;obtain ⟨t,q⟩:=r;exact .int i t q
 | str x=>cases e;obtain ⟨t,q⟩:=r;exact .str x t q
 | ty x=>cases e
 | tup q t=>
  cases e
  obtain ⟨its,r',p,_⟩:=I.tuple q
  exact .tup _ _ its r q t r' p
 | rol q t=>
  cases e
  obtain ⟨its,r',p,_⟩:=I.list q.sq
  exact .lst _ _ its r q.sq t r' p.isList
 | @loc a ha=>
  simp only [dB] at e
  split at e
  ·rename_i xs hx
   cases e
   obtain ⟨vs,h1,h2⟩:=R.lst a xs hx
   have q:SqL X.K H (π a) vs:=.of h1
   obtain ⟨its,r',p,_⟩:=I.list q
   exact .lst _ _ its r q h2 r' p.isList
  ·cases e
theorem KdAt.isK {u:Ru}{k:KdD}{n:Nat}(h:KdAt X π n H s u k):IsK s u (uL k):=by
 cases h with
 | non h=>subst h;exact .non
 | bl b h=>subst h;exact .bl b
 | int i t h=>subst h;exact .int i t
 | str x t h=>subst h;exact .str x t
 | tup p vs its h q i r t=>
  subst h
  have:its.length=_:=r.length.symm.trans i.length
  show IsK s (.ref p) (.tup _)
  rw [<- this]
  exact .tup t
 | lst p vs its h q i r t=>
  subst h
  have:its.length=_:=r.length.symm.trans i.length
  show IsK s (.ref p) (.lst _)
  rw [<- this]
  exact .lst t
noncomputable def gY (f:D->D->Option Bool)(xs ys:List D)(j:Nat):Bool:=match xs[j]?,ys[j]? with
 | some x,some y=>(f x y).getD false
 | _,_=>false
theorem uM {f:D->D->Option Bool}:∀ {xs ys:List D}{b:Bool},fH f xs ys=some b->b=((SG (min xs.length ys.length)).all (gY f xs ys)&&xs.length == ys.length)/\∀ (j:Nat) x y,xs[j]? = some x->ys[j]? = some y->f x y=some (gY f xs ys j)
 | [],[],b,h=>by
  cases h
  exact ⟨rfl,fun j x y e=>by simp at e⟩
 | x::xs,[],b,h=>by
  cases h
  exact ⟨by simp,fun j x y _ e=>by simp at e⟩
 | [],y::ys,b,h=>by
  cases h
  exact ⟨by simp,fun j x y e=>by simp at e⟩
 | x::xs,y::ys,b,h=>by
  simp only [fH] at h
  obtain ⟨c,h1,h2⟩:=Rl.mp h
  obtain ⟨d,h3,h4⟩:=Rv.mp h2
  obtain ⟨i1,i2⟩:=uM h3
  have h0:gY f (x::xs) (y::ys) 0=c:=by simp [gY,h1]
  have hs:∀ j,gY f (x::xs) (y::ys) (j+1)=gY f xs ys j:=fun j=>by simp [gY]
  refine ⟨?_,fun j x' y' e1 e2=>?_⟩
  ·subst h4
   rw [i1]
   simp only [SD,Nat.add_min_add_right]
   rw [YK,Sx,List.all_map,h0]
   have:(gY f (x::xs) (y::ys) ∘ Nat.succ)=gY f xs ys:=funext fun j=>hs j
   rw [this]
   simp [Bool.and_assoc]
  ·cases j with
   | zero=>
    simp at e1 e2
    subst e1;subst e2
    rw [h0,h1]
   | succ j=>
    rw [hs j]
    exact i2 j x' y' (by simpa using e1) (by simpa using e2)
theorem A1 {f:D->D->Option Bool}{k k':KdD}{b:Bool}(h:gX f k k'=some b):b=mU (gY f (mV k) (mV k')) (uL k) (uL k'):=by
 cases k<;>cases k'<;>simp only [gX] at h<;>first
  | (have h':=RY h;subst h';rfl)
  | (obtain ⟨h1,_⟩:=uM h;rw [h1];rfl)
theorem IA (I:Inv X a1Z σ H s)(R:Rp X.K π H μ):∀ (n:Nat){v:V}{u:Ru}{x y:D}{b:Bool},RelV v u->IsD X.K π μ.length H v x->IsD X.K π μ.length H v y->bZ n μ x y=some b->b=true:=by
 intro n
 induction n with
 | zero=>intro v u x y b _ _ _ h;cases h
 | succ n ih=>
  intro v u x y b r hx hy h
  obtain ⟨k,h1,h⟩:=Rl.mp h
  obtain ⟨k',h2,h⟩:=Rl.mp h
  have a1:=mW I R hx r h1
  have a2:=mW I R hy r h2
  have lists:∀ {vs:List V}{xs ys:List D}{c:Bool},(∀ v∈vs,∃ u,RelV v u)->IsDs X.K π μ.length H vs xs->IsDs X.K π μ.length H vs ys->fH (bZ n μ) xs ys=some c->c=true:=by
   intro vs
   induction vs with
   | nil=>intro xs ys c _ i1 i2 h;cases i1;cases i2;cases h;rfl
   | cons w vs ihv=>
    intro xs ys c hr i1 i2 h
    cases i1 with
    | cons p1 t1=>
     cases i2 with
     | cons p2 t2=>
      simp only [fH] at h
      obtain ⟨c1,h1,h3⟩:=Rl.mp h
      obtain ⟨c2,h4,h5⟩:=Rv.mp h3
      obtain ⟨u',ru⟩:=hr w (RX ..)
      have e1:=ih ru p1 p2 h1
      have e2:=ihv (fun v hv=>hr v (RP _ hv)) t1 t2 h4
      subst e1;subst e2
      exact h5.symm
  cases a1 with
  | non e1=>
   subst e1
   cases a2 with
   | non _=>simp only [gX] at h;exact (RY h).symm
   | bl _ e=>cases e
   | int _ _ e=>cases e
   | str _ _ e=>cases e
   | tup _ _ _ e=>cases e
   | lst _ _ _ e=>cases e
  | bl c e1=>
   subst e1
   cases a2 with
   | non e=>cases e
   | bl _ e=>cases e;simp only [gX,beq_self_eq_true] at h;exact (RY h).symm
   | int _ _ e=>cases e
   | str _ _ e=>cases e
   | tup _ _ _ e=>cases e
   | lst _ _ _ e=>cases e
  | int c t e1=>
   subst e1
   cases a2 with
   | non e=>cases e
   | bl _ e=>cases e
   | int _ _ e=>cases e;simp only [gX,beq_self_eq_true] at h;exact (RY h).symm
   | str _ _ e=>cases e
   | tup _ _ _ e=>cases e
   | lst _ _ _ e=>cases e
  | str c t e1=>
   subst e1
   cases a2 with
   | non e=>cases e
   | bl _ e=>cases e
   | int _ _ e=>cases e
   | str _ _ e=>cases e;simp only [gX,beq_self_eq_true] at h;exact (RY h).symm
   | tup _ _ _ e=>cases e
   | lst _ _ _ e=>cases e
  | tup p vs its e1 q i rv t=>
   have z:KdAt X π μ.length H s (.ref p) _:=e1 ▸ KdAt.tup p vs its e1 q i rv t
   rw [e1] at a2
   cases a2 with
   | non e=>cases e
   | bl _ e=>cases e
   | int _ _ e=>cases e
   | str _ _ e=>cases e
   | tup p2 vs2 its2 e2 q2 i2 rv2 t2=>
    cases e2
    have:=I.tuple_inj q q2
    subst this
    exact lists (fun v hv=>by
     obtain ⟨j,hj,rfl⟩:=Vd hv
     obtain ⟨u',_,ru⟩:=rv.get (RN hj)
     exact ⟨u',ru⟩) i i2 h
   | lst p2 vs2 its2 e2 q2 i2 rv2 t2=>
    cases e2
    exact absurd rfl (TQ t2 t)
  | lst p vs its e1 q i rv t=>
   rw [e1] at a2
   cases a2 with
   | non e=>cases e
   | bl _ e=>cases e
   | int _ _ e=>cases e
   | str _ _ e=>cases e
   | tup p2 vs2 its2 e2 q2 i2 rv2 t2=>
    cases e2
    exact absurd rfl (TQ t t2)
   | lst p2 vs2 its2 e2 q2 i2 rv2 t2=>
    cases e2
    have:=I.list_inj q q2
    subst this
    exact lists (fun v hv=>by
     obtain ⟨j,hj,rfl⟩:=Vd hv
     obtain ⟨u',_,ru⟩:=rv.get (RN hj)
     exact ⟨u',ru⟩) i i2 h
theorem lF (A:Sn):A.in1.units=A.units+1:=rfl
theorem A2 (I:Inv X a1Z σ H s){A:Sn}{n:Nat}(ih:∀ {A:Sn}{v v':V}{u u':Ru}{x y:D}{b:Bool},A.units+n<TN->RelV v u->RelV v' u'->IsD X.K π μ.length H v x->IsD X.K π μ.length H v' y->bZ n μ x y=some b->EqAt A s u u' b)
  (hu:A.units+(n+1)<TN){u u':Ru}{k k':KdD}{b:Bool}(a1:KdAt X π μ.length H s u k)(a2:KdAt X π μ.length H s u' k')(h:gX (bZ n μ) k k'=some b):qR A s u u' (gY (bZ n μ) (mV k) (mV k')):=by
 have core:∀ {vs vs':List V}{its its':List Ru}{xs ys:List D}{c:Bool},Vals vs its->Vals vs' its'->IsDs X.K π μ.length H vs xs->IsDs X.K π μ.length H vs' ys->fH (bZ n μ) xs ys=some c->
   ∀ j (h1:j<its.length)(h2:j<its'.length),EqAt A.in1 s its[j] its'[j] (gY (bZ n μ) xs ys j):=by
  intro vs vs' its its' xs ys c r r' i i' e j h1 h2
  have l1:=r.length
  have l2:=r'.length
  have l3:=i.length
  have l4:=i'.length
  have hx:xs[j]? = some (xs[j]'(by omega)):=RN _
  have hy:ys[j]? = some (ys[j]'(by omega)):=RN _
  obtain ⟨v,v1,v2⟩:=i.get hx
  obtain ⟨v',v1',v2'⟩:=i'.get hy
  obtain ⟨w,w1,w2⟩:=r.get v1
  obtain ⟨w',w1',w2'⟩:=r'.get v1'
  rw [RN h1] at w1
  rw [RN h2] at w1'
  cases w1
  cases w1'
  exact ih (by rw [lF];omega) w2 w2' v2 v2' ((uM e).2 j _ _ hx hy)
 constructor
 ·intro l b' items items2 e1 e2 t1 t2 j h1 h2
  subst e1;subst e2
  cases a1 with
  | tup p vs its e q i r t=>
   cases e
   cases a2 with
   | tup p2 vs2 its2 e' q2 i2 r2 t'=>
    cases e'
    have z1:items=its.toArray:=by
     obtain ⟨o,g1,g2,n1,g3⟩:=t1
     obtain ⟨o',g1',g2',n1',g3'⟩:=t
     rw [g1] at g1';cases g1'
     rw [g3] at g3'
     injection g3'
    have z2:items2=its2.toArray:=by
     obtain ⟨o,g1,g2,n1,g3⟩:=t2
     obtain ⟨o',g1',g2',n1',g3'⟩:=t'
     rw [g1] at g1';cases g1'
     rw [g3] at g3'
     injection g3'
    subst z1;subst z2
    have:=core r r2 i i2 h j (by simpa using h1) (by simpa using h2)
    simpa [mV] using this
   | lst p2 vs2 its2 e' q2 i2 r2 t'=>
    cases e'
    exact absurd rfl (TQ t' t2)
   | non e'=>cases e'
   | bl _ e'=>cases e'
   | int _ _ e'=>cases e'
   | str _ _ e'=>cases e'
  | lst p vs its e q i r t=>
   cases e
   exact absurd rfl (TQ t t1)
  | non e=>cases e
  | bl _ e=>cases e
  | int _ _ e=>cases e
  | str _ _ e=>cases e
 ·intro l b' items items2 e1 e2 t1 t2 j h1 h2
  subst e1;subst e2
  cases a1 with
  | lst p vs its e q i r t=>
   cases e
   cases a2 with
   | lst p2 vs2 its2 e' q2 i2 r2 t'=>
    cases e'
    have z1:items=its.toArray:=by
     obtain ⟨o,g1,g2,n1,g3⟩:=t1
     obtain ⟨o',g1',g2',n1',g3'⟩:=t
     rw [g1] at g1';cases g1'
     rw [g3] at g3'
     injection g3'
    have z2:items2=its2.toArray:=by
     obtain ⟨o,g1,g2,n1,g3⟩:=t2
     obtain ⟨o',g1',g2',n1',g3'⟩:=t'
     rw [g1] at g1';cases g1'
     rw [g3] at g3'
     injection g3'
    subst z1;subst z2
    have:=core r r2 i i2 h j (by simpa using h1) (by simpa using h2)
    simpa [mV] using this
   | tup p2 vs2 its2 e' q2 i2 r2 t'=>
    cases e'
    exact absurd rfl (TQ t2 t')
   | non e'=>cases e'
   | bl _ e'=>cases e'
   | int _ _ e'=>cases e'
   | str _ _ e'=>cases e'
  | tup p vs its e q i r t=>
   cases e
   exact absurd rfl (TQ t1 t)
  | non e=>cases e
  | bl _ e=>cases e
  | int _ _ e=>cases e
  | str _ _ e=>cases e
theorem uN (I:Inv X a1Z σ H s)(R:Rp X.K π H μ):∀ (n:Nat){A:Sn}{v v':V}{u u':Ru}{x y:D}{b:Bool},A.units+n<TN->RelV v u->RelV v' u'->IsD X.K π μ.length H v x->IsD X.K π μ.length H v' y->bZ n μ x y=some b->EqAt A s u u' b:=by
 intro n
 induction n with
 | zero=>intro A v v' u u' x y b _ _ _ _ _ h;cases h
 | succ n ih=>
  intro A v v' u u' x y b hu r r' hx hy h
  have h0:=h
  obtain ⟨k,h1,h⟩:=Rl.mp h
  obtain ⟨k',h2,h⟩:=Rl.mp h
  have a1:=mW I R hx r h1
  have a2:=mW I R hy r' h2
  by_cases hs:u=u'
  ·subst hs
   have:v=v':=r.inj r'
   subst this
   have:=IA I R (n+1) r hx hy h0
   subst this
   exact EqAt.same _
  ·have he:=A2 I ih hu a1 a2 h
   rw [A1 h]
   exact Iz a1.isK a2.isK (by omega) he fun l b' e1 e2 z=>hs (by rw [e1,e2,z])
theorem A3 (I:Inv X a1Z σ H s)(R:Rp X.K π H μ)(n:Nat){A:Sn}{v v':V}{u u':Ru}{x y:D}{b:Bool}(hu:A.units+n<TN)(r:RelV v u)(r':RelV v' u')(hx:IsD X.K π μ.length H v x)(hy:IsD X.K π μ.length H v' y)(h:bZ n μ x y=some b) :
  RcAt A s u u' b/\RcNeAt A s u u' (!b):=by
 cases n with
 | zero=>cases h
 | succ n=>
  obtain ⟨k,h1,h⟩:=Rl.mp h
  obtain ⟨k',h2,h⟩:=Rl.mp h
  have a1:=mW I R hx r h1
  have a2:=mW I R hy r' h2
  have he:=A2 I (A:=A) (uN I R n) hu a1 a2 h
  rw [A1 h]
  exact ⟨uK a1.isK a2.isK (by omega) he,Iy a1.isK a2.isK (by omega) he⟩
end
end L3
namespace L3
open PySem L2
open SeqAt (EqAt RcAt RcNeAt)
section
variable {K:Rn}
noncomputable def jP (g:Int->Int->Option Int):D->D->Hm->Option (D×Hm)
 | .int i,.int j,μ=>(g i j).map fun z=>(.int z,μ)
 | _,_,_=>none
theorem A4 {g:Int->Int->Option Int}{x y d:D}{μ μ':Hm}(h:jP g x y μ=some (d,μ')):∃ i j z,x=.int i/\y=.int j/\g i j=some z/\d=.int z/\μ'=μ:=by
 unfold jP at h
 split at h
 ·rename_i i j
  obtain ⟨z,h1,h2⟩:=Rv.mp h
  cases h2
  exact ⟨i,j,z,rfl,rfl,h1,rfl,rfl⟩
 ·cases h
theorem qS {Cc:Int->Int->Prop}{g:Int->Int->Option Int}{g':Int->Int->Int}(hg:∀ i j z,g i j=some z->Cc i j/\z=g' i j):cP K (jP g) (rI Cc fun i j=>.int (g' i j)):=by
 intro π H μ x y d μ' vx vy Q R ix iy hm k
 obtain ⟨i,j,z,rfl,rfl,h1,rfl,rfl⟩:=A4 hm
 cases ix
 cases iy
 obtain ⟨c,rfl⟩:=hg i j z h1
 exact ⟨i,j,rfl,rfl,c,k π _ H .refl R (.int _)⟩
theorem IC {g':Int->Int->Int}:cP K (jP fun i j=>some (g' i j)) (fT fun i j=>.int (g' i j)):=by
 intro π H μ x y d μ' vx vy Q R ix iy hm k
 obtain ⟨i,j,z,rfl,rfl,h1,rfl,rfl⟩:=A4 hm
 cases ix
 cases iy
 cases h1
 exact ⟨i,j,rfl,rfl,k π _ H .refl R (.int _)⟩
noncomputable def fI:=jP fun i j=>some (i - j)
noncomputable def A5:=jP fun i j=>if ((-(2 ^ 64)<i/\i<2 ^ 64)\/(-(2 ^ 64)<j/\j<2 ^ 64))\/(i.natAbs<2 ^ 4000/\j.natAbs<2 ^ 4000)\/Sm i+Sm j<=134217728 then some (i * j) else none
noncomputable def bT:D->D->Hm->Option (D×Hm)
 | x,y,μ=>A5 x y μ
noncomputable def d8:=jP fun i j=>if 0<j/\j<2 ^ 4000 then some (i / j) else none
noncomputable def bH:=jP fun i j=>if 0<j then some (i % j) else none
noncomputable def uO:=jP fun i j=>if (0<=j/\j<=1000000/\i.natAbs<2 ^ 64)\/(0<=j/\j<=100/\i.natAbs<2 ^ 4000) then some (i ^ j.toNat) else none
noncomputable def CMulB (i j:Int):Prop:=CMul i j\/(i.natAbs<2 ^ 4000/\j.natAbs<2 ^ 4000)\/Sm i+Sm j<=134217728
noncomputable def A6 (i j:Int):Prop:=0<j/\j<2 ^ 4000
noncomputable def A7 (i j:Int):Prop:=Gf i j\/(0<=j/\j<=100/\i.natAbs<2 ^ 4000)
theorem uP {i:Int}(h:i.natAbs<2 ^ 4000):Sm i<=4000:=by
 unfold Sm
 split
 ·exact SF _
 ·rename_i hz
  have h0:i.natAbs≠0:=by
   intro z
   exact hz (by simpa using z)
  have:=(a1D h0).mpr h
  omega
theorem CMulB.ok {i j:Int}(h:CMulB i j):a0l i j:=by
 rcases h with h|⟨h1,h2⟩|h
 ·exact h.ok
 rotate_left
 ·have hl:Vl (Sm i+Sm j)=false:=by
   unfold Vl
   rw [decide_eq_false]
   have:bitsLine=134217728:=by decide
   omega
  unfold a0l
  rw [hl]
  simp
 ·have b1:=uP h1
  have b2:=uP h2
  have hl:Vl (Sm i+Sm j)=false:=by
   unfold Vl
   rw [decide_eq_false]
   have:(8000:Int)<=bitsLine:=by decide
   omega
  unfold a0l
  rw [hl]
  simp
section
variable {X:Cx}
theorem ID:OpR X (UL .Mult) (rI CMulB fun i j=>.int (i * j)):=qI fun _ _ _ _ _ _ _ hc q=>a1t q hc.ok
theorem IE:OpR X (UL .FloorDiv) (rI A6 fun i j=>.int (i / j)):=qI fun i j _ _ _ _ _ hc q=>by
 have h1:(0:Int)<j:=hc.1
 have h2:j<2 ^ 4000:=hc.2
 have h0:j.natAbs≠0:=by omega
 have h3:j.natAbs<2 ^ 4000:=by
  have:((2 ^ 4000:Nat):Int)=2 ^ 4000:=by decide
  omega
 have h4:=(a1D h0).mpr h3
 exact a1v (by omega) (by rw [Int.fdiv_eq_ediv_of_nonneg i (by omega)];exact q) (.inl (PyProof.noPylong_of_log2 (by omega)))
theorem IH:OpR X (UL .Pow) (rI A7 fun i j=>.int (i ^ j.toNat)):=qI fun i j _ _ _ _ _ hc q=>by
 rcases hc with hc|⟨h1,h2,h3⟩
 ·exact a1q hc.1 hc.2.1 hc.2.2 q
 ·have b:=uP h3
  refine a1r h1 ?_ q
  have:(Sm i:Int) * j<=4000 * 100:=Int.mul_le_mul (by omega) h2 h1 (by omega)
  omega
end
theorem qT {c:Prop} [Decidable c] {a z:Int}(h:(if c then some a else none)=some z):c/\z=a:=by
 split at h
 ·cases h;exact ⟨by assumption,rfl⟩
 ·cases h
theorem II:cP K fI (fT fun i j=>.int (i - j)):=IC
theorem IJ:cP K A5 (rI CMulB fun i j=>.int (i * j)):=qS fun i j z h=>by
 have:=qT h
 exact this
theorem IK:cP K bT (rI CMulB fun i j=>.int (i * j)):=IJ
theorem IL:cP K d8 (rI A6 fun i j=>.int (i / j)):=qS fun i j z h=>by
 have:=qT h
 exact this
theorem IM:cP K bH (rI (fun _ j=>0<j) fun i j=>.int (i % j)):=qS fun _ _ _ h=>qT h
theorem IP:cP K uO (rI A7 fun i j=>.int (i ^ j.toNat)):=qS fun i j z h=>by
 have:=qT h
 exact this
noncomputable def uQ:D->Option D
 | .int i=>some (.int (-i))
 | _=>none
noncomputable def bK:D->D->Hm->Option (D×Hm)
 | .int i,.int j,μ=>some (.int (i+j),μ)
 | .str x,.str y,μ=>if x.length+y.length<=RL then some (.str (x++y),μ) else none
 | .loc a,.loc b,μ=>match μ[a]?,μ[b]? with
  | some (.lst xs),some (.lst ys)=>if xs.length+ys.length<=RL then some (.loc μ.length,μ++[.lst (xs++ys)]) else none
  | _,_=>none
 | .tup xs,.tup ys,μ=>if xs≠[]/\ys≠[]/\xs.length+ys.length<=RL then some (.tup (xs++ys),μ) else none
 | _,_,_=>none
noncomputable def uR (K:Rn):R2:=fun x y H Q=>fT (fun i j=>.int (i+j)) x y H Q\/(∃ i j,x=.str i/\y=.str j/\i.length+j.length<=RL/\Q (.str (i++j)) H)\/AG x y H Q
theorem op_addB {X:Cx}:OpR X (UL .Add) (uR X.K):=op_add.or (op_add_str.or Hn)
noncomputable def uS (K:Rn):R2:=fun x y H Q=>uR K x y H Q\/Am K x y H Q
theorem IQ {X:Cx}:OpR X (UL .Add) (uS X.K):=op_addB.or G6
theorem uT {K:Rn}{x y:V}{H:Hp}{Q:VK}(h:uR K x y H Q):uS K x y H Q:=.inl h
theorem IT:cP K bK (uS K):=by
 intro π H μ x y d μ' vx vy Q R ix iy hm k
 unfold bK at hm
 split at hm
 ·cases hm
  cases ix
  cases iy
  exact uT (.inl ⟨_,_,rfl,rfl,k π _ H .refl R (.int _)⟩)
 ·split at hm
  ·rename_i hl
   cases hm
   cases ix
   cases iy
   exact uT (.inr (.inl ⟨_,_,rfl,rfl,hl,k π _ H .refl R (.str _)⟩))
  ·cases hm
 ·split at hm
  ·rename_i xs ys ha hb
   split at hm
   ·rename_i hl
    cases hm
    cases ix
    cases iy
    obtain ⟨vs,h1,h2⟩:=R.lst _ xs ha
    obtain ⟨ws,h3,h4⟩:=R.lst _ ys hb
    refine uT (.inr (.inr ⟨_,_,vs,ws,rfl,rfl,by first|exact h1|exact .inl (.inl h1),h3,by rw [h2.length,h4.length];exact hl,fun p hp=>?_⟩))
    obtain ⟨e2,R2,q⟩:=R.alloc (c:=.lst (xs++ys)) (o:=.lst (vs++ws)) hp (h2.append h4)
    exact k _ _ _ e2 R2 gW
   ·cases hm
  ·cases hm
 ·split at hm
  ·rename_i hb
   cases hm
   cases ix with
   | tup h1 i1=>
    cases iy with
    | tup h2 i2=>
     refine .inr ⟨_,_,_,_,rfl,rfl,h1,h2,fun e=>hb.1 (by rw [e] at i1;cases i1;rfl),by rw [i1.length,i2.length];exact hb.2.2,fun e=>absurd (by rw [e] at i2;cases i2;rfl) hb.2.1,fun _ p hp=>?_⟩
     obtain ⟨e2,R2⟩:=R.fresh (o:=.tup _) hp
     exact k π _ _ e2 R2 (.tup (.of cG) ((i1.mono e2).append (i2.mono e2)))
  ·cases hm
 ·cases hm
noncomputable def fJ (p:Int->Int->Bool):D->D->Hm->Option (D×Hm)
 | .int i,.int j,μ=>some (.bl (p i j),μ)
 | _,_,_=>none
theorem gZ {p:Int->Int->Bool}:cP K (fJ p) (fT fun i j=>.bl (p i j)):=by
 intro π H μ x y d μ' vx vy Q R ix iy hm k
 unfold fJ at hm
 split at hm
 ·cases hm
  cases ix
  cases iy
  exact ⟨_,_,rfl,rfl,k π _ H .refl R (.bl _)⟩
 ·cases hm
noncomputable def hG:=fJ fun i j=>decide (i<j)
noncomputable def mX:=fJ fun i j=>decide (i<=j)
noncomputable def fK:=fJ fun i j=>decide (j<i)
noncomputable def uU:=fJ fun i j=>decide (j<=i)
noncomputable def uV (K:Rn)(ne:Bool):R2:=fun x y H Q=>∃ π μ dx dy b,Rp K π H μ/\IsD K π μ.length H x dx/\IsD K π μ.length H y dy/\bZ 8 μ dx dy=some b/\Q (.bl (if ne then !b else b)) H
theorem A8 {X:Cx}(hu:X.A.units+8<TN):OpR X (S4 .Eq) (uV X.K false):=by
 intro a1Z s σ H x y v u Q I rx ry h
 obtain ⟨π,μ,dx,dy,b,R,ix,iy,e,q⟩:=h
 exact (A3 I R 8 hu rx ry ix iy e).1 _ _ _ _ ⟨.bl b,H,I,rfl,q⟩
theorem A9 {X:Cx}(hu:X.A.units+8<TN):OpR X (S4 .NotEq) (uV X.K true):=by
 intro a1Z s σ H x y v u Q I rx ry h
 obtain ⟨π,μ,dx,dy,b,R,ix,iy,e,q⟩:=h
 exact (A3 I R 8 hu rx ry ix iy e).2 _ _ _ _ ⟨.bl (!b),H,I,rfl,q⟩
noncomputable def aW (ne:Bool):D->D->Hm->Option (D×Hm):=fun x y μ=>(bZ 8 μ x y).map fun b=>(.bl (if ne then !b else b),μ)
theorem qU {ne:Bool}:cP K (aW ne) (uV K ne):=by
 intro π H μ x y d μ' vx vy Q R ix iy hm k
 obtain ⟨b,h1,h2⟩:=Rv.mp hm
 cases h2
 exact ⟨π,μ,x,y,b,R,ix,iy,h1,k π _ H .refl R (.bl _)⟩
noncomputable def uW:D->D->Hm->Option (D×Hm)
 | .str i,.str j,μ=>some (.bl (!(Tn j i 0 j.length 1).isEmpty),μ)
 | _,_,_=>none
theorem Ba:cP K uW (fun x y H Q=>∃ i j,x=.str i/\y=.str j/\Q (.bl (!(Tn j i 0 j.length 1).isEmpty)) H):=by
 intro π H μ x y d μ' vx vy Q R ix iy hm k
 unfold uW at hm
 split at hm
 ·cases hm
  cases ix
  cases iy
  exact ⟨_,_,rfl,rfl,k π _ H .refl R (.bl _)⟩
 ·cases hm
end
section
variable {X:Cx}{a b c:RI}{ma mb mc:ME}{pos:TC}
theorem qV {k:Nat}{A:Sn}(r:Room k A):A.units+8<TN:=by have:=r.un;omega
theorem IU (ha:PE X a (tM X.K ma)):PE X (.UnaryOp .USub a pos) (tM X.K (fun ρ μ=>(ma ρ μ).bind fun p=>(uQ p.1).map fun d=>(d,p.2))):=cM (Ge Gi ha) (by
 rintro σ H Q ⟨π,ρ,μ,d,μ',R,E,hm,k⟩
 obtain ⟨⟨x,μ1⟩,h1,hm⟩:=Rl.mp hm
 obtain ⟨y,h2,h3⟩:=Rv.mp hm
 cases h3
 cases x with
 | int i=>
  cases h2
  refine ⟨π,ρ,μ,_,_,R,E,h1,fun π1 v1 H1 e1 R1 i1=>?_⟩
  cases i1
  exact ⟨_,rfl,k π1 _ H1 e1 R1 (.int _)⟩
 | _=>cases h2)
theorem IV {x:Str}{n:String}(hg:Gl X x)(hm:X.mg x=none)(hv:Tz x=some (.type n))(hn:x ≠ "__name__":=by decide) (hd:(x == ("__debug__":Str))=false:=by decide):PE X (.Name x pos) (tM X.K (mC (.ty n))):=
 mQ (Fi (v:=.ty n) hg hm hv rfl hn hd) fun _ _ _=>.ty n
end
noncomputable def qW (μ:Hm):D->Option String
 | .non=>some "NoneType"
 | .bl _=>some "bool"
 | .int _=>some "int"
 | .str _=>some "str"
 | .tup _=>some "tuple"
 | .rol _=>some "list"
 | .loc a=>match μ[a]? with
  | some (.lst _)=>some "list"
  | some (.dK _)=>some "dict"
  | some (.dT _)=>some "dict"
  | _=>none
 | .ty _=>none
noncomputable def qX (t c:String):Option Bool:=match c with
 | "int"=>some (t == "int" || t == "bool")
 | "bool"=>some (t == "bool")
 | "str"=>some (t == "str")
 | "list"=>some (t == "list")
 | "tuple"=>some (t == "tuple")
 | "dict"=>some (t == "dict")
 | _=>none
noncomputable def dR:MF:=fun ds μ=>match ds with
 | [x,.ty c]=>(qW μ x).bind fun t=>(qX t c).map fun b=>(.bl b,μ)
 | _=>none
theorem jQ (K:Rn){t c:String}{b:Bool}(ht:t = "NoneType"\/t = "bool"\/t = "int"\/t = "str"\/t = "tuple"\/t = "list"\/t = "dict") (h:qX t c=some b):ZG K (.type t) (.type c)=some b:=by
 unfold qX at h
 split at h<;>first
  | cases h;done
  | (have h':=RY h;subst h'
     rcases ht with rfl|rfl|rfl|rfl|rfl|rfl|rfl<;>first|rfl|decide +kernel|(unfold ZG;simp;rfl))
end L3
namespace L3
open PySem L2
noncomputable abbrev MG:=D->aH->Hm->Option aH
noncomputable def f7 (K:Rn)(g:MG):TG:=fun v σ H Q=>∃ π ρ μ d ρ',Rp K π H μ/\En K π μ.length H σ ρ/\IsD K π μ.length H v d/\g d ρ μ=some ρ'/\∀ σ',En K π μ.length H σ' ρ'->Q σ' H
noncomputable def cA (i:Nat):MG:=fun d ρ _=>some (ρ.set i (some d))
section
variable {X:Cx}{pos:TC}
theorem Bb {i:Nat}{x:Str}(hN:X.N.Nodup)(hi:X.N[i]? = some x)(hx:Loc X.env.scope x)(hf:X.fn x=true\/X.env.scope.names.lookup x=some .local:=by first|exact .inl rfl|exact .inr rfl|assumption):PG X (.Name x pos) (f7 X.K (cA i)):=by
 intro a1Z s σ H v u Q I r h
 obtain ⟨π,ρ,μ,d,ρ',R,E,hd,hm,k⟩:=h
 cases hm
 exact zT hN hi hx hf a1Z s σ H v u Q I r (k _ (E.set hd i))
noncomputable def IW (K:Rn)(tl:TE):TI:=fun σ H R=>tl σ H fun x H1=>∃ a,x=.ref a/\(((∃ xs,SqL K H1 a xs)/\R (tQ K a) H1)\/((∃ xs,SqT K H1 a xs)/\R (tR K a) H1))
theorem IX {l tg:RI}{tl:TE}(hl:PE X l tl):PI X tg l (IW X.K tl):=by
 intro a1Z s σ H R I h
 refine aQ (hl a1Z s σ H _ I h) fun v s1 ⟨x,H1,I1,r1,q1⟩=>?_
 obtain ⟨a,e,q⟩:=q1
 subst e
 cases r1
 rcases q with ⟨⟨xs,hq⟩,q⟩|⟨⟨xs,hq⟩,q⟩
 ·obtain ⟨its,rv,p,hz⟩:=I1.list hq
  refine XO p.isList ?_
  refine ⟨s1.heap.objs.size,[s1.heap.objs.size],_,_,H1,rfl,I1.kept (t':=s1.toks) fun b o e=>Rt _ e,F0 a _,⟨_,RK _ rfl,rfl,rfl⟩,fun b hb=>?_,q⟩
  have e:b=s1.heap.objs.size:=by simpa using hb
  subst e
  exact I1.fpOk (RD _) (I1.hok.fresh (RD _))
 ·obtain ⟨its,rv,p,hz⟩:=I1.tuple hq
  refine a0w (show s1.heap.IsTuple a its.toArray from p) ?_
  refine ⟨s1.heap.objs.size,[s1.heap.objs.size],_,_,H1,rfl,I1.kept (t':=s1.toks) fun b o e=>Rt _ e,F1 a _,⟨_,RK _ rfl,rfl,rfl⟩,fun b hb=>?_,q⟩
  have e:b=s1.heap.objs.size:=by simpa using hb
  subst e
  exact I1.fpOk (RD _) (I1.hok.fresh (RD _))
end
structure Wk (K:Rn)(J:It)(src:Hm->Nat->Option (Option D))(π:Nat->Addr)(n:Nat)(H:Hp):Prop where
 stop:∀ π' μ H' i,Ext π n H π' μ.length H'->Rp K π' H' μ->src μ i=some none->J.stop i H'
 go:∀ π' μ H' i d,Ext π n H π' μ.length H'->Rp K π' H' μ->src μ i=some (some d)->J.go i H'/\∀ x H2,J.yld i H' x H2->Ext π' μ.length H' π' μ.length H2/\Rp K π' H2 μ/\IsD K π' μ.length H2 x d
noncomputable def jR (x:D):Hm->Nat->Option (Option D):=fun μ i=>(bJ μ x).map fun xs=>xs[i]?
theorem IY {K:Rn}{π:Nat->Addr}{μ:Hm}{H:Hp}{v:V}{x:D}{xs:List D}(R:Rp K π H μ)(h:IsD K π μ.length H v x)(hs:bJ μ x=some xs) :
  ∃ a,v=.ref a/\(((∃ vs,SqL K H a vs)/\Wk K (tQ K a) (jR x) π μ.length H)\/((∃ vs,SqT K H a vs)/\Wk K (tR K a) (jR x) π μ.length H)):=by
 cases h with
 | @tup p vs ds q t=>
  refine ⟨p,rfl,.inr ⟨⟨vs,q⟩,⟨fun π' μ' H' i e R' z=>?_,fun π' μ' H' i d e R' z=>?_⟩⟩⟩
  ·simp only [jR,bJ,Sb] at z
   have z':ds[i]? = none:=RY z
   exact ⟨vs,e.sqT q,by rw [t.length];exact Su.mp z'⟩
  ·simp only [jR,bJ,Sb] at z
   have z':ds[i]? = some d:=RY z
   obtain ⟨w,h1,h2⟩:=t.get z'
   refine ⟨⟨vs,w,e.sqT q,h1⟩,fun y H2 ⟨e1,e2⟩=>?_⟩
   subst e1
   have:=e2 vs (e.sqT q)
   rw [h1] at this
   cases this
   exact ⟨.refl,R',h2.mono e⟩
 | @rol p vs ds q t=>
  refine ⟨p,rfl,.inl ⟨⟨vs,q.sq⟩,⟨fun π' μ' H' i e R' z=>?_,fun π' μ' H' i d e R' z=>?_⟩⟩⟩
  ·simp only [jR,bJ,Sb] at z
   have z':ds[i]? = none:=RY z
   exact ⟨vs,(e.roL q).sq,by rw [t.length];exact Su.mp z'⟩
  ·simp only [jR,bJ,Sb] at z
   have z':ds[i]? = some d:=RY z
   obtain ⟨w,h1,h2⟩:=t.get z'
   refine ⟨⟨vs,w,(e.roL q).sq,h1⟩,fun y H2 ⟨e1,e2⟩=>?_⟩
   subst e1
   have:=e2 vs (e.roL q).sq
   rw [h1] at this
   cases this
   exact ⟨.refl,R',h2.mono e⟩
 | @loc a ha=>
  have hc:∃ vs,H (π a)=some (.lst vs):=by
   simp only [bJ] at hs
   split at hs
   ·rename_i ys hy
    obtain ⟨vs,h1,_⟩:=R.lst a ys hy
    exact ⟨vs,h1⟩
   ·cases hs
  obtain ⟨vs0,hv0⟩:=hc
  refine ⟨π a,rfl,.inl ⟨⟨vs0,.of hv0⟩,⟨fun π' μ' H' i e R' z=>?_,fun π' μ' H' i d e R' z=>?_⟩⟩⟩
  ·simp only [jR,bJ] at z
   split at z
   ·rename_i ys hy
    obtain ⟨vs,h1,h2⟩:=R'.lst a ys hy
    rw [e.pi a ha] at h1
    have z':ys[i]? = none:=RY z
    exact ⟨vs,.of h1,by rw [h2.length];exact Su.mp z'⟩
   ·cases z
  ·simp only [jR,bJ] at z
   split at z
   ·rename_i ys hy
    obtain ⟨vs,h1,h2⟩:=R'.lst a ys hy
    rw [e.pi a ha] at h1
    have z':ys[i]? = some d:=RY z
    obtain ⟨w,h3,h4⟩:=h2.get z'
    refine ⟨⟨vs,w,.of h1,h3⟩,fun y H2 ⟨e1,e2⟩=>?_⟩
    subst e1
    have:=e2 vs (.of h1)
    rw [h3] at this
    cases this
    exact ⟨.refl,R',h4⟩
   ·cases z
 | _=>cases hs
noncomputable def dS (src:Hm->Nat->Option (Option D))(g:MG)(b:MS):Nat->Nat->MS
 | 0,_,_,_=>none
 | n+1,i,ρ,μ=>(src μ i).bind fun o=>match o with
  | none=>some (.nx,ρ,μ)
  | some d=>(g d ρ μ).bind fun ρ1=>(b ρ1 μ).bind fun p=>match p.1 with
   | .nx=>dS src g b n (i+1) p.2.1 p.2.2
   | .ct=>dS src g b n (i+1) p.2.1 p.2.2
   | .bk=>some (.nx,p.2.1,p.2.2)
   | .rt d=>some (.rt d,p.2.1,p.2.2)
theorem IZ {K:Rn}{J:It}{src:Hm->Nat->Option (Option D)}{g:MG}{b:MS}{π:Nat->Addr}{n0:Nat}{H0:Hp}(W:Wk K J src π n0 H0){E:Ends}{fl:Fl}{ρ':aH}{μ':Hm}(hE:mP K E π n0 H0 fl ρ' μ')
  {π1:Nat->Addr}{μ1:Hm}{H1:Hp}{ρ1:aH}{σ1:St}{n:Nat}(e1:Ext π n0 H0 π1 μ1.length H1)(R1:Rp K π1 H1 μ1)(E1:En K π1 μ1.length H1 σ1 ρ1)(h:dS src g b n 0 ρ1 μ1=some (fl,ρ',μ')) :
  ∃ Wd:Nat->Nat->St->Hp->Prop,(∃ m,Wd 0 m σ1 H1)/\∀ i m σ H,Wd i m σ H->
   (J.stop i H/\E.nx σ H)\/(J.go i H/\∃ N:St->Hp->Prop,(∀ σ' H',N σ' H'->∃ m',m'<m/\Wd (i+1) m' σ' H')/\∀ x H',J.yld i H x H'->f7 K g x σ H' fun σ2 H2=>cV K b { E with nx:=N,ct:=N,bk:=E.nx } σ2 H2):=by
 have lift:∀ {π2:Nat->Addr}{n2:Nat}{H2:Hp}(e:Ext π n0 H0 π2 n2 H2){fl:Fl}{ρ':aH}{μ':Hm},mP K E π n0 H0 fl ρ' μ'->mP K E π2 n2 H2 fl ρ' μ':=fun {π2 n2 H2} e {fl ρ' μ'} k=>by
  cases fl with
  | nx=>exact fun π3 σ3 H3 e3 R3 E3=>k π3 σ3 H3 (e.trans e3) R3 E3
  | bk=>exact fun π3 σ3 H3 e3 R3 E3=>k π3 σ3 H3 (e.trans e3) R3 E3
  | ct=>exact fun π3 σ3 H3 e3 R3 E3=>k π3 σ3 H3 (e.trans e3) R3 E3
  | rt d=>exact KC.after k e
 refine ⟨fun i m σ H=>∃ π2 μ2 ρ2,Ext π n0 H0 π2 μ2.length H/\Rp K π2 H μ2/\En K π2 μ2.length H σ ρ2/\dS src g b m i ρ2 μ2=some (fl,ρ',μ'),⟨n,π1,μ1,ρ1,e1,R1,E1,h⟩,?_⟩
 rintro i m σ H ⟨π2,μ2,ρ2,e2,R2,E2,h2⟩
 cases m with
 | zero=>cases h2
 | succ m=>
  obtain ⟨o,h3,h4⟩:=Rl.mp h2
  cases o with
  | none=>
   cases h4
   exact .inl ⟨W.stop π2 _ H i e2 R2 h3,hE π2 σ H e2 R2 E2⟩
  | some d=>
   obtain ⟨g1,g2⟩:=W.go π2 μ2 H i d e2 R2 h3
   obtain ⟨ρ3,h5,h6⟩:=Rl.mp h4
   obtain ⟨⟨f4,ρ4,μ4⟩,h7,h8⟩:=Rl.mp h6
   refine .inr ⟨g1,fun σ' H'=>∃ π5 ρ5 μ5,Ext π n0 H0 π5 μ5.length H'/\Rp K π5 H' μ5/\En K π5 μ5.length H' σ' ρ5/\dS src g b m (i+1) ρ5 μ5=some (fl,ρ',μ'),
    fun σ' H' ⟨π5,ρ5,μ5,a1,a2,a3,a4⟩=>⟨m,Wz _,π5,μ5,ρ5,a1,a2,a3,a4⟩,fun x H' y=>?_⟩
   obtain ⟨ex,Rx,hx⟩:=g2 x H' y
   have e2:=e2.trans ex
   refine ⟨π2,ρ2,μ2,d,ρ3,Rx,E2.mono ex,hx,h5,fun σ3 E3=>⟨π2,ρ3,μ2,f4,ρ4,μ4,Rx,E3,h7,?_⟩⟩
   cases f4 with
   | nx=>exact fun π5 σ5 H5 e5 R5 E5=>⟨π5,ρ4,μ4,e2.trans e5,R5,E5,h8⟩
   | ct=>exact fun π5 σ5 H5 e5 R5 E5=>⟨π5,ρ4,μ4,e2.trans e5,R5,E5,h8⟩
   | bk=>
    cases h8
    exact fun π5 σ5 H5 e5 R5 E5=>hE π5 σ5 H5 (e2.trans e5) R5 E5
   | rt d'=>
    cases h8
    exact KC.after hE e2
section
variable {X:Cx}{pos:TC}{tg iter:RI}{body:List Stmt}{mi:ME}{g:MG}{mb:MS}
noncomputable def f9 (lo:Int)(n:Nat):Hm->Nat->Option (Option D):=fun _ i=>some (if i<n then some (.int (lo+i)) else none)
theorem Bc {K:Rn}{lo:Int}{k:Nat}{π:Nat->Addr}{n:Nat}{H:Hp}:Wk K (oC lo k) (f9 lo k) π n H:=by
 refine ⟨fun π' μ H' i e R z=>?_,fun π' μ H' i d e R z=>?_⟩
 ·have z':=RY z
  split at z'
  ·cases z'
  ·exact U5.mp (by assumption)
 ·have z':=RY z
  split at z'
  ·cases z'
   rename_i h
   exact ⟨h,fun x H2 ⟨e1,e2⟩=>by subst e1;rw [e2];exact ⟨.refl,R,.int _⟩⟩
  ·cases z'
end
end L3
namespace L3
open PySem L2
noncomputable def m3 (y:Str):Str:="#"++y
noncomputable def bM (xs N:List Str):List Str:=N.map fun y=>if xs.contains y then m3 y else y
theorem lH (xs N:List Str):(bM xs N).length=N.length:=by unfold bM;simp
theorem Ja {xs N:List Str}{i:Nat}{y:Str}(h:(bM xs N)[i]? = some y):∃ y0,N[i]? = some y0/\((xs.contains y0=true/\y=m3 y0)\/(xs.contains y0=false/\y=y0)):=by
 unfold bM at h
 rw [RR] at h
 obtain ⟨y0,h1,h2⟩:=Rv.mp h
 refine ⟨y0,h1,?_⟩
 cases hc:xs.contains y0 with
 | true=>rw [hc] at h2;exact .inl ⟨rfl,by simpa using h2.symm⟩
 | false=>rw [hc] at h2;exact .inr ⟨rfl,by simpa using h2.symm⟩
noncomputable def cQ (X:Cx)(scope:UN)(cl:List (Str×Addr))(C:Addr)(N:List Str)(s₀:RC)(H₀:Hp)(fp:List Addr):Cx:=
 { X with N:=N,s₀:=s₀,H₀:=H₀,env:=VI scope cl C X.env,outer:=X.stack,stack:=X.stack,ex:=fp,fn:=fun _=>false,pn:=[],xe:=fun _ _=>False }
theorem Bd {env:Xk}:∀ (names:List (Str×UC))(x:Str),(names.map fun (n,k)=>if (k == Uc&&env.scope.kind == .function&&env.kindOf n == some .cell) then (n,Uo) else (n,k)).lookup x
  = (names.lookup x).map fun k=>if (k == Uc&&env.scope.kind == .function&&env.kindOf x == some .cell) then Uo else k
 | [],_=>rfl
 | (n,k)::r,x=>by
  have ih:=Bd (env:=env) r x
  rw [RM]
  by_cases hx:x=n
  ·subst hx
   have key:∀ (k':UC)(l:List (Str×UC)),WS x ((x,k')::l)=some k':=fun k' l=>by simp [VE]
   rw [key]
   show WS x ((if (k == Uc&&env.scope.kind == .function&&env.kindOf x == some .cell)=true then (x,Uo) else (x,k))::_)=some (if (k == Uc&&env.scope.kind == .function&&env.kindOf x == some .cell)=true then Uo else k)
   split
   ·rw [key]
   ·rw [key]
  ·have hx':(x == n)=false:=by simpa using hx
   have key:∀ (k':UC)(l:List (Str×UC)),WS x ((n,k')::l)=WS x l:=fun k' l=>by simp only [VE,hx']
   rw [key]
   show WS x ((if (k == Uc&&env.scope.kind == .function&&env.kindOf n == some .cell)=true then (n,Uo) else (n,k))::_)=_
   split
   ·rw [key]
    exact ih
   ·rw [key]
    exact ih
structure CompOk (X:Cx)(scope:UN)(cl:List (Str×Addr))(xs:List Str):Prop where
 clos:a0z scope X.env=pure cl
 nocell:∀ y∈scope.names,y.2≠.cell
 kind:scope.kind=.function
 names:∀ y∈scope.names,y.2=.local->scope.names.lookup y.1=some .local
 here:∀ x∈xs,scope.names.lookup x=some .local
 sub:∀ y c,cl.lookup y=some c->X.env.cells.lookup y=some c
 free:∀ y,scope.names.lookup y=some .free->(X.env.kindOf y=some .cell\/X.env.kindOf y=some .free)/\∃ c,cl.lookup y=some c
 own:∀ y,scope.names.lookup y=some .local->y∉bM xs X.N
 hidn:∀ y∈X.N,xs.contains y=true->scope.names.lookup (m3 y)=none
section
variable {X:Cx}{scope:UN}{cl:List (Str×Addr)}{xs:List Str}
theorem CompOk.kindOf (O:CompOk X scope cl xs)(C:Addr)(y:Str):(VI scope cl C X.env).kindOf y=(scope.names.lookup y).map fun k=>if (k == Uc&&X.env.scope.kind == .function&&X.env.kindOf y == some .cell) then Uo else k:=
 Bd scope.names y
theorem CompOk.outer (O:CompOk X scope cl xs){C:Addr}{y:Str}(h:(VI scope cl C X.env).kindOf y=some .cell\/(VI scope cl C X.env).kindOf y=some .free):scope.names.lookup y=some .free:=by
 rw [O.kindOf] at h
 cases q:scope.names.lookup y with
 | none=>rw [q] at h;rcases h with h|h<;>cases h
 | some k=>
  rw [q] at h
  cases k with
  | free=>rfl
  | cell=>exact absurd rfl (O.nocell _ (S6 q))
  | «local»=>rcases h with h|h<;>simp at h
  | globalExplicit=>rcases h with h|h<;>simp at h
  | globalImplicit=>rcases h with h|h<;>simp at h
theorem CompOk.inv {a1Z:List (Addr×TK)}{σ:St}{H:Hp}{s:RC}{fp:List Addr}{h₁:SO}{tk:Nat}(O:CompOk X scope cl xs)(I:Inv X a1Z σ H s)(hfp:∀ b∈fp,gT X a1Z H b)(hob:∀ b∈fp,∃ o,s.heap.get? b=some o){m:Str->Option Ru}
  (hns:h₁.Ns s.heap.objs.size m)(hk:∀ b o,s.heap.get? b=some o->h₁.get? b=some o) :
  Inv (cQ X scope cl s.heap.objs.size (bM xs X.N++xs) s H fp) [] (σ++T4 xs.length none) H { s with heap:=h₁,toks:=tk }:=by
 refine ⟨⟨I.ok.mod,O.kind,I.ok.glob,I.ok.blt,RD _,fun y z c h1 h2=>?_,fun y hy=>?_,(fun y c h=>by cases h),I.ok.hd,I.ok.frames,.inl rfl,fun b hb=>?_,fun b o e=>I.bs b o e,SQ I.ok.bsz I.sz,fun b o e hb=>?_,fun b hb hb2=>?_,I.stack,I.stkFree⟩,
  rfl,I.bare,Un.kept hk,⟨m,hns,fun i y v h1 h2 h3=>?_⟩,fun y c h=>?_,I.hok.fresh (RD _),fun y c h=>I.freeC y c (O.sub y c h),fun p hp=>absurd (show p∈([]:List (Addr×TK)) from hp) (by simp),I.hok.kept hk,?_⟩
 ·exact I.ok.inj y z c (O.sub y c h1) (O.sub z c h2)
 ·exact (O.free y (O.outer hy)).2
 ·obtain ⟨f0,f1,f2,f3,f4,f5⟩:=hfp b hb
  obtain ⟨o,ho⟩:=hob b hb
  exact ⟨RT (RH ho),fun y c h=>f4 y c (O.sub y c h)⟩
 ·obtain ⟨f0,f1,f2,f3,f4,f5⟩:=hfp b hb
  rcases f3 with f3|f3
  ·exact I.ok.noex b o e f3
  ·exact absurd (Si (RH (I.ok.bs b o e).1) f3) (UA _)
 ·obtain ⟨f0,f1,f2,f3,f4,f5⟩:=hfp b hb
  rcases Sa.mp (I.stkSub b hb2) with z|z
  ·exact f1 z
  ·exact f2 z
 ·have hi:i<σ.length:=by
   by_cases hi:i<σ.length
   ·exact hi
   ·rw [TR (U5.mp hi),UE] at h2
    split at h2<;>cases h2
  rw [Sw hi] at h2
  have h0':(bM xs X.N)[i]? = some y:=by
   have h1'':(bM xs X.N++xs)[i]? = some y:=h1
   rw [Sw (by rw [lH,<- I.len];exact hi)] at h1''
   exact h1''
  have notown:scope.names.lookup y≠some .local:=fun z=>O.own y z (Sf h0')
  have hk':=O.kindOf s.heap.objs.size y
  have h1':X.N[i]? = some y:=by
   obtain ⟨y0,q1,q2⟩:=Ja h0'
   rcases q2 with ⟨q2,q3⟩|⟨q2,q3⟩
   ·exfalso
    have hz:=O.hidn y0 (Sf q1) q2
    rw [<- q3] at hz
    rw [hz] at hk'
    have h3':(VI scope cl s.heap.objs.size X.env).kindOf y=some .local\/(VI scope cl s.heap.objs.size X.env).kindOf y=some .cell\/(VI scope cl s.heap.objs.size X.env).kindOf y=some .free:=h3
    rw [hk'] at h3'
    rcases h3' with h3'|h3'|h3'<;>cases h3'
   ·rw [q3];exact q1
  have h3':(VI scope cl s.heap.objs.size X.env).kindOf y=some .cell\/(VI scope cl s.heap.objs.size X.env).kindOf y=some .free:=by
   rcases h3 with h3|h3|h3
   ·exfalso
    have h3':(VI scope cl s.heap.objs.size X.env).kindOf y=some .local:=h3
    rw [hk'] at h3'
    cases q:scope.names.lookup y with
    | none=>rw [q] at h3';cases h3'
    | some k=>
     rw [q] at h3'
     cases k with
     | «local»=>exact notown q
     | cell=>simp at h3'
     | free=>
      simp only [Sb] at h3'
      split at h3'<;>cases h3'
     | globalExplicit=>simp at h3'
     | globalImplicit=>simp at h3'
   ·exact .inl h3
   ·exact .inr h3
  obtain ⟨hf,c,hc⟩:=O.free y (O.outer h3')
  obtain ⟨m0,hn0,hl0⟩:=I.loc
  obtain ⟨u,r,l⟩:=hl0 i y v h1' h2 (by rcases hf with hf|hf;exact .inr (.inl hf);exact .inr (.inr hf))
  refine ⟨u,r,.inr ⟨h3',c,hc,?_⟩⟩
  rcases l with ⟨lk,_⟩|⟨_,c',e',z⟩
  ·exfalso
   rcases hf with hf|hf
   ·rw [hf] at lk;cases lk
   ·rw [hf] at lk;cases lk
  ·rw [O.sub y c hc] at e'
   cases e'
   obtain ⟨o,ho,hd⟩:=z
   exact ⟨o,hk c o ho,hd⟩
 ·obtain ⟨v,q⟩:=I.cell y c (O.sub y c h)
  exact ⟨v,by obtain ⟨o,ho,hd⟩:=q;exact ⟨o,hk c o ho,hd⟩⟩
 ·show (σ++T4 xs.length none).length=(bM xs X.N++xs).length
  rw [RV,RV,I.len,Uk,lH]
theorem CompOk.back {a1Z pl:List (Addr×TK)}{σ σ':St}{H H':Hp}{s s1:RC}{fp:List Addr}{h':SO}{N:List Str}(I:Inv X a1Z σ H s)(hfp:∀ b∈fp,gT X a1Z H b)
  (J:Inv (cQ X scope cl s.heap.objs.size N s H fp) pl σ' H' s1)(hs:∀ b o,b≠s.heap.objs.size->s1.heap.get? b=some o->h'.get? b=some o):Inv X a1Z σ H' { s1 with heap:=h' }:=by
 have u:Un (gR X.stack) fp H H' s.heap h':=by
  have u0:Un (gR X.stack) fp H H' s.heap s1.heap:=J.base
  have ne:∀ b o,s.heap.get? b=some o->b≠s.heap.objs.size:=fun b o e=>RT (RH e)
  refine ⟨fun b o e n hb hx=>hs b o (ne b o e) (u0.keep b o e n hb hx),fun b o e n hb hx=>?_,u0.free,fun b o e hx=>?_,u0.tups,u0.frzs,u0.tbls⟩
  ·obtain ⟨sl,q⟩:=u0.slot b o e n hb hx
   exact ⟨sl,hs b _ (ne b o e) q⟩
  ·obtain ⟨o',q⟩:=u0.there b o e hx
   exact ⟨o',hs b _ (ne b o e) q⟩
 have hfree:H' s.heap.objs.size=none:=J.free
 have hok:HOk X.prog X.w H' h':=fun b v e=>by
  refine (J.hok b v e).stay (fun c w hc q=>hs c w ?_ q) (fun _ q=>q) fun _ _ q=>q
  rcases hc with z|z
  ·rw [z]
   intro z2
   rw [z2,hfree] at e
   cases e
  ·intro z2
   rw [z2,hfree] at z
   cases z
 have hos:s1.os=s.os:=J.os
 obtain ⟨hh,g,d,t,os'⟩:=s1
 obtain rfl:os'=s.os:=hos
 have r:=Inv.call (X:=X) (a1Z:=a1Z) (σ:=σ) (H:=H) (s:=s) (h':=h') (g':=g) (d':=d) (t':=t) (ch:=fp) I u hok J.bare fun b hb=>let ⟨f0,f1,f2,f3,f4,f5⟩:=hfp b hb;⟨f3,f1,f4,f5⟩
 exact r
end
theorem Jb {prog:R8}{w:Sy}{A:Sn}{R:YX->RC->Prop}{s:RC}{elt target iter:RI}{ifs:List RI}{scope:UN}{pos:TC}{it acc:Ru}{env:Xk}(I:Nat->RC->Prop)
  (turn:∀ n s,I n s->RQ (R0 prog w) A (V8 it) (fun r s₁=>match r with
   | none=>R (.ok .next) s₁
   | some v=>RQ (R0 prog w) A (WX target it v) (fun _ s₁'=>RQ (R0 prog w) A (XE target env v) (fun _ s₂=>
     RQ (R0 prog w) A (forIn ifs true fun c r=>if r=true then do let ok <- ZC c env (eval c env);pure (U8 ok) else pure (U8 r)) (fun ok s₃=>
      if ok=true then RQ (R0 prog w) A (eval elt env) (fun x s₄=>
       RQ (R0 prog w) A (call (.builtin "list.append") [acc,x]) (fun _ s₅=>∃ m,m<n/\I m s₅) (fun _ _=>False) s₄) (fun _ _=>False) s₃
      else ∃ m,m<n/\I m s₃) (fun _ _=>False) s₂) (fun _ _=>False) s₁') (fun _ _=>False) s₁) (fun _ _=>False) s)
  (n:Nat)(h:I n s) :
  VY (R0 prog w) A (.compLoop (.ListComp elt [⟨target,iter,ifs,0⟩] scope pos) 0 it acc env) R s:=by
 refine codeAny_loop rfl I (fun n s hI=>?_) n h
 show RQ _ A ((compTurn (.ListComp elt [⟨target,iter,ifs,0⟩] scope pos) 0 it acc env).onRaise (fun x=>do noteFrame x env;theTreesLotGoes x)) _ _ s
 refine wpAny_noted ?_
 rw [compTurn_list]
 refine Rm (Ze (Rm (S5 (turn n s hI) (fun r s₁ h₁=>?_) fun _ _ h'=>h'.elim)))
 cases r with
 | none=>exact Ry h₁
 | some v=>
  refine Rm (S5 h₁ (fun _ s₁' h₁'=>?_) fun _ _ h'=>h'.elim)
  refine Rm (S5 h₁' (fun _ s₂ h₂=>Rm (S5 h₂ (fun ok s₃ h₃=>?_) fun _ _ h'=>h'.elim)) fun _ _ h'=>h'.elim)
  cases ok with
  | false=>exact Ry ⟨rfl,h₃⟩
  | true=>
   exact Rm (Rm (S5 h₃ (fun x s₄ h₄=>Rm (S5 h₄ (fun _ s₅ h₅=>Ry (Ry ⟨rfl,h₅⟩)) fun _ _ h'=>h'.elim)) fun _ _ h'=>h'.elim))
noncomputable def m4 (μ:Hm)(a:Nat)(y:D):Option Hm:=match μ[a]? with
 | some (.lst xs)=>if xs.length<RL then some (μ.set a (.lst (xs++[y]))) else none
 | _=>none
noncomputable abbrev BD:=D->Hm->Option aH
noncomputable def oM:BD:=fun d _=>some [some d]
noncomputable def uX (k:Nat):BD:=fun d μ=>(bJ μ d).bind fun xs=>if xs.length=k then some (xs.map some) else none
noncomputable def gA (src:Hm->Nat->Option (Option D))(bd:BD)(c:MT)(e:ME)(ρ:aH)(a0:Nat):Nat->Nat->Hm->Option Hm
 | 0,_,_=>none
 | n+1,i,μ=>(src μ i).bind fun o=>match o with
  | none=>some μ
  | some d=>(bd d μ).bind fun x=>(c (ρ++x) μ).bind fun p=>match p.1 with
   | true=>(e (ρ++x) p.2).bind fun q=>(m4 q.2 a0 q.1).bind fun μ3=>gA src bd c e ρ a0 n (i+1) μ3
   | false=>gA src bd c e ρ a0 n (i+1) p.2
noncomputable def lI:MT:=fun _ μ=>some (true,μ)
noncomputable def m5 (X:Cx)(ifs:List RI)(m:MT):Prop:=
 ∀ (a1Z:List (Addr×TK))(s:RC)(σ:St)(H:Hp)(Q:Bool->Hp->Prop),Inv X a1Z σ H s->cR X.K m σ H Q->
  RQ (R0 X.prog X.w) X.A (forIn ifs true fun c r=>if r=true then do let ok <- ZC c X.env (eval c X.env);pure (U8 ok) else pure (U8 r)) (TP X a1Z σ Q) X.xe s
theorem Jc {X:Cx}:m5 X [] lI:=by
 intro a1Z s σ H Q I h
 obtain ⟨π,ρ,μ,b,μ',R,E,hm,k⟩:=h
 cases hm
 exact wpAny_tests_nil ⟨H,I,k π H .refl R⟩
theorem Jd {X:Cx}{c:RI}{m:MT}(h:PT X c (cR X.K m)):m5 X [c] m:=fun a1Z s σ H Q I q=>wpAny_tests_one (h a1Z s σ H Q I q)
end L3
namespace L3
open PySem L2
section
variable {prog:R8}{w:Sy}{A:Sn}{E:Ru->RC->Prop}{s:RC}
theorem Be {it t:Addr}{items:Array Ru}(hne:t≠it):∀ (n i:Nat)(s:RC)(Q:List Ru->RC->Prop),s.heap.IsListIter it t i->s.heap.IsList t items->i+n<=items.size->
  (∀ h',h'.IsListIter it t (i+n)->T1 it s.heap h'->Q ((items.toList.drop i).take n) { s with heap:=h' })->RQ (R0 prog w) A (draw (.ref it) n) Q E s
 | 0,i,s,Q,hit,_,_,hQ=>by
  show RQ _ _ (pure []) Q E s
  exact Ry (by simpa using hQ s.heap hit (Ym ..))
 | n+1,i,s,Q,hit,ht,hle,hQ=>by
  have hlt:i<items.size:=by omega
  show RQ _ _ (V8 (.ref it) >>= _) Q E s
  refine Rm (Zv hit ht (x:=items[i]) (by simp [hlt]) fun h₁ hit₁ hs₁=>?_)
  refine Rm (SN (Be hne n (i+1) _ _ hit₁ (ht.extBut hs₁.extBut hne) (by omega) fun h₂ hit₂ hs₂=>Ry ?_))
  have hd:items.toList.drop i=items[i]::items.toList.drop (i+1):=by simp [Yl,hlt]
  have:=hQ h₂ (by rw [show i+(n+1)=i+1+n by omega];exact hit₂) (hs₁.trans hs₂)
  rw [hd,List.take_succ_cons] at this
  exact this
theorem Je {t:Addr}{items:Array Ru}{Q:List Ru->RC->Prop}(hh:A.handled=none)(ht:s.heap.IsList t items)
  (hQ:∀ h',Wj s.heap.objs.size s.heap h'->Q items.toList { s with heap:=h' }):RQ (R0 prog w) A (unpackItems (.ref t) items.size none) Q E s:=by
 have hlt:t≠s.heap.objs.size:=by obtain ⟨o,ho,_⟩:=ht;exact RT (RH ho)
 unfold unpackItems
 refine Rm ?_
 ·unfold notIterableAtAll
  refine Rm (Vs ht.typeIs slot_list_iter.lookup ?_)
  refine Ry ?_
  simp only [RE,if_false]
  refine Rm (SN (XO ht ?_))
  refine Rm (SN (Be hlt items.size 0 _ _ ⟨_,RK _ rfl,rfl,rfl⟩ (ht.push _) (by omega) fun h₁ hit₁ hs₁=>?_))
  have hall:List.take items.size (List.drop 0 items.toList)=items.toList:=by
   rw [List.drop_zero];exact UI (by simp)
  rw [hall]
  rw [if_neg (by simp)]
  have ht₁:h₁.IsList t items:=(ht.push _).extBut hs₁.extBut hlt
  refine Rm (SN (ZU hh hit₁ ht₁ (by simp) fun h₂ he₂=>?_))
  simp only [Y9,RE,if_false]
  refine Ry (hQ h₂ fun b o hb e=>he₂ b o hb (hs₁.extBut b o hb (Rt _ e)))
theorem Jf {env:Xk}{elts:List RI} {x1} {pos:TC}{t:Addr}{items:Array Ru}{Q:Unit->RC->Prop}(hh:A.handled=none)(ht:s.heap.IsList t items)
  (hn:(Ui elts env).length=items.size)(hstar:(Ui elts env).findIdx? (·.1)=none)
  (h:∀ h',Wj s.heap.objs.size s.heap h'->RQ (R0 prog w) A (assignInOrder ((Ui elts env).map (·.2)) items.toList) Q E { s with heap:=h' }) :
  RQ (R0 prog w) A (XE (.Tuple elts x1 pos) env (.ref t)) Q E s:=by
 rw [a1C]
 refine Rm (Ze ?_)
 unfold unpack
 rw [hn,hstar]
 exact Rm (SN (Je hh ht h))
end
noncomputable def lJ:aH->List Nat->List D->aH
 | ρ,i::is,x::xs=>lJ (ρ.set i (some x)) is xs
 | ρ,_,_=>ρ
noncomputable def cL (is:List Nat):MG:=fun d ρ μ=>(bJ μ d).bind fun xs=>if xs.length=is.length then some (lJ ρ is xs) else none
noncomputable def qY:List Nat->mM
 | []=>zU
 | i::r=>zV (tP i) (qY r)
theorem uY {K:Rn}{π:Nat->Addr}{n:Nat}{H:Hp}:∀ (is:List Nat){vs:List V}{xs:List D}{σ:St}{ρ:aH}{Q:St->Hp->Prop},IsDs K π n H vs xs->En K π n H σ ρ->xs.length=is.length->(∀ σ',En K π n H σ' (lJ ρ is xs)->Q σ' H)->qY is vs σ H Q
 | [],vs,xs,σ,ρ,Q,h,E,hl,k=>by
  cases h with
  | nil=>exact ⟨rfl,k σ E⟩
  | cons h t=>cases hl
 | i::is,vs,xs,σ,ρ,Q,h,E,hl,k=>by
  cases h with
  | nil=>cases hl
  | cons h t=>exact ⟨_,_,rfl,uY is t (E.set h i) (by simpa using hl) k⟩
section
variable {X:Cx}{pos:TC}
theorem Jg {es:List RI}{k:Nat}{is:List Nat}(hc:X.calm=true)(h:n6 X es (qY is))(hn:(Ui es X.env).length=is.length:=by rfl)(hst:(Ui es X.env).findIdx? (·.1)=none:=by rfl) :
  PG X (.Tuple es k pos) (f7 X.K (cL is)):=by
 intro a1Z s σ H v u Q I r hw
 obtain ⟨π,ρ,μ,d,ρ',R,E,hd,hm,kk⟩:=hw
 obtain ⟨xs,h1,h2⟩:=Rl.mp hm
 split at h2
 ·rename_i hl
  cases h2
  have both:(∃ a vs,v=.ref a/\SqT X.K H a vs/\IsDs X.K π μ.length H vs xs)\/(∃ a vs,v=.ref a/\SqL X.K H a vs/\IsDs X.K π μ.length H vs xs):=by
   cases hd with
   | tup q t=>cases h1;exact .inl ⟨_,_,rfl,q,t⟩
   | rol q t=>cases h1;exact .inr ⟨_,_,rfl,q.sq,t⟩
   | @loc a ha=>
    simp only [bJ] at h1
    split at h1
    ·rename_i ys hy
     cases h1
     obtain ⟨vs,h3,h4⟩:=R.lst a xs hy
     exact .inr ⟨_,vs,rfl,.of h3,h4⟩
    ·cases h1
   | _=>cases h1
  rcases both with ⟨a,vs,rfl,q,t⟩|⟨a,vs,rfl,q,t⟩
  ·cases r
   obtain ⟨its,rv,ht,hz⟩:=I.tuple q
   have hlen:its.length=is.length:=by rw [<- rv.length,t.length];exact hl
   refine a1B (I.ok.hd hc) ht (by simp [hn,hlen]) hst fun h' hx=>?_
   have I1:Inv X a1Z σ H { s with heap:=h' }:=I.kept (t':=s.toks) fun b o e=>hx b o (RT (RH e)) e
   exact h a1Z _ σ H vs _ Q I1 (by simpa using rv) (uY is t E hl kk)
  ·cases r
   obtain ⟨its,rv,ht,hz⟩:=I.list q
   have hlen:its.length=is.length:=by rw [<- rv.length,t.length];exact hl
   refine Jf (I.ok.hd hc) ht.isList (by simp [hn,hlen]) hst fun h' hx=>?_
   have I1:Inv X a1Z σ H { s with heap:=h' }:=I.kept (t':=s.toks) fun b o e=>hx b o (RT (RH e)) e
   exact h a1Z _ σ H vs _ Q I1 (by simpa using rv) (uY is t E hl kk)
 ·cases h2
noncomputable def eK (m:ME)(g:MG):MS:=fun ρ μ=>(m ρ μ).bind fun p=>(g p.1 ρ p.2).map fun ρ'=>(.nx,ρ',p.2)
theorem Jh {tg e:RI}{m:ME}{g:MG}(he:PE X e (tM X.K m))(hg:PG X tg (f7 X.K g))(hs:swapsWithSole [tg] e pos.line X.env=pure false:=by rfl)(hw:Zg [tg] e X.env=pure none:=by rfl)
  (h1:(Ui [tg] X.env).map (·.2)=[XE tg X.env]:=by rfl):PS X (.Assign [tg] e pos) (cV X.K (eK m g)):=iS (FY he hg hs hw h1) (by
 rintro E σ H ⟨π,ρ,μ,fl,ρ',μ',R,EN,hm,k⟩
 obtain ⟨⟨x,μ1⟩,h1,hm⟩:=Rl.mp hm
 obtain ⟨ρ1,h2,hm⟩:=Rv.mp hm
 cases hm
 exact ⟨π,ρ,μ,x,μ1,R,EN,h1,fun π1 v1 H1 e1 R1 i1=>⟨π1,ρ,_,x,_,R1,EN.mono e1,i1,h2,fun σ' E'=>k π1 σ' H1 e1 R1 E'⟩⟩)
end
section
variable {X:Cx}{K:Rn}
noncomputable def oN:MF:=fun ds μ=>match ds with
 | [.str z]=>if z.length<=RL then some (.int z.length,μ) else none
 | [x]=>(bJ μ x).map fun xs=>(.int xs.length,μ)
 | _=>none
noncomputable def uZ (K:Rn):List V->Hp->VK->Prop:=fun xs H Q=>(∃ p ys,xs=[.ref p]/\(SqL K H p ys\/SqT K H p ys)/\Q (.int ys.length) H)\/(∃ z,xs=[.str z]/\z.length<=RL/\Q (.int z.length) H)
theorem call_lenM:CallR X (.builtin "len") (uZ X.K):=call_len_seq.or Hf
theorem oO {π:Nat->Addr}{μ:Hm}{H:Hp}{v:V}{x:D}{xs:List D}(R:Rp K π H μ)(h:IsD K π μ.length H v x)(e:bJ μ x=some xs):∃ p vs,v=.ref p/\(SqL K H p vs\/SqT K H p vs)/\IsDs K π μ.length H vs xs:=by
 cases h with
 | tup q t=>cases e;exact ⟨_,_,rfl,.inr q,t⟩
 | rol q t=>cases e;exact ⟨_,_,rfl,.inl q.sq,t⟩
 | @loc a ha=>
  simp only [bJ] at e
  split at e
  ·rename_i ys hy
   cases e
   obtain ⟨vs,h3,h4⟩:=R.lst a xs hy
   exact ⟨_,vs,rfl,.inl (.of h3),h4⟩
  ·cases e
 | _=>cases e
theorem Bf:dA K oN (uZ K):=by
 intro π H μ xs d μ' vs Q R i hm k
 unfold oN at hm
 split at hm
 ·split at hm
  ·rename_i hl
   cases hm
   cases i with
   | cons i t=>cases i;cases t;exact .inr ⟨_,rfl,hl,k π _ H .refl R (.int _)⟩
  ·cases hm
 ·obtain ⟨ys,h1,h2⟩:=Rv.mp hm
  cases h2
  cases i with
  | cons i t=>
   cases t
   obtain ⟨p,ws,rfl,q,hd⟩:=oO R i h1
   refine .inl ⟨p,ws,rfl,q,?_⟩
   rw [hd.length]
   exact k π _ H .refl R (.int _)
 ·cases hm
noncomputable def oP:MF:=fun ds μ=>match ds with
 | [x]=>(bJ μ x).map fun xs=>(.loc μ.length,μ++[.lst xs])
 | _=>none
theorem Bg:dA K oP (fun xs H Q=>∃ p ys,xs=[.ref p]/\(SqL K H p ys\/SqT K H p ys)/\∀ l,H l=none->Q (.ref l) (aI H l (.lst ys))):=by
 intro π H μ xs d μ' vs Q R i hm k
 unfold oP at hm
 split at hm
 ·obtain ⟨ys,h1,h2⟩:=Rv.mp hm
  cases h2
  cases i with
  | cons i t=>
   cases t
   obtain ⟨p,ws,rfl,q,hd⟩:=oO R i h1
   refine ⟨p,ws,rfl,q,fun l hl=>?_⟩
   obtain ⟨e2,R2,_⟩:=R.alloc (c:=.lst ys) (o:=.lst ws) hl hd
   exact k _ _ _ e2 R2 gW
 ·cases hm
noncomputable def Bh (K:Rn):List V->Hp->VK->Prop:=fun vs H Q=>∃ π μ x v t c b,vs=[v,.ty c]/\Rp K π H μ/\IsD K π μ.length H v x/\qW μ x=some t/\qX t c=some b/\Q (.bl b) H
theorem Ji:dA K dR (Bh K):=by
 intro π H μ xs d μ' vs Q R i hm k
 unfold dR at hm
 split at hm
 ·obtain ⟨t,h1,hm⟩:=Rl.mp hm
  obtain ⟨b,h2,hm⟩:=Rv.mp hm
  cases hm
  cases i with
  | cons i t1=>
   cases t1 with
   | cons i2 t2=>
    cases t2
    cases i2
    exact ⟨π,_,_,_,t,_,b,rfl,R,i,h1,h2,k π _ H .refl R (.bl _)⟩
 ·cases hm
theorem Jj:CallR X (.builtin "isinstance") (Bh X.K):=by
 intro a1Z s σ H xs us Q I r h
 obtain ⟨π,μ,x,v,t,c,b,rfl,R,i,h1,h2,q⟩:=h
 obtain ⟨u,u2,rfl,r1,r2⟩:=t4 r
 cases r2
 have fin:∀ tk,EP X a1Z σ Q (.bool b) { s with toks:=tk }:=fun tk=>⟨.bl b,H,I.tok tk,rfl,q⟩
 cases i with
 | non=>cases h1;cases r1;exact T7 PySem.W.kitx_none I.kIn Uy (jQ X.K (by simp) h2) (fun z=>nomatch z) fin
 | bl y=>cases h1;cases r1;exact T7 PySem.W.kitx_bool I.kIn Uy (jQ X.K (by simp) h2) (fun z=>nomatch z) fin
 | int y=>cases h1;obtain ⟨t,rfl⟩:=r1;exact T7 PySem.W.kitx_int I.kIn Uy (jQ X.K (by simp) h2) (fun z=>nomatch z) fin
 | str y=>cases h1;obtain ⟨t,rfl⟩:=r1;exact T7 PySem.W.kitx_str I.kIn Uy (jQ X.K (by simp) h2) (fun z=>nomatch z) fin
 | tup g t=>
  cases h1
  cases r1
  obtain ⟨its,r',p,_⟩:=I.tuple g
  obtain ⟨o,e1,e2,_⟩:=p
  exact T7 PySem.W.kitx_tuple I.kIn ⟨o,e1,e2⟩ (jQ X.K (by simp) h2) (fun z=>nomatch z) fin
 | rol g t=>
  cases h1
  cases r1
  obtain ⟨its,r',p,_⟩:=I.list g.sq
  obtain ⟨o,e1,e2,_⟩:=p.isList
  exact T7 Y5 I.kIn ⟨o,e1,e2⟩ (jQ X.K (by simp) h2) (fun z=>nomatch z) fin
 | @loc a ha=>
  cases r1
  simp only [qW] at h1
  split at h1
  ·rename_i xs hx
   cases h1
   obtain ⟨vs,h3,h4⟩:=R.lst a xs hx
   obtain ⟨its,r',p,_⟩:=I.list (SqL.of (K:=X.K) h3)
   obtain ⟨o,e1,e2,_⟩:=p.isList
   exact T7 Y5 I.kIn ⟨o,e1,e2⟩ (jQ X.K (by simp) h2) (fun z=>nomatch z) fin
  ·rename_i kvs hx
   cases h1
   obtain ⟨vs,h3,_⟩:=R.dK a kvs hx
   obtain ⟨_,_,ws,_,p⟩:=(show ObjOk X.prog X.w H s.heap (π a) (.dK vs) from I.hok _ _ h3)
   obtain ⟨o,es,ep,e1,e2,_⟩:=p
   exact T7 Y6 I.kIn ⟨o,e1,e2.1⟩ (jQ X.K (by simp) h2) (fun z=>nomatch z) fin
  ·rename_i kvs hx
   cases h1
   obtain ⟨vs,h3,_⟩:=R.dT a kvs hx
   obtain ⟨⟨ws,_,_,_,o,es,ep,e1,e2,_⟩,_⟩:=(show ObjOk X.prog X.w H s.heap (π a) (aS (π a) vs) from I.hok _ _ h3)
   exact T7 Y6 I.kIn ⟨o,e1,e2.1⟩ (jQ X.K (by simp) h2) (fun z=>nomatch z) fin
  ·cases h1
 | ty n=>cases h1
end
noncomputable def m7 (kvs:List (a9×D))(k:a9):Option D:=(kvs.find? fun kv=>decide (kv.1=k)).map (·.2)
inductive IsKs (K:Rn)(π:Nat->Addr)(n:Nat)(H:Hp):List (a9×V)->List (a9×D)->Prop where
 | nil:IsKs K π n H [] []
 | cons {k:a9}{v:V}{d:D}{vs:List (a9×V)}{ds:List (a9×D)}(h:IsD K π n H v d)(t:IsKs K π n H vs ds):IsKs K π n H ((k,v)::vs) ((k,d)::ds)
section
variable {K:Rn}{π π':Nat->Addr}{n n':Nat}{H H':Hp}
theorem IsKs.of:∀ {vs:List (a9×V)}{ds:List (a9×D)},vs.map (·.1)=ds.map (·.1)->IsDs K π n H (vs.map (·.2)) (ds.map (·.2))->IsKs K π n H vs ds
 | [],[],_,_=>.nil
 | [],_::_,h,_=>by cases h
 | _::_,[],h,_=>by cases h
 | (k,v)::vs,(k',d)::ds,h,t=>by
  rw [RM,RM] at h t
  injection h with h1 h2
  dsimp only at h1
  subst h1
  cases t with
  | cons t1 t2=>exact .cons t1 (IsKs.of h2 t2)
theorem IsKs.append {vs ws:List (a9×V)}{ds es:List (a9×D)}(h:IsKs K π n H vs ds)(h2:IsKs K π n H ws es):IsKs K π n H (vs++ws) (ds++es):=by
 induction h with
 | nil=>exact h2
 | cons h t ih=>exact .cons h ih
theorem IsKs.any {vs:List (a9×V)}{ds:List (a9×D)}(h:IsKs K π n H vs ds)(k:a9):(vs.any fun kv=>decide (kv.1=k))=ds.any fun kv=>decide (kv.1=k):=by
 induction h with
 | nil=>rfl
 | cons h t ih=>rw [Wo,Wo,ih]
theorem IsKs.val {vs:List (a9×V)}{ds:List (a9×D)}(h:IsKs K π n H vs ds)(k:a9):(m7 ds k=none/\d7 vs k=none)\/∃ v d,m7 ds k=some d/\d7 vs k=some v/\IsD K π n H v d:=by
 induction h with
 | nil=>exact .inl ⟨rfl,rfl⟩
 | @cons k' v' d' vs ds h t ih=>
  by_cases e:k'=k
  ·exact .inr ⟨v',d',by simp [m7,SK,e],by simp [d7,SK,e],h⟩
  ·have e1:m7 ((k',d')::ds) k=m7 ds k:=by simp [m7,SK,e]
   have e2:d7 ((k',v')::vs) k=d7 vs k:=by simp [d7,SK,e]
   rw [e1,e2]
   exact ih
theorem IsKs.length {vs:List (a9×V)}{ds:List (a9×D)}(h:IsKs K π n H vs ds):vs.length=ds.length:=by
 induction h with
 | nil=>rfl
 | cons h t ih=>rw [SD,SD,ih]
end
noncomputable def Jk (K:Rn)(prs:List (ME×ME)):List (TE×TE):=prs.map fun p=>(tM K p.1,tM K p.2)
section
variable {X:Cx}{a b c:RI}{ma mb mc:ME}{pos:TC}
end
theorem gE {k:Nat}{A:Sn}(r:Room k A):A.units+1<TN:=by have:=r.un;omega
noncomputable def iU (ma:ME):ME:=fun ρ μ=>(ma ρ μ).bind fun p=>(uQ p.1).map fun d=>(d,p.2)
end L3
namespace L3
open PySem L2
noncomputable def fL (cells:List (Str×Addr)):List (Str×UC)->List (Str×Addr)->List (Str×Addr)
 | [],acc=>acc
 | (n,k)::r,acc=>if k=.free then (match cells.lookup n with|some c=>fL cells r ((n,c)::acc)|none=>fL cells r acc) else fL cells r acc
theorem Bi {env:Xk}:∀ (names:List (Str×UC))(acc:List (Str×Addr)),(∀ y∈names,y.2=.free->∃ c,env.cells.lookup y.1=some c)->
  (forIn names acc fun (x:Str×UC)(cs:List (Str×Addr))=>(do
   if x.2 == .free then (do let c <- cellOf env x.1;pure (U8 ((x.1,c)::cs))) else pure (U8 cs):a1n (ForInStep (List (Str×Addr)))))=pure (fL env.cells names acc)
 | [],acc,_=>rfl
 | (n,k)::r,acc,h=>by
  have ih:=fun acc=>Bi r acc fun y hy=>h y (RP _ hy)
  rw [a0k]
  by_cases hk:k=.free
  ·subst hk
   obtain ⟨c,hc⟩:=h (n,.free) (RX ..) rfl
   dsimp only at hc
   have e:cellOf env n=pure c:=by unfold cellOf;rw [hc]
   simp only [fL,hc,e,beq_self_eq_true,if_true,pure_bind]
   exact ih _
  ·have e:(k == Uc)=false:=by simpa using hk
   simp only [fL,e,hk,if_false,RE,pure_bind]
   exact ih _
theorem Jl {scope:UN}{env:Xk}(h:∀ y∈scope.names,y.2=.free->∃ c,env.cells.lookup y.1=some c):a0z scope env=pure (fL env.cells scope.names []):=by
 have:=Bi (env:=env) scope.names [] h
 unfold a0z
 simp only [bind_pure] at *
 exact this
theorem qZ {cells:List (Str×Addr)}:∀ (names:List (Str×UC))(acc:List (Str×Addr)),(∀ y c,acc.lookup y=some c->cells.lookup y=some c)->∀ y c,(fL cells names acc).lookup y=some c->cells.lookup y=some c
 | [],acc,h=>h
 | (n,k)::r,acc,h=>by
  unfold fL
  split
  ·split
   ·rename_i c0 hc
    refine qZ r _ fun y c e=>?_
    rw [VE] at e
    by_cases hy:y=n
    ·subst hy
     simp only [beq_self_eq_true] at e
     cases e
     exact hc
    ·have:(y == n)=false:=by simpa using hy
     rw [this] at e
     exact h y c e
   ·exact qZ r acc h
  ·exact qZ r acc h
theorem q0 {cells:List (Str×Addr)}:∀ (names:List (Str×UC))(acc:List (Str×Addr))(y:Str),(∃ c,acc.lookup y=some c)->∃ c,(fL cells names acc).lookup y=some c
 | [],acc,y,h=>h
 | (n,k)::r,acc,y,h=>by
  unfold fL
  split
  ·split
   ·refine q0 r _ y ?_
    rw [VE]
    by_cases hy:(y == n)=true
    ·rw [hy];exact ⟨_,rfl⟩
    ·have:(y == n)=false:=by simpa using hy
     rw [this]
     exact h
   ·exact q0 r acc y h
  ·exact q0 r acc y h
theorem q8 {cells:List (Str×Addr)}:∀ (names:List (Str×UC))(acc:List (Str×Addr))(y:Str),(y,Uc)∈names->(∃ c,cells.lookup y=some c)->∃ c,(fL cells names acc).lookup y=some c
 | [],acc,y,h,_=>by cases h
 | (n,k)::r,acc,y,h,hc=>by
  unfold fL
  rcases Sa.mp h with h|h
  ·cases h
   obtain ⟨c,hc⟩:=hc
   rw [if_pos rfl,hc]
   exact q0 r _ _ ⟨c,by simp [VE]⟩
  ·split
   ·split
    ·exact q8 r _ y h hc
    ·exact q8 r _ y h hc
   ·exact q8 r _ y h hc
structure CompSt (osc:UN)(N:List Str)(scope:UN)(xs:List Str):Prop where
 nocell:∀ y∈scope.names,y.2≠.cell
 kind:scope.kind=.function
 names:∀ y∈scope.names,y.2=.local->scope.names.lookup y.1=some .local
 here:∀ x∈xs,scope.names.lookup x=some .local
 free:∀ y∈scope.names,y.2=.free->osc.names.lookup y.1=some .cell\/osc.names.lookup y.1=some .free
 own:∀ y∈scope.names,y.2=.local->y.1∉bM xs N
 nd:N.Nodup
 hnd:(bM xs N).Nodup
 hidn:∀ y∈N,xs.contains y=true->scope.names.lookup (m3 y)=none
theorem CompSt.ok {X:Cx}{scope:UN}{xs:List Str}(S:CompSt X.env.scope X.N scope xs)(ok:X.Ok):CompOk X scope (fL X.env.cells scope.names []) xs:=by
 have has:∀ y∈scope.names,y.2=.free->∃ c,X.env.cells.lookup y.1=some c:=fun y hy hf=>ok.has y.1 (S.free y hy hf)
 refine ⟨Jl has,S.nocell,S.kind,S.names,S.here,qZ scope.names [] (fun y c e=>by cases e),fun y e=>?_,fun y e=>?_,S.hidn⟩
 ·have hm:=S6 e
  exact ⟨S.free _ hm rfl,q8 scope.names [] y hm (has _ hm rfl)⟩
 ·exact S.own _ (S6 e) rfl
end L3
namespace L3
open PySem L2
section
variable {X:Cx}{pos:TC}
end
end L3
namespace L3
open PySem L2
noncomputable def cW:RI->Bool
 | .Starred ..=>false
 | _=>true
theorem eW {e:RI}{es:List RI}{env:Xk}(h:cW e=true):Sj (e::es) env=(false,eval e env)::Sj es env:=by
 cases e<;>first|rfl|cases h
theorem lK {pos:TC}{env:Xk}:∀ {es:List RI},es.all cW=true->(Uz pos (Sj es env)).any (·.1)=false
 | [],_=>rfl
 | e::es,h=>by
  rw [Sx,RF] at h
  rw [eW h.1]
  have:=lK (pos:=pos) (env:=env) h.2
  simpa [Uz] using this
theorem q9 {e:RI}{es:List RI}{env:Xk}(h:cW e=true):Ui (e::es) env=(false,XE e env)::Ui es env:=by
 cases e<;>first|rfl|cases h
theorem Bj {env:Xk}:∀ {es:List RI},es.all cW=true->(Ui es env).length=es.length
 | [],_=>rfl
 | e::es,h=>by
  rw [Sx,RF] at h
  rw [q9 h.1,SD,SD,Bj h.2]
theorem Bk {env:Xk}:∀ {es:List RI},es.all cW=true->(Ui es env).findIdx? (·.1)=none
 | [],_=>rfl
 | e::es,h=>by
  rw [Sx,RF] at h
  rw [q9 h.1,List.findIdx?_cons,Bk h.2]
  rfl
section
variable {X:Cx}{e a b c:RI}{es:List RI}{m:ME}{ms:MA}{pos:TC}
end
end L3
namespace L3
open PySem L2
structure QE (X:Cx)(e:RI)(m:ME):Prop where
 h:PE X e (tM X.K m)
structure QT (X:Cx)(e:RI)(m:MT):Prop where
 h:PT X e (cR X.K m)
structure QW (X:Cx)(e:RI)(m:MT):Prop where
 h:PW X e (cR X.K m)
structure QA (X:Cx)(es:List RI)(m:MA)(n:Nat):Prop where
 h:PA X es (eU X.K m)
 l:∀ ρ μ ds μ',m ρ μ=some (ds,μ')->ds.length=n
 s:es.all cW=true
structure QO (X:Cx)(e:Option RI)(m:MO):Prop where
 h:PO X e (oK X.K m)
structure QS (X:Cx)(st:Stmt)(m:MS):Prop where
 h:PS X st (cV X.K m)
structure QB (X:Cx)(st:List Stmt)(m:MS):Prop where
 h:PSs X st (cV X.K m)
structure QG (X:Cx)(e:RI)(g:MG):Prop where
 h:PG X e (f7 X.K g)
structure QGs (X:Cx)(es:List RI)(is:List Nat):Prop where
 h:n6 X es (qY is)
 n:es.length=is.length
 s:es.all cW=true
structure QI (X:Cx)(ifs:List RI)(m:MT):Prop where
 h:m5 X ifs m
structure QP (X:Cx)(pos:TC)(keys:List (Option RI))(values:List RI)(prs:List (ME×ME)):Prop where
 h:GO X pos keys values (Jk X.K prs)
 a:keys.all (·.isSome)=true
 l:keys.length=values.length
section
variable {X:Cx}{e a b c:RI}{m ma mb mc:ME}{pos:TC}{mt mu:MT}{bN es:List RI}{ms:MA}{n:Nat}
theorem Jm {x:Str}(i:Nat)(hN:X.N[i]? = some x:=by rfl)(hv:n5 X.env.scope x:=by first|exact ZZ rfl|exact Y8 (ZZ rfl)|exact Y8 (Y8 rfl))(hd:(x == ("__debug__":Str))=false:=by decide)
  (hcd:(x == ("__classdict__":Str))=false:=by decide):QE X (.Name x pos) (aA i):=⟨HA i (Fc hN hv hd hcd)⟩
theorem Jn {i:Int}{j:Nat}:QE X (.Constant (.int i) j pos) (mC (.int i)):=⟨HB⟩
theorem Jo {i:Bool}{j:Nat}:QE X (.Constant (.bool i) j pos) (mC (.bl i)):=⟨HC⟩
theorem Jp {i:Str}{j:Nat}:QE X (.Constant (.str i) j pos) (mC (.str i)):=⟨HD⟩
theorem Jq {j:Nat}:QE X (.Constant .none j pos) (mC .non):=⟨HE⟩
theorem m8 {op:YY}{r:R2}{f:D->D->Hm->Option (D×Hm)}(ho:OpR X (UL op) r)(hf:cP X.K f r)(ha:QE X a ma)(hb:QE X b mb):QE X (.BinOp a op b pos) (aB f ma mb):=⟨HF ho hf ha.h hb.h⟩
theorem Jr (ha:QE X a ma)(hb:QE X b mb):QE X (.BinOp a .Add b pos) (aB bK ma mb):=m8 IQ IT ha hb
theorem Js (ha:QE X a ma)(hb:QE X b mb):QE X (.BinOp a .Sub b pos) (aB fI ma mb):=m8 Gg II ha hb
theorem Jt (ha:QE X a ma)(hb:QE X b mb):QE X (.BinOp a .Mult b pos) (aB bT ma mb):=m8 ID IK ha hb
theorem Ju (ha:QE X a ma)(hb:QE X b mb):QE X (.BinOp a .FloorDiv b pos) (aB d8 ma mb):=m8 IE IL ha hb
theorem Jv (ha:QE X a ma)(hb:QE X b mb):QE X (.BinOp a .Mod b pos) (aB bH ma mb):=m8 Gh IM ha hb
theorem Jw (ha:QE X a ma)(hb:QE X b mb):QE X (.BinOp a .Pow b pos) (aB uO ma mb):=m8 IH IP ha hb
theorem Jx (ha:QE X a ma):QE X (.UnaryOp .USub a pos) (iU ma):=⟨IU ha.h⟩
theorem Jy (ha:QE X a ma):QE X (.UnaryOp .Not a pos) (mR ma):=⟨HQ ha.h⟩
theorem Jz {k:Nat}(hr:Room k X.A)(ha:QE X a ma)(hb:QE X b mb):QE X (.Compare a [.Eq] [b] pos) (aB (aW false) ma mb):=⟨fF (A8 (qV hr)) qU ha.h hb.h (dZ _)⟩
theorem JA {k:Nat}(hr:Room k X.A)(ha:QE X a ma)(hb:QE X b mb):QE X (.Compare a [.NotEq] [b] pos) (aB (aW true) ma mb):=⟨fF (A9 (qV hr)) qU ha.h hb.h (dZ _)⟩
theorem JB (ha:QE X a ma)(hb:QE X b mb):QE X (.Compare a [.Lt] [b] pos) (aB hG ma mb):=⟨fF tU gZ ha.h hb.h (dZ _)⟩
theorem JC (ha:QE X a ma)(hb:QE X b mb):QE X (.Compare a [.LtE] [b] pos) (aB mX ma mb):=⟨fF tV gZ ha.h hb.h (dZ _)⟩
theorem JD (ha:QE X a ma)(hb:QE X b mb):QE X (.Compare a [.Gt] [b] pos) (aB fK ma mb):=⟨fF tW gZ ha.h hb.h (dZ _)⟩
theorem JG (ha:QE X a ma)(hb:QE X b mb):QE X (.Compare a [.GtE] [b] pos) (aB uU ma mb):=⟨fF tX gZ ha.h hb.h (dZ _)⟩
noncomputable def fM:RI->Bool
 | .Set ..=>false
 | _=>true
theorem hJ {op:Vr}{b:RI}(h:fM b=true):U1 op b=false:=by
 cases b<;>first|rfl|cases h
theorem JH {op:BoolOp}(h:QE X a m):QE X (.BoolOp op [a] pos) m:=⟨HM h.h⟩
theorem JI (ha:QE X a ma)(hb:QE X (.BoolOp .And (b::bN) pos) mb):QE X (.BoolOp .And (a::b::bN) pos) (eJ ma mb):=⟨HN ha.h hb.h⟩
theorem JJ (ha:QE X a ma)(hb:QE X (.BoolOp .Or (b::bN) pos) mb):QE X (.BoolOp .Or (a::b::bN) pos) (uG ma mb):=⟨HP ha.h hb.h⟩
theorem JK (hc:QT X c mt)(ha:QE X a ma)(hb:QE X b mb):QE X (.IfExp c a b pos) (fY mt ma mb):=⟨HR hc.h ha.h hb.h⟩
theorem JL:QA X [] aD 0:=⟨HS,HY,rfl⟩
theorem JM (ha:QE X e m)(hr:QA X es ms n)(h:cW e=true:=by rfl):QA X (e::es) (aC m ms) (n+1):=⟨HU ha.h hr.h (eW h),HZ hr.l,by rw [Sx,h,hr.s];rfl⟩
theorem JN {x1:Nat}(h:QA X es ms n):QE X (.Tuple es x1 pos) (bV ms):=⟨HV h.h⟩
theorem JO (h:QA X es ms n):QE X (.List es pos) (cK ms):=⟨HW h.h⟩
noncomputable def m9:RI->Bool
 | .Slice ..=>false
 | _=>true
theorem Bl {b:RI}(h:m9 b=true):t9 b:=by
 intro o i
 cases b<;>first|rfl|cases h
theorem JP (ha:QE X a ma)(hb:QE X b mb)(h:m9 b=true:=by rfl):QE X (.Subscript a b pos) (aB fZ ma mb):=⟨Ig ha.h hb.h (Bl h)⟩
theorem JQ:QO X none mS:=⟨Ih⟩
theorem JR (h:QE X e m):QO X (some e) (mT m):=⟨Ii h.h⟩
theorem JS {lo hi:Option RI}{ml mh:MO}{p2:TC}(ha:QE X a ma)(hl:QO X lo ml)(hu:QO X hi mh):QE X (.Subscript a (.Slice lo hi none p2) pos) (uI ma ml mh):=⟨Ik ha.h hl.h hu.h⟩
theorem JT {k:Nat}{f:Addr}{fd:Uq}{ps:List Str}{fm:MF}{x:Str}{p:TC}(F:FnOk X.prog X.w X.K X.mg X.base fE k f fd ps (iR X.K n fm))(hr:Room k X.A)(hm:X.mg x=some (.ref f))
  (hk:TL X.K (.ref f)=true)(hb:Binds X.K fd ps [])(ha:QA X (e::es) ms n)(hg:Gl X x:=by rfl)(hdb:(x == ("__debug__":Str))=false:=by decide):QE X (.Call (.Name x p) (e::es) [] pos) (aK fm ms):=by
 have hs:=ha.s
 rw [Sx,RF] at hs
 exact ⟨Ia F hr hg hm hk hb ha.h ha.l hdb (eW hs.1) (lK hs.2)⟩
theorem Bm {f:MF}{r:List V->Hp->VK->Prop}{id:String}{x:Str}{p:TC}(hc:CallR X (.builtin id) r)(hf:dA X.K f r)(hm:X.mg x=none)(hv:Tz x=some (.builtin id))(ha:QA X (e::es) ms n)
  (hg:Gl X x:=by rfl)(hn:x ≠ "__name__":=by decide) (hdb:(x == ("__debug__":Str))=false:=by decide):QE X (.Call (.Name x p) (e::es) [] pos) (aK f ms):=by
 have hs:=ha.s
 rw [Sx,RF] at hs
 exact ⟨Ib hc hf hg hm hv ha.h hn hdb (eW hs.1) (lK hs.2)⟩
theorem Bn {f:MF}{r:List V->Hp->VK->Prop}{T:String}{x:Str}{p:TC}(hc:CallR X (.type T) r)(hf:dA X.K f r)(hm:X.mg x=none)(hv:Tz x=some (.type T))(ha:QA X (e::es) ms n)
  (hg:Gl X x:=by rfl)(hn:x ≠ "__name__":=by decide) (hdb:(x == ("__debug__":Str))=false:=by decide):QE X (.Call (.Name x p) (e::es) [] pos) (aK f ms):=by
 have hs:=ha.s
 rw [Sx,RF] at hs
 exact ⟨Ic hc hf hg hm hv ha.h hn hdb (eW hs.1) (lK hs.2)⟩
theorem JU {x:Str}{n:String}(hm:X.mg x=none)(hv:Tz x=some (.type n))(hg:Gl X x:=by rfl)(hn:x ≠ "__name__":=by decide) (hd:(x == ("__debug__":Str))=false:=by decide):QE X (.Name x pos) (mC (.ty n)):=⟨IV hg hm hv hn hd⟩
theorem JV {k:Nat}(hr:Room k X.A)(ha:QE X a ma)(hb:QE X b mb):QT X (.Compare a [.Eq] [b] pos) (bD (aB (aW false) ma mb)):=⟨fG (A8 (qV hr)) qU ha.h hb.h (dZ _)⟩
theorem JW {k:Nat}(hr:Room k X.A)(ha:QE X a ma)(hb:QE X b mb):QT X (.Compare a [.NotEq] [b] pos) (bD (aB (aW true) ma mb)):=⟨fG (A9 (qV hr)) qU ha.h hb.h (dZ _)⟩
theorem JX (ha:QE X a ma)(hb:QE X b mb):QT X (.Compare a [.Lt] [b] pos) (bD (aB hG ma mb)):=⟨fG tU gZ ha.h hb.h (dZ _)⟩
theorem JY (ha:QE X a ma)(hb:QE X b mb):QT X (.Compare a [.LtE] [b] pos) (bD (aB mX ma mb)):=⟨fG tV gZ ha.h hb.h (dZ _)⟩
theorem JZ (ha:QE X a ma)(hb:QE X b mb):QT X (.Compare a [.Gt] [b] pos) (bD (aB fK ma mb)):=⟨fG tW gZ ha.h hb.h (dZ _)⟩
theorem J4 (ha:QE X a ma)(hb:QE X b mb):QT X (.Compare a [.GtE] [b] pos) (bD (aB uU ma mb)):=⟨fG tX gZ ha.h hb.h (dZ _)⟩
noncomputable def u3:RI->Bool
 | .UnaryOp .Not ..=>false
 | .BoolOp ..=>false
 | .IfExp ..=>false
 | .Compare ..=>false
 | _=>true
theorem J5 {e:RI}{env:Xk}(h:u3 e=true):∀ whole,ZC e env whole=(do let v <- whole;standAt e.pos;holding [v] (truthy v)):=by
 intro whole
 cases e<;>first|rfl|cases h|skip
 rename_i op x p
 cases op<;>first|rfl|cases h
theorem J6 (ha:QT X a mt):QT X (.UnaryOp .Not a pos) (iG mt):=⟨HL ha.h⟩
theorem J7 (ha:QT X a mt):QW X (.BoolOp .And [a] pos) mt:=⟨HG ha.h⟩
theorem J8 (ha:QT X a mt):QW X (.BoolOp .Or [a] pos) mt:=⟨HH ha.h⟩
theorem J9 (ha:QT X a mt)(hb:QW X (.BoolOp .And (b::bN) pos) mu):QW X (.BoolOp .And (a::b::bN) pos) (iF mt mu):=⟨HJ ha.h hb.h⟩
theorem Ka (ha:QT X a mt)(hb:QW X (.BoolOp .Or (b::bN) pos) mu):QW X (.BoolOp .Or (a::b::bN) pos) (iT mt mu):=⟨HK ha.h hb.h⟩
theorem Kb (h:QW X e mt):QT X e mt:=⟨h.h.pt⟩
theorem Kc:QI X [] lI:=⟨Jc⟩
theorem Kd (h:QT X c mt):QI X [c] mt:=⟨Jd h.h⟩
end
section
variable {X:Cx}{e a b c:RI}{m:ME}{pos:TC}{mt:MT}{st:Stmt}{bN body orelse:List Stmt}{ms mr mu:MS}{n:Nat}{is:List Nat}{es:List RI}{g:MG}
theorem Ke:QB X [] bY:=⟨Il⟩
theorem Kf (h1:QS X st ms)(h2:QB X bN mr):QB X (st::bN) (aG ms mr):=⟨Im h1.h h2.h⟩
theorem Kg (h1:QS X st ms):QB X [st] ms:=⟨Io h1.h⟩
theorem Kh:QS X (.Pass pos) bY:=⟨Ip⟩
theorem Ki (he:QE X e m):QS X (.Return (some e) pos) (bE m):=⟨Iq he.h⟩
noncomputable def jS:RI->Bool
 | .ListComp ..=>false
 | .SetComp ..=>false
 | .DictComp ..=>false
 | _=>true
theorem rA {e:RI}{t:Option RI}{n:Nat}{env:Xk}(h:jS e=true):VR e t n env=pure false:=by
 cases e<;>first|rfl|cases h
theorem Kj (he:QE X e m)(h:jS e=true:=by rfl):QS X (.Expr e pos) (eV m):=⟨Ir he.h (rA h)⟩
theorem Kk (hc:QT X c mt)(ha:QB X body ms)(hb:QB X orelse mu):QS X (.If c body orelse pos) (bS mt ms mu):=⟨Iu hc.h ha.h hb.h⟩
theorem Kl (i:Nat){x:Str}{pos':TC}(hN:X.N.Nodup)(he:QE X e m)(h:jS e=true:=by rfl)(hi:X.N[i]? = some x:=by rfl)(hx:Loc X.env.scope x:=by first|exact ZZ rfl|exact Y8 rfl)
  (hf:X.fn x=true\/X.env.scope.names.lookup x=some .local:=by first|exact .inl rfl|exact .inr rfl):QS X (.Assign [.Name x pos'] e pos) (aZ i m):=⟨AX hN hi hx he.h (rA h) hf⟩
theorem Km (i:Nat){x:Str}(hN:X.N.Nodup)(hi:X.N[i]? = some x:=by rfl)(hx:Loc X.env.scope x:=by first|exact ZZ rfl|exact Y8 rfl)
  (hf:X.fn x=true\/X.env.scope.names.lookup x=some .local:=by first|exact .inl rfl|exact .inr rfl):QG X (.Name x pos) (cA i):=⟨Bb hN hi hx hf⟩
theorem Bo:QGs X [] []:=⟨FW,rfl,rfl⟩
theorem Bp (i:Nat){x:Str}(hN:X.N.Nodup)(hr:QGs X es is)(hi:X.N[i]? = some x:=by rfl)(hx:Loc X.env.scope x:=by first|exact ZZ rfl|exact Y8 rfl)
  (hf:X.fn x=true\/X.env.scope.names.lookup x=some .local:=by first|exact .inl rfl|exact .inr rfl):QGs X (.Name x pos::es) (i::is):=
 ⟨FX (zT hN hi hx hf) hr.h (by rw [q9 (e:=.Name x pos) rfl];rfl),by rw [SD,SD,hr.n],by rw [Sx,hr.s];rfl⟩
theorem u4 {k:Nat}(h:QGs X es is)(hc:X.calm=true:=by rfl):QG X (.Tuple es k pos) (cL is):=⟨Jg hc h.h ((Bj h.s).trans h.n) (Bk h.s)⟩
noncomputable def u5:RI->Bool
 | .Tuple ..=>false
 | _=>true
theorem Kn {tg e:RI}{env:Xk}(h:u5 e=true):Zg [tg] e env=pure none:=by
 cases e<;>first|(cases tg<;>rfl)|cases h
theorem Ko {k:Nat}{pt:TC}(he:QE X e m)(hg:QG X (.Tuple es k pt) g)(h:u5 e=true:=by rfl):QS X (.Assign [.Tuple es k pt] e pos) (eK m g):=
 ⟨Jh he.h hg.h (by cases e<;>rfl) (Kn h) (by rw [q9 (e:=.Tuple es k pt) rfl];rfl)⟩
end
section
variable {P:R8}{w:Sy}{K:Rn}{mg:Str->Option Ru}{base:SO}
theorem Kp {x qual:Str}{st:Stmt}{f:Addr}{fd:Uq}{N ps:List Str}{k:Nat}{body:List Stmt}{m:MS}(F:Fun K x qual st f fd)(S:FnScope N ps (cJ st))(hps:ps.length<=N.length)(hbd:fX st=body)
  (hbody:∀ (cdv:Ru)(A:Sn)(outer:List Xk)(s:RC)(H:Hp)(E:XK),Room k (A.deeper (X2 qual (cJ st) s.heap.objs.size f cdv))->
   QB (jN fE P w K mg base N qual (cJ st) f cdv A outer s H E).nox body m):FnOk P w K mg base fE (k+1) f fd ps (iR K ps.length (uJ N.length m)):=
 Iw F S hps fun cdv A outer s H E hr=>by
  rw [hbd]
  exact (hbody cdv A outer s H E hr).h
end
end L3
namespace L3
open PySem L2
noncomputable abbrev gG:=Hm->Nat->Option (Option D)
noncomputable abbrev MI:=aH->Hm->Option (gG×Nat×Hm)
noncomputable def jT (K:Rn)(m:MI):TI:=fun σ H R=>∃ π ρ μ src n μ',Rp K π H μ/\En K π μ.length H σ ρ/\m ρ μ=some (src,n,μ') /\
 ∀ π' H' J,Ext π μ.length H π' μ'.length H'->Rp K π' H' μ'->Wk K J src π' μ'.length H'->R J H'
structure QJ (X:Cx)(e:RI)(m:MI):Prop where
 h:∀ tg,PI X tg e (jT X.K m)
section
variable {X:Cx}{pos:TC}{e:RI}{m:ME}
noncomputable def Bq:MI:=fun _ _=>none
theorem Kq:QJ X e Bq:=⟨fun tg a1Z s σ H R I hw=>by
 obtain ⟨π,ρ,μ,src,n,μ',Rr,E,hm,k⟩:=hw
 cases hm⟩
noncomputable def jU (μ:Hm):D->Option (List D)
 | d=>bJ μ d
noncomputable def dU (x:D):gG:=fun μ i=>(jU μ x).map fun xs=>xs[i]?
noncomputable def dJ (m:ME):MI:=fun ρ μ=>(m ρ μ).bind fun p=>(jU p.2 p.1).map fun xs=>(dU p.1,xs.length+1,p.2)
theorem Kr (h:QE X e m):QJ X e (dJ m):=⟨fun tg a1Z s σ H R I hw=>by
 obtain ⟨π,ρ,μ,src,n,μ',Rr,E,hm,k⟩:=hw
 obtain ⟨⟨x,μ1⟩,h1,hm⟩:=Rl.mp hm
 obtain ⟨xs,h2,hm⟩:=Rv.mp hm
 cases hm
 have key:∀ (hs:bJ μ1 x=some xs)(hx:dU x=jR x),RQ (R0 X.prog X.w) X.A (eval e X.env) (fun v s1=>RQ (R0 X.prog X.w) X.A (XD v) (oA X a1Z σ tg R) X.xe s1) X.xe s:=fun hs hx=>by
  refine IX h.h a1Z s σ H R I ⟨π,ρ,μ,x,_,Rr,E,h1,fun π1 v1 H1 e1 R1 i1=>?_⟩
  obtain ⟨a,e,q⟩:=IY R1 i1 hs
  subst e
  refine ⟨a,rfl,?_⟩
  dsimp only at k
  rw [hx] at k
  rcases q with ⟨q1,W⟩|⟨q1,W⟩
  ·exact .inl ⟨q1,k π1 H1 _ e1 R1 W⟩
  ·exact .inr ⟨q1,k π1 H1 _ e1 R1 W⟩
 cases x with
 | _=>exact key h2 rfl⟩
noncomputable def lM (ms:MA):MI:=fun ρ μ=>(ms ρ μ).bind fun p=>match p.1 with
 | [.int j]=>if -(2 ^ 62)<=j/\j<2 ^ 62 then some (f9 0 j.toNat,j.toNat+1,p.2) else none
 | _=>none
theorem Ks {a:RI}{ms:MA}{n:Nat}{p:TC}(hgl:Gl X "range") (hmg:X.mg "range" = none) (ha:QA X [a] ms n):QJ X (.Call (.Name "range" p) [a] [] pos) (lM ms):=⟨fun tg a1Z s σ H R I hw=>by
 have hs:=ha.s
 rw [Sx,RF] at hs
 obtain ⟨π,ρ,μ,src,n',μ',Rr,E,hm,k⟩:=hw
 obtain ⟨⟨x,μ1⟩,h1,hm⟩:=Rl.mp hm
 refine F5 hgl hmg ha.h (eW hs.1) a1Z s σ H R I ⟨π,ρ,μ,x,μ1,Rr,E,h1,fun π1 vs H1 e1 R1 i1=>?_⟩
 dsimp only at hm
 split at hm
 ·rename_i j
  split at hm
  ·rename_i hb
   cases hm
   cases i1 with
   | cons i1 t1=>
    cases i1
    cases t1
    exact ⟨j,rfl,hb.1,hb.2,k π1 H1 _ e1 R1 Bc⟩
  ·cases hm
 ·cases hm⟩
noncomputable def kC (ms:MA):MI:=fun ρ μ=>(ms ρ μ).bind fun p=>match p.1 with
 | [.int i,.int j]=>if -(2 ^ 62)<=i/\i<2 ^ 62/\-(2 ^ 62)<=j/\j<2 ^ 62 then some (f9 i (j - i).toNat,(j - i).toNat+1,p.2) else none
 | _=>none
theorem Kt {a b:RI}{ms:MA}{n:Nat}{p:TC}(hgl:Gl X "range") (hmg:X.mg "range" = none) (ha:QA X [a,b] ms n):QJ X (.Call (.Name "range" p) [a,b] [] pos) (kC ms):=⟨fun tg a1Z s σ H R I hw=>by
 have hs:=ha.s
 rw [Sx,RF,Sx,RF] at hs
 obtain ⟨π,ρ,μ,src,n',μ',Rr,E,hm,k⟩:=hw
 obtain ⟨⟨x,μ1⟩,h1,hm⟩:=Rl.mp hm
 refine F6 hgl hmg ha.h (by rw [eW hs.1,eW hs.2.1];rfl) (by rw [eW hs.2.1];rfl) a1Z s σ H R I ⟨π,ρ,μ,x,μ1,Rr,E,h1,fun π1 vs H1 e1 R1 i1=>?_⟩
 dsimp only at hm
 split at hm
 ·rename_i i j
  split at hm
  ·rename_i hb
   cases hm
   cases i1 with
   | cons i1 t1=>
    cases i1
    cases t1 with
    | cons i2 t2=>
     cases i2
     cases t2
     exact ⟨i,j,rfl,hb,k π1 H1 _ e1 R1 Bc⟩
  ·cases hm
 ·cases hm⟩
noncomputable def bX (it:MI)(g:MG)(b:MS):MS:=fun ρ μ=>(it ρ μ).bind fun p=>dS p.1 g b p.2.1 0 ρ p.2.2
end
noncomputable def jV (bd:BD)(it:MI)(c:MT)(e:ME):ME:=fun ρ μ=>(it ρ μ).bind fun p=>
 (gA p.1 bd c e ρ p.2.2.length p.2.1 0 (p.2.2++[.lst []])).map fun μ'=>(.loc p.2.2.length,μ')
noncomputable abbrev kD (it:MI)(c:MT)(e:ME):ME:=jV oM it c e
noncomputable def gB (n:Nat)(bd:BD):MG:=fun d ρ μ=>(bd d μ).map fun x=>ρ.take n++x
theorem Ku {X:Cx}{n:Nat}{x:Str}{px:TC}(hl:X.N.length=n+1)(h:PG X (.Name x px) (f7 X.K (cA n))):PG X (.Name x px) (f7 X.K (gB n oM)):=by
 intro a1Z s σ H v u Q I r hw
 obtain ⟨π,ρ,μ,d,ρ',R,E,hd,hm,k⟩:=hw
 cases hm
 refine h a1Z s σ H v u Q I r ⟨π,ρ,μ,d,_,R,E,hd,rfl,fun σ' E'=>k σ' ?_⟩
 have hρ:ρ.length=n+1:=by rw [<- E.len,I.len,hl]
 have e:ρ.set n (some d)=ρ.take n++[some d]:=by
  rw [List.set_eq_take_append_cons_drop,if_pos (by omega),List.drop_of_length_le (by omega)]
 rw [e] at E'
 exact E'
theorem Br:∀ (xs:List D)(a b:aH),b.length=xs.length->lJ (a++b) (Wi a.length xs.length) xs=a++xs.map some
 | [],a,[],_=>by simp [lJ]
 | x::xs,a,y::b,h=>by
  have ih:=Br xs (a++[some x]) b (by simpa using h)
  rw [SD,Wv]
  show lJ ((a++y::b).set a.length (some x)) (Wi (a.length+1) xs.length) xs=_
  rw [WJ _ _ (RD _),Nat.sub_self,RA]
  rw [RV,Uj] at ih
  rw [ZS,List.singleton_append] at ih
  rw [ih]
  simp
theorem Kv {X:Cx}{n k:Nat}{tg:RI}(hl:X.N.length=n+k)(h:PG X tg (f7 X.K (cL (Wi n k)))):PG X tg (f7 X.K (gB n (uX k))):=by
 intro a1Z s σ H v u Q I r hw
 obtain ⟨π,ρ,μ,d,ρ',R,E,hd,hm,kk⟩:=hw
 obtain ⟨y,h1,h2⟩:=Rv.mp hm
 obtain ⟨xs,h3,h4⟩:=Rl.mp h1
 split at h4
 ·rename_i hx
  cases h4
  subst h2
  have hρ:ρ.length=n+k:=by rw [<- E.len,I.len,hl]
  refine h a1Z s σ H v u Q I r ⟨π,ρ,μ,d,lJ ρ (Wi n k) xs,R,E,hd,(by simp only [cL,h3,R6,List.length_range',if_pos hx]),fun σ' E'=>kk σ' ?_⟩
  have e:=Br xs (ρ.take n) (ρ.drop n) (by rw [Z4];omega)
  rw [YZ,SJ,Nat.min_eq_left (by omega),hx] at e
  rw [e] at E'
  exact E'
 ·cases h4
section
variable {X:Cx}{scope:UN}{cl:List (Str×Addr)}{xs:List Str}{tg elt iter:RI}{ifs:List RI}{pos ppos:TC}{mi:MI}{me:ME}{mc:MT}{bd:BD}
theorem Kw {K:Rn}{π:Nat->Addr}{n:Nat}{H:Hp}{σ:St}{ρ o:aH}{k:Nat}(E:En K π n H σ (ρ++o))(ho:o.length=k):En K π n H σ (ρ++T4 k none):=by
 refine ⟨by rw [E.len,RV,RV,Uk,ho],fun i d q=>?_⟩
 by_cases hi:i<ρ.length
 ·rw [Sw hi] at q
  exact E.get i d (by rw [Sw hi];exact q)
 ·rw [TR (U5.mp hi),UE] at q
  split at q<;>cases q
theorem Bs (O:CompOk X scope cl xs)(hcalm:X.calm=true)(hi:PI X tg iter (jT X.K mi))(hb':∀ d μ z,bd d μ=some z->z.length=xs.length)(hg:∀ C s₀ H₀ fp,PG (cQ X scope cl C (bM xs X.N++xs) s₀ H₀ fp) tg (f7 X.K (gB X.N.length bd)))
  (hc:∀ C s₀ H₀ fp,m5 (cQ X scope cl C (bM xs X.N++xs) s₀ H₀ fp) ifs mc)(he:∀ C s₀ H₀ fp,PE (cQ X scope cl C (bM xs X.N++xs) s₀ H₀ fp) elt (tM X.K me))
  (hs:∀ x,VH iter X.env x=pure x){use:Option (Ru->a1n Unit)}{QQ:Ru->RC->Prop}{a1Z:List (Addr×TK)}{s:RC}{σ:St}{H:Hp}{π:Nat->Addr}{ρ:aH}{μ μ':Hm}{d:D}
  (I:Inv X a1Z σ H s)(R:Rp X.K π H μ)(E:En X.K π μ.length H σ ρ)(hm:jV bd mi mc me ρ μ=some (d,μ'))
  (fin:∀ (p C:Addr)(π':Nat->Addr)(H':Hp)(s':RC),Ext π μ.length H π' μ'.length H'->Rp X.K π' H' μ'->IsD X.K π' μ'.length H' (.ref p) d->(∃ m,s'.heap.Ns C m)->X.s₀.heap.objs.size<=C->C≠X.env.locals->H' C=none->
   (∀ y c,X.env.cells.lookup y=some c->c≠C)->(∀ q∈X.pn++a1Z,q.1≠C)->(∀ h',(∀ b o,b≠C->s'.heap.get? b=some o->h'.get? b=some o)->Inv X a1Z σ H' { s' with heap:=h' })->
   compPost (R0 X.prog X.w) X.A X.xe use QQ (.ref p) C (.ok .next) s') :
  RQ (R0 X.prog X.w) X.A (comprehension (.ListComp elt [⟨tg,iter,ifs,0⟩] scope pos) scope X.env ppos (newList []) false (eval iter X.env) use) QQ X.xe s:=by
 obtain ⟨⟨src,nt,μ1⟩,h1,hm⟩:=Rl.mp hm
 obtain ⟨μ2,h3,hm⟩:=Rv.mp hm
 cases hm
 have hit:RQ (R0 X.prog X.w) X.A (eval iter X.env) (fun v s1=>RQ (R0 X.prog X.w) X.A (XD v) (oA X a1Z σ tg fun J H1=>∃ π1,Ext π μ.length H π1 μ1.length H1/\Rp X.K π1 H1 μ1/\Wk X.K J src π1 μ1.length H1) X.xe s1) X.xe s:=
  hi a1Z s σ H _ I ⟨π,ρ,μ,src,nt,μ1,R,E,h1,fun π1 H1 J e1 R1 W=>⟨π1,e1,R1,W⟩⟩
 refine wpAny_comprehension_free rfl hs O.clos O.kind O.names (S5 hit (fun v s1 hv=>S5 hv (fun itv s2 h4=>?_) fun _ _ z=>z) fun _ _ z=>z)
 obtain ⟨it,fp,tn,J,H2,rfl,I2,T,st2,f2,π1,e1,R1,W⟩:=h4
 refine SS (wpAny_newFunctionEnv O.nocell (by intro y hy;simp at hy) (fun h₁ hns₁ hsb₁=>?_) O.kind)
 dsimp only at hns₁ hsb₁ ⊢
 have hfr:H2 s2.heap.objs.size=none:=I2.hok.fresh (RD _)
 have I3:Inv X a1Z σ (aI H2 s2.heap.objs.size (.lst [])) { s2 with heap:=s2.heap.push { cls:=.type "list",dict:=none,data:=.seq ([]:List Ru).toArray } }:=
  I2.laid (t':=s2.toks) (fun b u e=>Rt _ e) (RD _) ⟨SF _,[],0,.nil,RK _ rfl⟩
 obtain ⟨e2,R2,q2⟩:=R1.alloc (c:=.lst []) (o:=.lst []) hfr .nil
 generalize hs3:({ s2 with heap:=s2.heap.push { cls:=.type "list",dict:=none,data:=.seq ([]:List Ru).toArray } }:RC)=s3 at I3
 have hheap:s2.heap.push { cls:=.type "list",dict:=none,data:=.seq ([]:List Ru).toArray } = s3.heap:=by rw [<- hs3]
 have e12:=e1.trans e2
 generalize hH3:aI H2 s2.heap.objs.size (.lst [])=H3 at I3 e2 R2 e12
 generalize hπ3:gU π1 μ1.length s2.heap.objs.size=π3 at e2 R2 q2 e12
 have hob:∀ b∈fp,∃ o,s3.heap.get? b=some o:=fun b hb=>by
  obtain ⟨o,ho,_⟩:=T.obj 0 _ st2 b hb
  exact ⟨o,by rw [<- hheap];exact Rt _ ho⟩
 have f3:∀ b∈fp,gT X a1Z H3 b:=fun b hb=>by
  obtain ⟨o,ho,_⟩:=T.obj 0 _ st2 b hb
  refine ⟨?_,(f2 b hb).2⟩
  rw [<- hH3,bA (RT (RH ho))]
  exact (f2 b hb).1
 have st3:tn 0 s3.heap:=T.keep 0 _ _ st2 fun b hb o e=>by rw [<- hheap];exact Rt _ e
 have hC:(s2.heap.push { cls:=.type "list",dict:=none,data:=.seq ([]:List Ru).toArray }).objs.size=s3.heap.objs.size:=by rw [hheap]
 rw [hheap] at hns₁ hsb₁
 have hk1:∀ b o,s3.heap.get? b=some o->h₁.get? b=some o:=fun b o e=>hsb₁.extBut b o (RT (RH e)) (Rt _ e)
 have E3:En X.K π3 (μ1++[C.lst []]).length H3 (σ++T4 xs.length none) (ρ++T4 xs.length none):=by
  have E':=E.mono e12
  refine ⟨by rw [RV,RV,E'.len,Uk,Uk],fun i d' q=>?_⟩
  by_cases hi:i<ρ.length
  ·rw [Sw hi] at q
   obtain ⟨v,h5,h6⟩:=E'.get i d' q
   exact ⟨v,by rw [Sw (by rw [E'.len];exact hi)];exact h5,h6⟩
  ·rw [TR (U5.mp hi),UE] at q
   split at q<;>cases q
 have hlen:ρ.length=X.N.length:=by rw [<- E.len];exact I.len
 have stat:∀ {H':Hp}{pl:List (Addr×TK)},(∀ b∈fp,H' b=none)->pl=[]->∀ b∈fp,gT (cQ X scope cl s3.heap.objs.size (bM xs X.N++xs) s3 H3 fp) pl H' b:=fun {H' pl} hn hpl b hb=>by
  obtain ⟨f0,f1,f2',f3',f4,f5⟩:=f3 b hb
  obtain ⟨o,ho⟩:=hob b hb
  refine ⟨hn b hb,RT (RH ho),fun z=>?_,.inl hb,fun y c h=>f4 y c (O.sub y c h),fun p hp=>?_⟩
  ·rcases Sa.mp (I3.stkSub b z) with z|z
   ·exact f1 z
   ·exact f2' z
  ·subst hpl
   exact absurd (show p∈([]:List (Addr×TK)) from hp) (by simp)
 have loop:∀ s4:RC,(∃ tk,s4 = { s3 with heap:=h₁,toks:=tk })->
   VY (R0 X.prog X.w) X.A (.compLoop (.ListComp elt [⟨tg,iter,ifs,0⟩] scope pos) 0 (.ref it) (.ref s2.heap.objs.size) (VI scope cl s3.heap.objs.size X.env))
    (compPost (R0 X.prog X.w) X.A X.xe use QQ (.ref s2.heap.objs.size) s3.heap.objs.size) s4:=by
  rintro s4 ⟨tk,rfl⟩
  have I4:=O.inv (tk:=tk) I3 f3 hob hns₁ hk1
  refine Jb (fun n s'=>∃ i σ' H' π' μi o,Inv (cQ X scope cl s3.heap.objs.size (bM xs X.N++xs) s3 H3 fp) [] σ' H' s'/\tn i s'.heap/\(∀ b∈fp,H' b=none)/\Ext π3 (μ1++[C.lst []]).length H3 π' μi.length H'/\Rp X.K π' H' μi /\
   En X.K π' μi.length H' σ' (ρ++o)/\o.length=xs.length/\gA src bd mc me ρ μ1.length n i μi=some μ') ?_ nt
   ⟨0,_,H3,π3,μ1++[C.lst []],T4 xs.length none,I4,T.keep 0 _ _ st3 fun b hb o e=>hk1 b o e,fun b hb=>(f3 b hb).1,.refl,R2,E3,Uk,h3⟩
  rintro n s5 ⟨i,σ5,H5,π5,μ5,o5,I5,st5,fr5,e5,R5,E5,l5,g5⟩
  cases n with
  | zero=>cases g5
  | succ n=>
   obtain ⟨o,h6,h7⟩:=Rl.mp g5
   cases o with
   | none=>
    cases h7
    have stop:=W.stop π5 _ H5 i (e2.trans e5) R5 h6
    refine S5 (T.done (cQ X scope cl s3.heap.objs.size (bM xs X.N++xs) s3 H3 fp) rfl rfl rfl hcalm i [] s5 σ5 H5 (fun _ _=>False) I5 (stat fr5 rfl) st5 stop) (fun r s6 ⟨hr,I6⟩=>?_) fun _ _ z=>z
    subst hr
    obtain ⟨m6,hn6,_⟩:=id I6.loc
    have hp:π5 μ1.length=s2.heap.objs.size:=by rw [e5.pi μ1.length (by simp),q2]
    refine fin s2.heap.objs.size s3.heap.objs.size π5 H5 s6 (e12.trans e5) R5 ?_ ⟨m6,hn6⟩ I3.sz (So (RT I3.lt)) I6.free (fun y c hc z=>?_) (fun q hq z=>?_) fun h' hh=>CompOk.back I3 f3 I6 hh
    ·rw [<- hp]
     exact .loc (Si (by simp) e5.le)
    ·obtain ⟨v,o,ho,_⟩:=I3.cell y c hc
     exact RT (RH ho) z
    ·exact RT (RH (I3.pin q hq).1) z
   | some d=>
    obtain ⟨z,hz,h7⟩:=Rl.mp h7
    obtain ⟨⟨b,μ6⟩,h8,h9⟩:=Rl.mp h7
    obtain ⟨g1,g2⟩:=W.go π5 μ5 H5 i d (e2.trans e5) R5 h6
    refine S5 (T.item (cQ X scope cl s3.heap.objs.size (bM xs X.N++xs) s3 H3 fp) rfl rfl rfl hcalm i [] s5 σ5 H5 (fun _ _=>False) I5 (stat fr5 rfl) st5 g1) (fun r s6 ⟨u,hr,h10⟩=>?_) fun _ _ z=>z
    subst hr
    refine S5 h10 (fun _ s7 ⟨v,H7,I7,r7,y7,st7,fr7⟩=>?_) fun _ _ z=>z
    obtain ⟨e7,R7,hd⟩:=g2 v H7 y7
    have I7':=I7.pinned (stat fr7 rfl) (T.obj _ _ st7)
    have e5:=e5.trans e7
    refine S5 (hg _ _ _ _ _ s7 σ5 H7 v u (fun σ' H'=>En X.K π5 μ5.length H7 σ' (ρ++z)/\H'=H7) I7' r7
     ⟨π5,ρ++T4 xs.length none,μ5,d,ρ++z,R7,Kw (E5.mono e7) l5,hd,(by
      show (bd d μ5).map (fun x=>(ρ++T4 xs.length none).take X.N.length++x)=_
      rw [hz,<- hlen,List.take_left]
      rfl),fun σ' E'=>⟨E',rfl⟩⟩) (fun _ s8 ⟨σ8,H8,I8,E8,z2⟩=>?_) fun _ _ z=>z
    subst z2
    have again:∀ {s9:RC}{H9:Hp}{π9:Nat->Addr}{μ9:Hm},Inv (cQ X scope cl s3.heap.objs.size (bM xs X.N++xs) s3 H3 fp) ([]++oD fp s7.heap) σ8 H9 s9->Ext π3 (μ1++[C.lst []]).length H3 π9 μ9.length H9->Rp X.K π9 H9 μ9->
      En X.K π9 μ9.length H9 σ8 (ρ++z)->gA src bd mc me ρ μ1.length n (i+1) μ9=some μ'->
      ∃ m,m<n+1/\∃ i σ' H' π' μi o,Inv (cQ X scope cl s3.heap.objs.size (bM xs X.N++xs) s3 H3 fp) [] σ' H' s9/\tn i s9.heap/\(∀ b∈fp,H' b=none)/\Ext π3 (μ1++[C.lst []]).length H3 π' μi.length H'/\Rp X.K π' H' μi /\
       En X.K π' μi.length H' σ' (ρ++o)/\o.length=xs.length/\gA src bd mc me ρ μ1.length m i μi=some μ':=fun {s9 H9 π9 μ9} I9 e9 R9 E9 g9=>by
     refine ⟨n,Wz _,i+1,_,H9,π9,μ9,z,I9.unpinned,T.keep _ _ _ st7 fun b hb o e=>(I9.pin (b,o) (S7 _ (S7 _ (qH hb e)))).1,fun b hb=>?_,e9,R9,E9,hb' _ _ _ hz,g9⟩
     obtain ⟨o,e,_⟩:=T.obj _ _ st7 b hb
     exact (I9.pin (b,o) (S7 _ (S7 _ (qH hb e)))).2.1
    refine S5 (hc _ _ _ _ _ s8 _ H8 (fun b' H'=>∃ π9,b'=b/\Ext π5 μ5.length H8 π9 μ6.length H'/\Rp X.K π9 H' μ6) I8 ⟨π5,_,μ5,b,μ6,R7,E8,h8,fun π9 H9 e9 R9=>⟨π9,rfl,e9,R9⟩⟩) (fun ok s9 ⟨H9,I9,π9,hb,e9,R9⟩=>?_) fun _ _ z=>z
    subst hb
    cases ok with
    | false=>
     rw [if_neg RO]
     exact again I9 (e5.trans e9) R9 (E8.mono e9) h9
    | true=>
     rw [if_pos rfl]
     obtain ⟨⟨dy,μ7⟩,h11,h12⟩:=Rl.mp h9
     obtain ⟨μ8,h13,h14⟩:=Rl.mp h12
     refine S5 (he _ _ _ _ _ s9 _ H9 (fun y H'=>∃ π10,Ext π9 μ6.length H9 π10 μ7.length H'/\Rp X.K π10 H' μ7/\IsD X.K π10 μ7.length H' y dy) I9 ⟨π9,_,μ6,dy,μ7,R9,E8.mono e9,h11,fun π10 y H10 e10 R10 i10=>⟨π10,e10,R10,i10⟩⟩)
      (fun u' s10 ⟨y,H10,I10,ry,π10,e10,R10,i10⟩=>?_) fun _ _ z=>z
     unfold m4 at h13
     split at h13
     ·rename_i zs hz
      split at h13
      ·rename_i hl
       cases h13
       obtain ⟨vs,h15,h16⟩:=R10.lst _ zs hz
       have eall:=(e5.trans e9).trans e10
       have hp:π10 μ1.length=s2.heap.objs.size:=by rw [eall.pi μ1.length (by simp),q2]
       obtain ⟨e11,R11⟩:=R10.put (a:=μ1.length) (c:=.lst (zs++[dy])) (o:=.lst (vs++[y])) (Rw.mp hz).1 h15 (.inl ⟨vs,rfl⟩) (h16.append (.cons i10 .nil))
       rw [hp] at h15 e11 R11
       refine S5 (AB (X:=cQ X scope cl s3.heap.objs.size (bM xs X.N++xs) s3 H3 fp) _ s10 _ H10 (.ref s2.heap.objs.size) [y] (.ref s2.heap.objs.size) [u'] (fun _ H'=>H'=aI H10 s2.heap.objs.size (.lst (vs++[y]))) I10 rfl (.cons ry .nil)
        ⟨s2.heap.objs.size,vs,y,rfl,rfl,h15,by rw [h16.length];exact hl,rfl⟩) (fun _ s11 ⟨_,H11,I11,_,z⟩=>?_) fun _ _ z=>z
       subst z
       exact again I11 (eall.trans e11) R11 ((E8.mono (e9.trans e10)).mono e11) h14
      ·cases h13
     ·cases h13
 have l4:=loop { s3 with heap:=h₁,toks:=s2.toks+([]:List (Str×Ru)).length } ⟨_,rfl⟩
 have hst4:tn 0 h₁:=T.keep 0 _ _ st3 fun b hb o e=>hk1 b o e
 subst hs3
 exact codeAny_compStart_list l4 (T.self _ 0 _ _ _ hst4 l4)
theorem Ky (O:CompOk X scope cl xs)(hcalm:X.calm=true)(hi:PI X tg iter (jT X.K mi))(hb':∀ d μ z,bd d μ=some z->z.length=xs.length)(hg:∀ C s₀ H₀ fp,PG (cQ X scope cl C (bM xs X.N++xs) s₀ H₀ fp) tg (f7 X.K (gB X.N.length bd)))
  (hc:∀ C s₀ H₀ fp,m5 (cQ X scope cl C (bM xs X.N++xs) s₀ H₀ fp) ifs mc)(he:∀ C s₀ H₀ fp,PE (cQ X scope cl C (bM xs X.N++xs) s₀ H₀ fp) elt (tM X.K me))
  (hs:∀ x,VH iter X.env x=pure x):PE X (.ListComp elt [⟨tg,iter,ifs,0⟩] scope pos) (tM X.K (jV bd mi mc me)):=by
 intro a1Z s σ H Q I hw
 obtain ⟨π,ρ,μ,d,μ',R,E,hm,k⟩:=hw
 rw [eval_ListComp]
 refine Bs (use:=none) O hcalm hi hb' hg hc he hs I R E hm fun p C π' H' s' e1 R1 i1 hns hsz hne hfree hcel hpin back=>?_
 obtain ⟨m,hn⟩:=hns
 exact ⟨m,hn,fun h' sb=>⟨.ref p,H',back h' (fun b o hb e=>(sb.2 b hb).trans e),rfl,k π' _ H' e1 R1 i1⟩⟩
theorem Kz {i:Nat}{y:Str}{py spos:TC}(O:CompOk X scope cl xs)(hN:X.N.Nodup)(hcalm:X.calm=true)(hi:PI X tg iter (jT X.K mi))(hb':∀ d μ z,bd d μ=some z->z.length=xs.length)(hg:∀ C s₀ H₀ fp,PG (cQ X scope cl C (bM xs X.N++xs) s₀ H₀ fp) tg (f7 X.K (gB X.N.length bd)))
  (hc:∀ C s₀ H₀ fp,m5 (cQ X scope cl C (bM xs X.N++xs) s₀ H₀ fp) ifs mc)(he:∀ C s₀ H₀ fp,PE (cQ X scope cl C (bM xs X.N++xs) s₀ H₀ fp) elt (tM X.K me))
  (hs:∀ x,VH iter X.env x=pure x)(hy:X.N[i]? = some y)(hl:X.env.scope.names.lookup y=some .local)
  (hsw:VR (.ListComp elt [⟨tg,iter,ifs,0⟩] scope pos) (some (.Name y py)) spos.line X.env=pure true) :
  PS X (.Assign [.Name y py] (.ListComp elt [⟨tg,iter,ifs,0⟩] scope pos) spos) (cV X.K (aZ i (jV bd mi mc me))):=by
 intro a1Z s σ H EN I hw
 obtain ⟨π,ρ,μ,fl,ρ',μ',R,E,hm,k⟩:=hw
 obtain ⟨⟨d,μ1⟩,h1,hm⟩:=Rv.mp hm
 cases hm
 rw [exec_Assign_Name_used _ _ _ _ hsw]
 refine Rm (Ze ?_)
 refine Rm (Rm ?_)
 refine Bs (use:=some (XE (.Name y py) X.env)) (QQ:=fun _ s'=>RQ (R0 X.prog X.w) X.A (pure ()) (fun _ s''=>RQ (R0 X.prog X.w) X.A (pure Flow.next) (SP X a1Z EN) X.xe s'') X.xe s') O hcalm hi hb' hg hc he hs I R E h1 fun p C π' H' s' e1 R1 i1 hns hsz hne hfree hcel hpin back=>?_
 obtain ⟨m,hn⟩:=hns
 have I1:Inv X a1Z σ H' s':=back s'.heap fun b o _ e=>e
 show RQ (R0 X.prog X.w) X.A (XE (.Name y py) X.env (.ref p)) _ X.xe s'
 refine a0I ?_
 refine zO I1 hN hy (.inl hl) (show RelV (.ref p) (.ref p) from rfl) (fun s2 I2 ⟨a,sb,ha⟩=>?_) (.inr hl)
 have hCa:C≠a:=by
  rcases ha with rfl|ha
  ·exact hne
  ·exact So (hcel _ _ ha)
 refine ⟨m,hn.sameBut sb hCa,fun h' sb'=>Ry (Ry ?_)⟩
 refine ⟨σ.set i (some (.ref p)),H',I2.turned (t':=s2.toks) (fun b o hb e=>(sb'.2 b hb).trans e) hfree hne (.inr hsz) hcel hpin,?_⟩
 exact k π' _ H' e1 R1 ((E.mono e1).set i1 i)
end
end L3
namespace L3
open PySem L2
noncomputable def bW:ME:=fun _ _=>none
noncomputable def lN:MT:=fun _ _=>none
noncomputable def dM:MS:=fun _ _=>none
section
variable {X:Cx}{e a b c o:RI}{m m1 m2 ma mb mc:ME}{pos:TC}{mt mu:MT}{bN es:List RI}{ms:MA}{n:Nat}
theorem b7:QE X e bW:=⟨fun a1Z s σ H Q I h=>by
 obtain ⟨π,ρ,μ,d,μ',R,E,hm,k⟩:=h
 cases hm⟩
theorem u6:QT X e lN:=⟨fun a1Z s σ H Q I h=>by
 obtain ⟨π,ρ,μ,d,μ',R,E,hm,k⟩:=h
 cases hm⟩
theorem KA:QW X e lN:=⟨fun wh a1Z s σ H Q I h=>by
 obtain ⟨π,ρ,μ,d,μ',R,E,hm,k⟩:=h
 cases hm⟩
theorem gJ {st:Stmt}:QS X st dM:=⟨fun a1Z s σ H D I h=>by
 obtain ⟨π,ρ,μ,fl,ρ',μ',R,E,hm,k⟩:=h
 cases hm⟩
theorem rB {g:MG}(hg:∀ d ρ μ,g d ρ μ=none):QG X e g:=⟨fun a1Z s σ H v u Q I r h=>by
 obtain ⟨π,ρ,μ,d,ρ',R,E,hd,hm,k⟩:=h
 rw [hg] at hm
 cases hm⟩
theorem oQ (h1:QE X e m1)(h2:QE X e m2)(h:∀ ρ μ r,m ρ μ=some r->m1 ρ μ=some r\/m2 ρ μ=some r):QE X e m:=⟨fun a1Z s σ H Q I q=>by
 obtain ⟨π,ρ,μ,d,μ',R,E,hm,k⟩:=q
 rcases h ρ μ _ hm with z|z
 ·exact h1.h a1Z s σ H Q I ⟨π,ρ,μ,d,μ',R,E,z,k⟩
 ·exact h2.h a1Z s σ H Q I ⟨π,ρ,μ,d,μ',R,E,z,k⟩⟩
theorem rC {m m1 m2:MT}(h1:QT X e m1)(h2:QT X e m2)(h:∀ ρ μ r,m ρ μ=some r->m1 ρ μ=some r\/m2 ρ μ=some r):QT X e m:=⟨fun a1Z s σ H Q I q=>by
 obtain ⟨π,ρ,μ,d,μ',R,E,hm,k⟩:=q
 rcases h ρ μ _ hm with z|z
 ·exact h1.h a1Z s σ H Q I ⟨π,ρ,μ,d,μ',R,E,z,k⟩
 ·exact h2.h a1Z s σ H Q I ⟨π,ρ,μ,d,μ',R,E,z,k⟩⟩
theorem jW {f f1 f2:D->D->Hm->Option (D×Hm)}(h:∀ x y μ r,f x y μ=some r->f1 x y μ=some r\/f2 x y μ=some r) :
  ∀ ρ μ r,aB f ma mb ρ μ=some r->aB f1 ma mb ρ μ=some r\/aB f2 ma mb ρ μ=some r:=by
 intro ρ μ r hm
 obtain ⟨p,h1,hm⟩:=Rl.mp hm
 obtain ⟨q,h2,hm⟩:=Rl.mp hm
 rcases h _ _ _ _ hm with z|z
 ·exact .inl (Rl.mpr ⟨p,h1,Rl.mpr ⟨q,h2,z⟩⟩)
 ·exact .inr (Rl.mpr ⟨p,h1,Rl.mpr ⟨q,h2,z⟩⟩)
theorem rD (h:∀ ρ μ r,m ρ μ=some r->m1 ρ μ=some r\/m2 ρ μ=some r):∀ ρ μ r,bD m ρ μ=some r->bD m1 ρ μ=some r\/bD m2 ρ μ=some r:=by
 intro ρ μ r hm
 obtain ⟨p,h1,hm⟩:=Rl.mp hm
 rcases h _ _ _ h1 with z|z
 ·exact .inl (Rl.mpr ⟨p,z,hm⟩)
 ·exact .inr (Rl.mpr ⟨p,z,hm⟩)
noncomputable def rF:List D->Option (List Int)
 | []=>some []
 | .int i::r=>(rF r).map (i::·)
 | _=>none
noncomputable def dG:D->Option (List Int)
 | .tup ds=>rF ds
 | _=>none
noncomputable def bO (kvs:List (List Int×D))(k:List Int):Option D:=(kvs.find? fun p=>decide (p.1=k)).map (·.2)
noncomputable def dC (kvs:List (List Int×D))(k:List Int)(d:D):List (List Int×D):=if (bO kvs k).isSome then kvs.map (fun p=>if p.1=k then (p.1,d) else p) else kvs++[(k,d)]
noncomputable def aL:D->D->Hm->Option (D×Hm):=fun x y μ=>match x with
 | .loc a=>match μ[a]? with
  | some (.dT kvs)=>(dG y).bind fun k=>(bO kvs k).map fun d=>(d,μ)
  | some (.dF kvs)=>(dG y).bind fun k=>(bO kvs k).map fun d=>(d,μ)
  | _=>fZ x y μ
 | _=>fZ x y μ
structure TabOk (X:Cx)(x:Str)(kvs:List (a9×D)):Prop where
 ex:∃ (p:Addr)(vs:List (a9×V))(ws:List (a9×Ru)),X.mg x=some (.ref p)/\(∀ h:SO,X.K.In h->h.DictOf (k9 X.prog X.w) p ws)/\KV vs ws/\∀ π n H,IsKs X.K π n H vs kvs
theorem Bt {a1Z:List (Addr×TK)}{σ:St}{H:Hp}{s:RC}(I:Inv X a1Z σ H s){p:Addr}{ob:TK}(h:X.K.lookup p=some ob):H p=none:=(I.bs p ob (I.mod.kin p ob h)).2
theorem Bu {K:Rn}{π:Nat->Addr}{H:Hp}{μ:Hm}(R:Rp K π H μ){a':Nat}(ha:a'<μ.length):(∃ vs,H (π a')=some (.lst vs))\/(∃ vs,H (π a')=some (.dK vs))\/(∃ φ,H (π a')=some (.ext φ))\/∃ ob φ,H (π a')=some (.frz ob (.ext φ)):=by
 cases q:μ[a']? with
 | none=>exact absurd (Su.mp q) (by omega)
 | some cl=>
  cases cl with
  | lst xs=>obtain ⟨vs,h,_⟩:=R.lst a' xs q;exact .inl ⟨vs,h⟩
  | dK xs=>obtain ⟨vs,h,_⟩:=R.dK a' xs q;exact .inr (.inl ⟨vs,h⟩)
  | st xs=>obtain ⟨vs,h,_⟩:=R.st a' xs q;exact .inr (.inr (.inl ⟨_,h⟩))
  | dT xs=>obtain ⟨vs,h,_⟩:=R.dT a' xs q;exact .inr (.inr (.inl ⟨_,h⟩))
  | dF xs=>obtain ⟨ob,vs,h,_⟩:=R.dF a' xs q;exact .inr (.inr (.inr ⟨ob,_,h⟩))
section
variable {a1Z:List (Addr×TK)}{σ:St}{H:Hp}{s:RC}{π:Nat->Addr}{μ:Hm}
theorem Bv (I:Inv X a1Z σ H s)(R:Rp X.K π H μ){a':Nat}(ha:a'<μ.length){vs:List V}(h:SqT X.K H (π a') vs):False:=by
 have hc:=Bu R ha
 rcases h with h|h
 ·rcases h with h|⟨ob,h⟩<;>rcases hc with ⟨ws,z⟩|⟨ws,z⟩|⟨ws,z⟩|⟨_,ws,z⟩<;>(rw [h] at z;cases z)
 ·obtain ⟨ob,its,n,hk,_⟩:=h
  have:=Bt I hk
  rcases hc with ⟨ws,z⟩|⟨ws,z⟩|⟨ws,z⟩|⟨_,ws,z⟩<;>(rw [this] at z;cases z)
theorem Bw (I:Inv X a1Z σ H s)(R:Rp X.K π H μ){a':Nat}(ha:a'<μ.length){vs:List V}(h:RoL X.K H (π a') vs):False:=by
 have hc:=Bu R ha
 rcases h with ⟨ob,h⟩|h
 ·rcases hc with ⟨ws,z⟩|⟨ws,z⟩|⟨ws,z⟩|⟨_,ws,z⟩<;>(rw [h] at z;cases z)
 ·obtain ⟨ob,its,n,hk,_⟩:=h
  have:=Bt I hk
  rcases hc with ⟨ws,z⟩|⟨ws,z⟩|⟨ws,z⟩|⟨_,ws,z⟩<;>(rw [this] at z;cases z)
theorem Bx (I:Inv X a1Z σ H s){p:Addr}{vs ws:List V}(h:SqT X.K H p vs)(h':RoL X.K H p ws):False:=by
 obtain ⟨its,_,t,_⟩:=I.tuple h
 obtain ⟨its',_,l,_⟩:=I.list h'.sq
 exact absurd rfl (TQ l.isList t)
mutual
theorem By (I:Inv X a1Z σ H s)(R:Rp X.K π H μ){v:V}{d d':D}:IsD X.K π μ.length H v d->IsD X.K π μ.length H v d'->d=d'
 | .non,h'=>by cases h';rfl
 | .bl _,h'=>by cases h';rfl
 | .int _,h'=>by cases h';rfl
 | .str _,h'=>by cases h';rfl
 | .ty _,h'=>by cases h';rfl
 | .tup h t,h'=>by
  cases h' with
  | tup h2 t2=>
   have:=I.tuple_inj h h2
   subst this
   rw [u7 I R t t2]
  | rol h2 t2=>exact (Bx I h h2).elim
  | loc h2=>exact (Bv I R h2 h).elim
 | .rol h t,h'=>by
  cases h' with
  | tup h2 t2=>exact (Bx I h2 h).elim
  | rol h2 t2=>
   have:=I.list_inj h.sq h2.sq
   subst this
   rw [u7 I R t t2]
  | loc h2=>exact (Bw I R h2 h).elim
 | .loc (a:=a1) ha,h'=>by
  generalize hz:V.ref (π a1)=z at h'
  cases h' with
  | tup h2 t2=>cases hz;exact (Bv I R ha h2).elim
  | rol h2 t2=>cases hz;exact (Bw I R ha h2).elim
  | loc h2=>
   have:=R.inj _ _ ha h2 (V.ref.inj hz)
   rw [this]
  | _=>cases hz
theorem u7 (I:Inv X a1Z σ H s)(R:Rp X.K π H μ){vs:List V}{ds ds':List D}:IsDs X.K π μ.length H vs ds->IsDs X.K π μ.length H vs ds'->ds=ds'
 | .nil,h'=>by cases h';rfl
 | .cons h t,h'=>by
  cases h' with
  | cons h2 t2=>rw [By I R h h2,u7 I R t t2]
end
end
noncomputable def kE (μ:Hm)(x:D):List D->Option Bool
 | []=>some false
 | y::r=>(bZ 8 μ y x).bind fun b=>(kE μ x r).map fun c=>b||c
noncomputable def lO (neg:Bool):D->D->Hm->Option (D×Hm):=fun x y μ=>(bJ μ y).bind fun ys=>(kE μ x ys).map fun b=>(.bl (if neg then !b else b),μ)
noncomputable def u9 (K:Rn)(neg:Bool):R2:=fun x y H Q=>∃ π μ dx dy ys b,Rp K π H μ/\IsD K π μ.length H x dx/\IsD K π μ.length H y dy/\bJ μ dy=some ys/\kE μ dx ys=some b/\Q (.bl (if neg then !b else b)) H
theorem rG {K:Rn}{neg:Bool}:cP K (lO neg) (u9 K neg):=by
 intro π H μ x y d μ' vx vy Q R ix iy hm k
 obtain ⟨ys,h1,hm⟩:=Rl.mp hm
 obtain ⟨b,h2,hm⟩:=Rv.mp hm
 cases hm
 exact ⟨π,_,x,y,ys,b,R,ix,iy,h1,h2,k π _ H .refl R (.bl _)⟩
theorem rH {a1Z:List (Addr×TK)}{σ:St}{H:Hp}{s:RC}{π:Nat->Addr}{μ:Hm}(I:Inv X a1Z σ H s)(R:Rp X.K π H μ){A:Sn}(hu:A.units+8<TN){x:V}{v:Ru}{dx:D}(rx:RelV x v)(ix:IsD X.K π μ.length H x dx) :
  ∀ {ys:List D}{vs:List V}{us:List Ru}{b:Bool},IsDs X.K π μ.length H vs ys->Vals vs us->kE μ dx ys=some b->
   ∃ g:Ru->Bool,(∀ u∈us,XX A s u v (g u))/\us.any g=b:=by
 classical
 intro ys vs us b hi hv hm
 have each:∀ {ys:List D}{vs:List V}{us:List Ru}{b:Bool},IsDs X.K π μ.length H vs ys->Vals vs us->kE μ dx ys=some b->(∀ u∈us,∃ c,XX A s u v c/\∃ w dy,RelV w u/\IsD X.K π μ.length H w dy/\bZ 8 μ dy dx=some c):=by
  intro ys
  induction ys with
  | nil=>
   intro vs us b hi hv hm u hu'
   cases hi
   cases hv
   cases hu'
  | cons y ys ih=>
   intro vs us b hi hv hm u hu'
   cases hi with
   | cons h t=>
    cases hv with
    | cons r rt=>
     obtain ⟨c,h1,hm⟩:=Rl.mp hm
     obtain ⟨c2,h2,hm⟩:=Rv.mp hm
     rcases Sa.mp hu' with rfl|hu'
     ·exact ⟨c,uN I R 8 hu r rx h ix h1,_,_,r,h,h1⟩
     ·exact ih t rt h2 u hu'
 have ec:=each hi hv hm
 refine ⟨fun u=>if h:u∈us then W7 (ec u h) else false,fun u hu'=>?_,?_⟩
 ·simp only [dif_pos hu']
  exact (Yd (ec u hu')).1
 ·have key:∀ u (h:u∈us) w dy c,RelV w u->IsD X.K π μ.length H w dy->bZ 8 μ dy dx=some c->W7 (ec u h)=c:=by
   intro u h w dy c rw' iw ew
   obtain ⟨_,w2,dy2,r2,i2,e2⟩:=Yd (ec u h)
   have:w2=w:=r2.inj rw'
   subst this
   have:=By I R i2 iw
   subst this
   rw [e2] at ew
   exact RY ew
  have main:∀ {ys:List D}{vs:List V}{us':List Ru}{b:Bool},(∀ u∈us',u∈us)->IsDs X.K π μ.length H vs ys->Vals vs us'->kE μ dx ys=some b->us'.any (fun u=>if h:u∈us then W7 (ec u h) else false)=b:=by
   intro ys
   induction ys with
   | nil=>
    intro vs us' b hs hi hv hm
    cases hi
    cases hv
    cases hm
    rfl
   | cons y ys ih=>
    intro vs us' b hs hi hv hm
    cases hi with
    | cons h t=>
     cases hv with
     | @cons _ u _ us2 r rt=>
      obtain ⟨c,h1,hm⟩:=Rl.mp hm
      obtain ⟨c2,h2,hm⟩:=Rv.mp hm
      have gE:u∈us:=hs u (RX ..)
      rw [Wo,ih (fun z hz=>hs z (RP _ hz)) t rt h2,dif_pos gE,key u gE _ _ c r h h1]
      exact hm
  exact main (fun _ h=>h) hi hv hm
theorem rJ {k:Nat}{A:Sn}(r:Room k A):A.units+9<TN:=by have:=r.un;omega
theorem Bz (hu:X.A.units+9<TN):OpR X (S4 .In) (u9 X.K false):=by
 intro a1Z s σ H x y v u Q I rx ry h
 obtain ⟨π,μ,dx,dy,ys,b,R,ix,iy,e1,e2,q⟩:=h
 obtain ⟨p,vs,rfl,hq,hd⟩:=oO R iy e1
 cases ry
 rcases hq with hq|hq
 ·obtain ⟨its,r,pl,hz⟩:=I.list hq
  obtain ⟨g,g1,g2⟩:=rH I R (A:=X.A.in1) (by rw [lF];omega) rx ix hd r e2
  refine SeqAt.in_listAt g pl.isList (fun w hw=>g1 w (by simpa using hw)) ⟨.bl _,H,I,rfl,?_⟩
  rw [show its.toArray.any g=its.any g by simp,g2]
  exact q
 ·obtain ⟨its,r,pl,hz⟩:=I.tuple hq
  obtain ⟨g,g1,g2⟩:=rH I R (A:=X.A.in1) (by rw [lF];omega) rx ix hd r e2
  refine SeqAt.in_tupleAt g pl (fun w hw=>g1 w (by simpa using hw)) ⟨.bl _,H,I,rfl,?_⟩
  rw [show its.toArray.any g=its.any g by simp,g2]
  exact q
theorem BA (hu:X.A.units+9<TN):OpR X (S4 .NotIn) (u9 X.K true):=by
 intro a1Z s σ H x y v u Q I rx ry h
 obtain ⟨π,μ,dx,dy,ys,b,R,ix,iy,e1,e2,q⟩:=h
 obtain ⟨p,vs,rfl,hq,hd⟩:=oO R iy e1
 cases ry
 rcases hq with hq|hq
 ·obtain ⟨its,r,pl,hz⟩:=I.list hq
  obtain ⟨g,g1,g2⟩:=rH I R (A:=X.A.in1) (by rw [lF];omega) rx ix hd r e2
  refine SeqAt.notIn_listAt g pl.isList (fun w hw=>g1 w (by simpa using hw)) ⟨.bl _,H,I,rfl,?_⟩
  rw [show its.toArray.any g=its.any g by simp,g2]
  exact q
 ·obtain ⟨its,r,pl,hz⟩:=I.tuple hq
  obtain ⟨g,g1,g2⟩:=rH I R (A:=X.A.in1) (by rw [lF];omega) rx ix hd r e2
  refine SeqAt.notIn_tupleAt g pl (fun w hw=>g1 w (by simpa using hw)) ⟨.bl _,H,I,rfl,?_⟩
  rw [show its.toArray.any g=its.any g by simp,g2]
  exact q
noncomputable def cX (neg:Bool):D->D->Hm->Option (D×Hm)
 | .str i,.str j,μ=>some (.bl (if neg then !(!(Tn j i 0 j.length 1).isEmpty) else !(Tn j i 0 j.length 1).isEmpty),μ)
 | x,.loc a,μ=>match μ[a]? with
  | some (.dT kvs)=>(dG x).map fun k=>(.bl (if neg then !(bO kvs k).isSome else (bO kvs k).isSome),μ)
  | some (.dF kvs)=>(dG x).map fun k=>(.bl (if neg then !(bO kvs k).isSome else (bO kvs k).isSome),μ)
  | _=>lO neg x (.loc a) μ
 | x,y,μ=>lO neg x y μ
noncomputable def vA:D->D->Hm->Option (D×Hm)
 | .str i,.str j,μ=>some (.bl (!(!(Tn j i 0 j.length 1).isEmpty)),μ)
 | _,_,_=>none
theorem BB {K:Rn}:cP K vA (fun x y H Q=>∃ i j,x=.str i/\y=.str j/\Q (.bl (!(!(Tn j i 0 j.length 1).isEmpty))) H):=by
 intro π H μ x y d μ' vx vy Q R ix iy hm k
 unfold vA at hm
 split at hm
 ·cases hm
  cases ix
  cases iy
  exact ⟨_,_,rfl,rfl,k π _ H .refl R (.bl _)⟩
 ·cases hm
end
end L3
namespace L3
open PySem L2
section
variable {X:Cx}{e a b c o:RI}{m m1 m2 ma mb mc mo:ME}{pos apos cpos:TC}{mt mu:MT}{bN es:List RI}{ms:MA}{n:Nat}
noncomputable def nA (μ:Hm):D->Bool
 | .rol _=>true
 | .loc a=>match μ[a]? with|some (.lst _)=>true|_=>false
 | _=>false
noncomputable def d9 (f:D->List D->Hm->Option (D×Hm))(mo:ME)(ms:MA):ME:=fun ρ μ=>(mo ρ μ).bind fun p=>match nA p.2 p.1 with
 | true=>(ms ρ p.2).bind fun q=>f p.1 q.1 q.2
 | false=>none
noncomputable def eX (K:Rn)(f:D->List D->Hm->Option (D×Hm))(r:V->List V->Hp->VK->Prop):Prop:=
 ∀ π H μ x xs d μ' v vs Q,Rp K π H μ->IsD K π μ.length H v x->IsDs K π μ.length H vs xs->f x xs μ=some (d,μ')->KC K Q π μ.length H d μ'->r v vs H Q
theorem BC {K:Rn}{π:Nat->Addr}{H:Hp}{μ:Hm}{v:V}{x:D}(R:Rp K π H μ)(h:IsD K π μ.length H v x)(e:nA μ x=true):qN K "list" v H:=by
 cases h with
 | rol h t=>exact .inl ⟨rfl,_,h.sq⟩
 | @loc a ha=>
  simp only [nA] at e
  split at e
  ·rename_i xs hx
   obtain ⟨vs,h1,_⟩:=R.lst a xs hx
   exact .inl ⟨rfl,vs,.of h1⟩
  ·cases e
 | _=>cases e
theorem KG {K:Rn}{f:D->List D->Hm->Option (D×Hm)}{r:V->List V->Hp->VK->Prop}(hf:eX K f r):∀ σ H Q,tM K (d9 f mo ms) σ H Q->Az K "list" r (tM K mo) (eU K ms) σ H Q:=by
 rintro σ H Q ⟨π,ρ,μ,d,μ',R,E,hm,k⟩
 obtain ⟨⟨x,μ1⟩,h1,hm⟩:=Rl.mp hm
 dsimp only at hm
 split at hm
 ·rename_i hl
  obtain ⟨⟨xs,μ2⟩,h2,hm⟩:=Rl.mp hm
  refine ⟨π,ρ,μ,x,μ1,R,E,h1,fun π1 v1 H1 e1 R1 i1=>⟨BC R1 i1 hl,π1,ρ,μ1,xs,μ2,R1,E.mono e1,h2,fun π2 vs H2 e2 R2 i2=>?_⟩⟩
  exact hf π2 H2 μ2 x xs d μ' v1 vs Q R2 (i1.mono e2) i2 hm (k.after (e1.trans e2))
 ·cases hm
theorem KH {K:Rn}{f:D->List D->Hm->Option (D×Hm)}{r:V->List V->Hp->VK->Prop}(hf:eX K f r):∀ σ H Q,tM K (d9 f mo aD) σ H Q->Ay K "list" r (tM K mo) σ H Q:=by
 rintro σ H Q ⟨π,ρ,μ,d,μ',R,E,hm,k⟩
 obtain ⟨⟨x,μ1⟩,h1,hm⟩:=Rl.mp hm
 dsimp only at hm
 split at hm
 ·rename_i hl
  obtain ⟨⟨xs,μ2⟩,h2,hm⟩:=Rl.mp hm
  cases h2
  refine ⟨π,ρ,μ,x,μ1,R,E,h1,fun π1 v1 H1 e1 R1 i1=>⟨BC R1 i1 hl,?_⟩⟩
  exact hf π1 H1 μ1 x [] d μ' v1 [] Q R1 i1 .nil hm (k.after e1)
 ·cases hm
noncomputable def iV:RI->Bool
 | .Call (.Name _ _) [] [] _=>false
 | _=>true
theorem jX {o:RI}{attr:Str}{env:Xk}{whole:a1n Ru}(h:iV o=true):UH o attr env whole=whole:=by
 cases o with
 | Call f args kws p=>
  cases f with
  | Name id q=>
   cases args with
   | nil=>
    cases kws with
    | nil=>cases h
    | cons _ _=>rfl
   | cons _ _=>rfl
  | _=>rfl
 | _=>rfl
theorem BE {e:RI}{es:List RI}{env:Xk}{cpos:TC}(h:(e::es).all cW=true)(hn:(e::es).length<30) :
  ((Uz cpos (Sj (e::es) env)).all (fun x=>!x.1)&&(YV cpos (Xf [] env)).all (fun x=>x.1.isSome)
   && decide ((e::es).length+([]:List Vh).length+(if ([]:List Vh).isEmpty then 0 else 1)<30))=true:=by
 have h1:(Uz cpos (Sj (e::es) env)).all (fun x=>!x.1)=true:=by
  have:=lK (pos:=cpos) (env:=env) h
  rw [List.all_eq_not_any_not]
  simpa using this
 rw [h1]
 have h2:(e::es).length+([]:List Vh).length+(if ([]:List Vh).isEmpty then 0 else 1)<30:=by
  show (e::es).length+0+0<30
  omega
 rw [decide_eq_true h2]
 rfl
theorem KI {f:D->List D->Hm->Option (D×Hm)}{r:V->List V->Hp->VK->Prop}{name:Str}{id:String}(slot:a0W "list" name id) (hty:Yg (.builtin id)=pure (.type "method_descriptor")) (hm:fW X id r)(hf:eX X.K f r)
  (ho:QE X o mo)(ha:QA X (e::es) ms n)(hs:iV o=true)(hl:(apos.endLine == cpos.line)=true)(hn:(e::es).length<30):QE X (.Call (.Attribute o name apos) (e::es) [] cpos) (d9 f mo ms):=by
 have hst:=ha.s
 have hst':=hst
 rw [Sx,RF] at hst'
 exact ⟨cM (Hh X8 slot hty hm ho.h ha.h (jX hs) (BE hst hn) hl (eW hst'.1) (lK hst'.2)) (KG hf)⟩
theorem vB {f:D->List D->Hm->Option (D×Hm)}{r:V->List V->Hp->VK->Prop}{name:Str}{id:String}(slot:a0W "list" name id) (hty:Yg (.builtin id)=pure (.type "method_descriptor")) (hm:fW X id r)(hf:eX X.K f r)
  (ho:QE X o mo)(hs:iV o=true)(hl:(apos.endLine == cpos.line)=true):QE X (.Call (.Attribute o name apos) [] [] cpos) (d9 f mo aD):=
 ⟨cM (Hg X8 slot hty hm ho.h (jX hs) hl) (KH hf)⟩
noncomputable def fN:D->List D->Hm->Option (D×Hm)
 | .loc a,[y],μ=>(m4 μ a y).map fun μ'=>(.non,μ')
 | _,_,_=>none
noncomputable def vC:D->List D->Hm->Option (D×Hm)
 | .loc a,[],μ=>match μ[a]? with
  | some (.lst _)=>some (.non,μ.set a (.lst []))
  | _=>none
 | _,_,_=>none
noncomputable def vD:D->List D->Hm->Option (D×Hm)
 | .loc a,[],μ=>match μ[a]? with
  | some (.lst xs)=>(xs[xs.length - 1]?).map fun y=>(y,μ.set a (.lst xs.dropLast))
  | _=>none
 | _,_,_=>none
noncomputable def lP:D->List D->Hm->Option (D×Hm)
 | .loc a,[],μ=>match μ[a]? with
  | some (.lst xs)=>some (.non,μ.set a (.lst xs.reverse))
  | _=>none
 | _,_,_=>none
theorem BF {K:Rn}{π:Nat->Addr}{n:Nat}{H:Hp}{vs:List V}{ds:List D}(h:IsDs K π n H vs ds):IsDs K π n H vs.reverse ds.reverse:=by
 induction ds generalizing vs with
 | nil=>cases h;exact .nil
 | cons d ds ih=>
  cases h with
  | cons h t=>
   rw [UY,UY]
   exact (ih t).append (.cons h .nil)
theorem KJ {K:Rn}{π:Nat->Addr}{n:Nat}{H:Hp}{vs:List V}{ds:List D}(h:IsDs K π n H vs ds):IsDs K π n H vs.dropLast ds.dropLast:=by
 rw [Y0,Y0,h.length]
 exact h.take _
theorem KL {K:Rn}:eX K fN AA:=by
 intro π H μ x xs d μ' v vs Q R ix ixs hm k
 unfold fN at hm
 split at hm
 ·rename_i a y
  obtain ⟨μ1,h1,hm⟩:=Rv.mp hm
  cases hm
  unfold m4 at h1
  split at h1
  ·rename_i zs hz
   split at h1
   ·rename_i hl
    cases h1
    obtain ⟨ws,h2,h3⟩:=R.lst a zs hz
    cases ix
    cases ixs with
    | cons iy it=>
     cases it
     obtain ⟨e1,R1⟩:=R.put (a:=a) (c:=.lst (zs++[y])) (o:=.lst (ws++[_])) (Rw.mp hz).1 h2 (.inl ⟨ws,rfl⟩) (h3.append (.cons iy .nil))
     exact ⟨_,ws,_,rfl,rfl,h2,by rw [h3.length];exact hl,k π _ _ e1 R1 .non⟩
   ·cases h1
  ·cases h1
 ·cases hm
theorem KN {K:Rn}:eX K vC AF:=by
 intro π H μ x xs d μ' v vs Q R ix ixs hm k
 unfold vC at hm
 split at hm
 ·rename_i a
  split at hm
  ·rename_i zs hz
   cases hm
   obtain ⟨ws,h2,h3⟩:=R.lst a zs hz
   cases ix
   cases ixs
   obtain ⟨e1,R1⟩:=R.put (a:=a) (c:=.lst []) (o:=.lst []) (Rw.mp hz).1 h2 (.inl ⟨ws,rfl⟩) .nil
   exact ⟨_,ws,rfl,rfl,h2,k π _ _ e1 R1 .non⟩
  ·cases hm
 ·cases hm
theorem KO {K:Rn}:eX K lP AE:=by
 intro π H μ x xs d μ' v vs Q R ix ixs hm k
 unfold lP at hm
 split at hm
 ·rename_i a
  split at hm
  ·rename_i zs hz
   cases hm
   obtain ⟨ws,h2,h3⟩:=R.lst a zs hz
   cases ix
   cases ixs
   obtain ⟨e1,R1⟩:=R.put (a:=a) (c:=.lst zs.reverse) (o:=.lst ws.reverse) (Rw.mp hz).1 h2 (.inl ⟨ws,rfl⟩) (BF h3)
   exact ⟨_,ws,rfl,rfl,h2,k π _ _ e1 R1 .non⟩
  ·cases hm
 ·cases hm
theorem KP {K:Rn}:eX K vD AD:=by
 intro π H μ x xs d μ' v vs Q R ix ixs hm k
 unfold vD at hm
 split at hm
 ·rename_i a
  split at hm
  ·rename_i zs hz
   obtain ⟨y,h1,hm⟩:=Rv.mp hm
   cases hm
   obtain ⟨ws,h2,h3⟩:=R.lst a zs hz
   cases ix
   cases ixs
   obtain ⟨w,h4,h5⟩:=h3.get h1
   obtain ⟨e1,R1⟩:=R.put (a:=a) (c:=.lst zs.dropLast) (o:=.lst ws.dropLast) (Rw.mp hz).1 h2 (.inl ⟨ws,rfl⟩) (KJ h3)
   refine ⟨_,ws,w,rfl,rfl,h2,by rw [h3.length];exact h4,k π w _ e1 R1 (h5.mono e1)⟩
  ·cases hm
 ·cases hm
noncomputable def nB (μ:Hm):D->Option Bool
 | .non=>some false
 | .bl b=>some b
 | .int i=>some (i != 0)
 | .str z=>if z.length<=RL then some ((z.length:Int) != 0) else none
 | .tup xs=>some (!xs.isEmpty)
 | .rol xs=>some (!xs.isEmpty)
 | .loc a=>match μ[a]? with|some (.lst xs)=>some (!xs.isEmpty)|some (.dK kvs)=>some (!kvs.isEmpty)|_=>none
 | .ty _=>none
theorem rK {α β:Type}{xs:List α}{ys:List β}(h:xs.length=ys.length):xs.isEmpty=ys.isEmpty:=by
 cases xs<;>cases ys<;>first|rfl|cases h
theorem KQ {K:Rn}{π:Nat->Addr}{H:Hp}{μ:Hm}{v:V}{x:D}{b:Bool}(R:Rp K π H μ)(h:IsD K π μ.length H v x)(e:nB μ x=some b):tZ K v H b:=by
 cases h with
 | non=>cases e;rfl
 | bl c=>cases e;rfl
 | int i=>cases e;rfl
 | str z=>
  simp only [nB] at e
  split at e
  ·rename_i hl;cases e;exact ⟨hl,rfl⟩
  ·cases e
 | tup h t=>cases e;exact .inr (.inl ⟨_,h,by rw [rK t.length]⟩)
 | rol h t=>cases e;exact .inl ⟨_,h.sq,by rw [rK t.length]⟩
 | @loc a ha=>
  simp only [nB] at e
  split at e
  ·rename_i xs hx
   cases e
   obtain ⟨vs,h1,h2⟩:=R.lst a xs hx
   exact .inl ⟨vs,.of h1,by rw [rK h2.length]⟩
  ·rename_i kvs hx
   cases e
   obtain ⟨vs,h1,h2,_⟩:=R.dK a kvs hx
   refine .inr (.inr ⟨vs,h1,?_⟩)
   have:=congrArg Ss h2
   rw [Ro,Ro] at this
   rw [rK this]
  ·cases e
 | ty n=>cases e
noncomputable def dN (m:ME):MT:=fun ρ μ=>(m ρ μ).bind fun p=>(nB p.2 p.1).map fun b=>(b,p.2)
theorem KR (h:QE X e m)(he:u3 e=true):QT X e (dN m):=⟨qP (Gu h.h (J5 he)) (by
 rintro σ H Q ⟨π,ρ,μ,b,μ',R,E,hm,k⟩
 obtain ⟨⟨x,μ1⟩,h1,hm⟩:=Rl.mp hm
 obtain ⟨b',h2,hm⟩:=Rv.mp hm
 cases hm
 exact ⟨π,ρ,μ,x,_,R,E,h1,fun π1 v1 H1 e1 R1 i1=>⟨_,KQ R1 i1 h2,k π1 H1 e1 R1⟩⟩)⟩
theorem KS {k:Nat}{f:Addr}{fd:Uq}{ps:List Str}{fm:MF}{x:Str}{p:TC}(F:FnOk X.prog X.w X.K X.mg X.base fE k f fd ps (iR X.K 0 fm))(hr:Room k X.A)(hm:X.mg x=some (.ref f))
  (hk:TL X.K (.ref f)=true)(hb:Binds X.K fd ps [])(hg:Gl X x)(hdb:(x == ("__debug__":Str))=false):QE X (.Call (.Name x p) [] [] pos) (aK fm aD):=
 ⟨cM (GG F hr hg hm hk hb .nil (E:=E0) AI hdb) (by
  rintro σ H Q ⟨π,ρ,μ,d,μ',R,E,hm,k⟩
  obtain ⟨⟨xs,μ1⟩,h1,hm⟩:=Rl.mp hm
  cases h1
  exact ⟨rfl,π,[],μ,d,μ',R,.nil,hm,k⟩)⟩
theorem KU:QS X (.Return none pos) (bE (mC .non)):=⟨iS FR (by
 rintro E σ H ⟨π,ρ,μ,fl,ρ',μ',R,EN,hm,k⟩
 cases hm
 exact k π .non H .refl R .non)⟩
end
end L3
namespace L3
open PySem L2
section
variable {X:Cx}
end
end L3
namespace L3
open PySem L2
open PyProof.Rows (IntsAre)
open PySem.W (KasT kas_asc kas_desc kas_tail3 kas_descPart kas_count kas_place kas_bin kas_sort kas_rev kas_ask)
noncomputable def aV {α:Type}(ans:Nat->Nat->Bool):a1f α->α
 | .ret a=>a
 | .ask i j k=>aV ans (k (ans i j))
noncomputable def InR {α:Type}(n:Nat)(R:α->Prop):a1f α->Prop
 | .ret a=>R a
 | .ask i j k=>i<n/\j<n/\∀ b,InR n R (k b)
theorem InR.bind {α β:Type}{n:Nat}{R:α->Prop}{R':β->Prop}{f:α->a1f β}(hf:∀ a,R a->InR n R' (f a)):∀ {t:a1f α},InR n R t->InR n R' (t.bind f)
 | .ret a,q=>hf a q
 | .ask i j k,q=>⟨q.1,q.2.1,fun b=>InR.bind hf (q.2.2 b)⟩
theorem vE {α:Type}{n:Nat}{R:α->Prop}{ans:Nat->Nat->Bool}{cmp:Nat->Nat->(Bool->RC->Prop)->RC->Prop}{s:RC}(hc:∀ i j (C:Bool->RC->Prop),i<n->j<n->C (ans i j) s->cmp i j C s){Q:α->RC->Prop} :
  ∀ {t:a1f α},InR n R t->Q (aV ans t) s->t.kasWp cmp Q s
 | .ret a,_,q=>q
 | .ask i j k,h,q=>hc i j _ h.1 h.2.1 (vE hc (h.2.2 _) q)
theorem BG {α:Type}{n:Nat}{R:α->Prop}{ans:Nat->Nat->Bool}:∀ {t:a1f α},InR n R t->R (aV ans t)
 | .ret a,q=>q
 | .ask i j k,h=>BG (t:=k (ans i j)) (h.2.2 _)
section
variable {n:Nat}
noncomputable def IxOk (n:Nat)(p:Array Nat):Prop:=p.Perm (SG n).toArray
theorem IxOk.lt {p:Array Nat}(h:IxOk n p)(h0:0<n)(i:Nat):p.getD i 0<n:=by
 by_cases hi:i<p.size
 ·have e:p.getD i 0=p[i]:=by simp [Ux,hi]
  rw [e]
  have hm:p[i]∈p:=Array.getElem_mem hi
  have hm2:p[i]∈(SG n).toArray:=h.mem_iff.mp hm
  simpa using hm2
 ·have e:p.getD i 0=0:=by simp [Ux,hi]
  rw [e];exact h0
theorem IxOk.rev {p:Array Nat}(h:IxOk n p)(i j:Nat):IxOk n (Ur p i j):=(a1u _ _ _ _).trans h
theorem IxOk.bub {p:Array Nat}(h:IxOk n p)(i j:Nat):IxOk n (a1A p i j):=(a1z _ _ _).trans h
theorem vF {p:Array Nat}(h:IxOk n p)(h0:0<n):∀ (f m:Nat),InR n (fun _=>True) (Us p f m)
 | 0,m=>trivial
 | f+1,m=>⟨h.lt h0 _,h.lt h0 _,fun b=>by
   cases b with
   | true=>exact trivial
   | false=>exact vF h h0 f (m+1)⟩
theorem rL (h0:0<n):∀ (f:Nat)(p:Array Nat)(m q:Nat),IxOk n p->InR n (fun r=>IxOk n r.1) (Ub f p m q)
 | 0,p,m,q,h=>h
 | f+1,p,m,q,h=>⟨h.lt h0 _,h.lt h0 _,fun b=>by
   cases b with
   | true=>
    show InR n _ (if q>0 then Ub f (Ur p (m - (q+1)) m) (m+1) 0 else Ub f p (m+1) 0)
    split
    ·exact rL h0 f _ _ _ (h.rev _ _)
    ·exact rL h0 f _ _ _ h
   | false=>
    refine ⟨h.lt h0 _,h.lt h0 _,fun d=>?_⟩
    cases d with
    | true=>exact h
    | false=>exact rL h0 f _ _ _ h⟩
theorem BH (h0:0<n){p:Array Nat}(h:IxOk n p)(a r:Nat):InR n (fun r=>IxOk n r.2) (Wm a r p):=
 by
 have h':IxOk n (Ur p 0 a):=h.rev 0 a
 unfold Wm
 refine InR.bind (R:=fun _=>True) (fun m _=>?_) (vF h' h0 _ _)
 exact h'
theorem BI (h0:0<n){p:Array Nat}(h:IxOk n p)(a r:Nat):InR n (fun r=>IxOk n r.2) (UX a r p):=
 InR.bind (fun q hq=>by
  show InR n _ (if q.2.2>0 then Wm q.2.1 r (Ur q.1 (q.2.1 - (q.2.2+1)) q.2.1) else Wm q.2.1 r q.1)
  split
  ·exact BH h0 (hq.rev _ _) _ _
  ·exact BH h0 hq _ _) (rL h0 _ _ _ _ h)
theorem KW (h0:0<n){p:Array Nat}(h:IxOk n p)(r:Nat):InR n (fun r=>IxOk n r.2) (Zl r p):=
 InR.bind (fun m _=>by
  show InR n _ (if (m == r)=true then Uv (m,p) else if m>1 then WT (p.getD 0 0) (p.getD (m - 1) 0) (fun c=>if c=true then Uv (m,p) else UX m r (Ur p 0 m)) else UX m r p)
  split
  ·exact h
  ·split
   ·refine ⟨h.lt h0 _,h.lt h0 _,fun b=>?_⟩
    cases b with
    | true=>exact h
    | false=>exact BI h0 (h.rev _ _) _ _
   ·exact BI h0 h _ _) (vF h h0 _ _)
theorem vG {p:Array Nat}(h:IxOk n p)(h0:0<n)(k:Nat):∀ (f l r:Nat),InR n (fun _=>True) (Tx p k f l r)
 | 0,l,r=>trivial
 | f+1,l,r=>by
  show InR n _ (if l >= r then Uv l else WT (p.getD k 0) (p.getD ((l+r) / 2) 0) fun c=>if c=true then Tx p k f l ((l+r) / 2) else Tx p k f ((l+r) / 2+1) r)
  split
  ·exact trivial
  ·refine ⟨h.lt h0 _,h.lt h0 _,fun b=>?_⟩
   cases b with
   | true=>exact vG h h0 k f _ _
   | false=>exact vG h h0 k f _ _
theorem BJ (h0:0<n):∀ (f:Nat)(p:Array Nat)(k:Nat),IxOk n p->InR n (IxOk n) (XT f p k)
 | 0,p,k,h=>h
 | f+1,p,k,h=>InR.bind (fun l _=>BJ h0 f _ _ (h.bub _ _)) (vG h h0 k _ _ _)
theorem vH (h0:0<n):InR n (IxOk n) (XS n):=
 InR.bind (fun r hr=>by
  show InR n _ (if r.1<n then XT (n - max r.1 1) r.2 (max r.1 1) else Uv r.2)
  split
  ·exact BJ h0 _ _ _ hr
  ·exact hr) (KW h0 (Array.Perm.refl _) n)
end
noncomputable def b8 (lt:Nat->Nat->Bool)(n:Nat):List Nat:=(aV lt (XS n)).toList
theorem oR (lt:Nat->Nat->Bool){n:Nat}(h0:0<n):(b8 lt n).Perm (SG n):=by
 have h:IxOk n (aV lt (XS n)):=BG (vH h0)
 have:=Array.perm_iff_toList_perm.mp h
 simpa [b8] using this
section
variable {X:Cx}{a1Z:List (Addr×TK)}{σ:St}{H:Hp}{s:RC}
theorem BK {P:R8}{w:Sy}{H:Hp}{h:SO}{a:Addr}{o:HO}(x:ObjOk P w H h a o):∃ ob,h.get? a=some ob:=by
 cases o with
 | lst xs=>obtain ⟨_,_,_,_,e⟩:=x;exact ⟨_,e⟩
 | tup xs=>obtain ⟨_,_,_,ob,e,_⟩:=x;exact ⟨_,e⟩
 | dK kvs=>obtain ⟨_,_,_,_,o,_,_,e,_⟩:=x;exact ⟨_,e⟩
 | dT kvs=>obtain ⟨_,_,_,_,o,_,_,e,_⟩:=x;exact ⟨_,e⟩
 | set S n=>obtain ⟨o,_,_,_,e,_⟩:=x;exact ⟨_,e⟩
 | ins C dx fs=>obtain ⟨_,_,_,e,_⟩:=x;exact ⟨_,e⟩
 | own y=>exact x
 | xd fs=>obtain ⟨_,⟨_,_,_,e,_⟩,_⟩:=x;exact ⟨_,e⟩
 | rng lo hi=>obtain ⟨_,_,_,e⟩:=x;exact ⟨_,e⟩
 | frz ob u=>exact ⟨_,x.1⟩
 | tbl ps=>exact ⟨_,x⟩
 | met f y=>exact ⟨_,x⟩
 | ext φ=>exact x.2.1
theorem KY {h':SO}{D:Addr}{o:HO}{t':Nat}{m:Str->Option Ru}(I:Inv X a1Z σ H s)(hm:s.heap.Ns X.env.locals m)(keep:∀ b ob,b≠X.env.locals->s.heap.get? b=some ob->h'.get? b=some ob)(hL:h'.Ns X.env.locals m)
  (hD:s.heap.get? D=none)(new:ObjOk X.prog X.w (aI H D o) h' D o):Inv X a1Z σ (aI H D o) { s with heap:=h',toks:=t' }:=by
 have hn:H D=none:=by
  cases q:H D with
  | none=>rfl
  | some u=>
   obtain ⟨ob,e⟩:=BK (I.hok D u q)
   rw [hD] at e;cases e
 have neL:∀ b u,H b=some u->b≠X.env.locals:=fun b u e z=>by rw [z,I.free] at e;cases e
 refine I.step (g':=s.gens) (d':=s.drawn) (ch:=[]) (fun _ z=>nomatch z) (fun b ob hb _ _ e _=>keep b ob hb e) (fun b ob hb _ _ e _=>⟨ob.slots,keep b ob hb e⟩) (fun b ob _ e n=>?_) (fun b ob _ e=>?_)
  (fun b xs e=>by rw [bA (dY e hn)];exact e) (fun b ob u e=>by rw [bA (dY e hn)];exact e) (fun b ps e=>⟨#[],by rw [bA (dY e hn),e];simp⟩) (fun m' hm'=>?_) (fun b u e=>?_) I.bare
 ·have:b≠D:=fun z=>by rw [z,hD] at e;cases e
  rw [bA this];exact n
 ·by_cases hb:b=X.env.locals
  ·obtain ⟨ob',_,_,e',_⟩:=hL
   exact ⟨ob',by rw [hb];exact e'⟩
  ·exact ⟨ob,keep b ob hb e⟩
 ·rw [hm'.eq_nsMap,<- hm.eq_nsMap]
  exact hL
 ·by_cases hb:b=D
  ·subst hb
   rw [cG] at e
   cases e
   exact new
  ·rw [bA hb] at e
   refine (I.hok b u e).stay (fun c v hc q=>keep c v ?_ q) (fun c q=>by rw [bA (dY q hn)];exact q) fun c xs q=>by rw [bA (dY q hn)];exact q
   rcases hc with rfl|hc
   ·exact neL _ _ e
   ·exact neL _ _ hc
end
theorem vJ {prog:R8}{w:Sy}{A:Sn}{s:RC}{Q:Bool->RC->Prop}:∀ {us vs:List Ru}{ns ms:List Int}(i:Nat),UJ us ns->UJ vs ms->Q (HT.lexLt ns ms) s->
  PySem.W.KatLex prog w A true (decide (us.length<vs.length)) Q (us.zip vs) i s
 | _,_,_,_,i,.nil,.nil,h=>by exact h
 | _,_,_,_,i,.nil,.cons c u hv,h=>by
  show Q (decide (0<_+1)) s
  rw [decide_eq_true (Xr _)]
  exact h
 | _,_,_,_,i,.cons a t hu,.nil,h=>by
  show Q (decide (_+1<0)) s
  rw [decide_eq_false (VW _)]
  exact h
 | _,_,_,_,i,.cons (vs:=us) (ns:=ns) a t hu,.cons (vs:=vs) (ns:=ms) c u hv,h=>by
  rw [HT.lexLt_cons] at h
  refine PySem.W.kat_cons (Ys a t c u prog w _ _ ?_)
  by_cases e:a=c
  ·subst e
   rw [if_pos rfl] at h
   rw [beq_self_eq_true]
   refine PySem.W.kat_yes ?_
   have:=vJ (prog:=prog) (w:=w) (A:=A) (s:=s) (Q:=Q) (i+1) hu hv h
   have e2:decide ((VC a t::us).length<(VC a u::vs).length)=decide (us.length<vs.length):=by simp
   rw [e2]
   exact this
  ·rw [if_neg e] at h
   have e':(a == c)=false:=by simpa using e
   rw [e']
   refine PySem.W.kat_no ?_
   cases hi:(true&&i == 0) with
   | true=>exact a1s h
   | false=>exact PySem.W.kat_one _ _ (X1 h)
noncomputable abbrev TupsV (K:Rn)(H:Hp):List V->List (List Int)->Prop:=VU fun v t=>∃ a,v=V.ref a/\SqT K H a (t.map V.int)
theorem TupsV.get {K:Rn}{H:Hp}:∀ {vs:List V}{ts:List (List Int)}{i:Nat},TupsV K H vs ts->i<vs.length->∃ a,vs[i]? = some (V.ref a)/\SqT K H a ((ts.getD i []).map V.int)
 | _,_,_,.nil,h=>by simp at h
 | _,_,0,.cons ⟨a,e,q⟩ _,_=>⟨a,by rw [e];rfl,q⟩
 | _,_,i+1,.cons _ t,h=>by
  obtain ⟨a,e,q⟩:=TupsV.get (i:=i) t (by simpa using h)
  exact ⟨a,by simpa using e,q⟩
section
open PyProof.Rows
variable {prog:R8}{w:Sy}{A:Sn}{E:Ru->RC->Prop}{s:RC}
theorem vK {c:Addr}{us:List Ru}{z:Nat}{R:Fin->RC->Prop}(hu:us.length<2)(g:s.heap.get? c=some (Th "list" us.toArray z)) (q:R (.done (.ret .none)) { s with heap:=XC s.heap c us us.toArray }) :
  RQ (R0 prog w) A (Builtin.«list.sort» ⟨[.ref c],[]⟩) R E s:=by
 rw [a1l]
 have lt:c<s.heap.objs.size:=RH g
 refine Rm (listItems_at g rfl (Rm (Xy g rfl ?_)))
 obtain ⟨y,g1⟩:∃ y,(s.heap.update c (Ta fun _=>#[])).get? c=some (Th "list" #[] y):=⟨_,a1m g _⟩
 refine Rm (Yq g1 rfl (Rm (Xd (Rm (WB (SN ?_))))))
 have g6:(((s.heap.update c (Ta fun _=>#[])).push (Th "tuple" us.toArray 0)).push (Th "list" #[] 0)).get? c=some (Th "list" #[] y):=
  Rt _ (Rt _ g1)
 show RQ (R0 prog w) A _ R E ⟨((s.heap.update c (Ta fun _=>#[])).push (Th "tuple" us.toArray 0)).push (Th "list" #[] 0),s.gens,s.drawn,s.toks,s.os⟩
 dsimp only
 have few:us.toArray.size<2:=by simpa using hu
 rw [if_pos few,if_pos few]
 refine Rm (Ry ?_)
 rw [StateT.run_pure]
 refine Rm (Ry ?_)
 dsimp only
 have ez:a1N (fun x=>x.2) (arrOf (SortSt.mk' general' (us.toArray.zip us.toArray) #[] 7 none))=us.toArray:=by
  show a1N (fun x=>x.2) (us.toArray.zip us.toArray)=us.toArray
  exact Array.ext (by simp) (fun i h1 h2=>by simp)
 refine Rm (Yq g6 rfl (Rm (Xy g6 rfl ?_ (hsz2:=by rw [ez,Sh];omega))))
 rw [ez]
 simp only [bne_self_eq_false,RE,if_false]
 exact Ry q
theorem KZ {l:Addr}{u:Ru}{Q:Ru->RC->Prop}(hl:s.heap.IsList l [u].toArray)(q:Q (.ref (s.heap.objs.size+1)) { s with heap:=sortedAll s.heap [u] [u].toArray }):RQ (R0 prog w) A (call (.builtin "sorted") [.ref l]) Q E s:=by
 refine Wb a0e ZA ZD (ZE _) ?_
 unfold W8
 refine Rm (m:=a0A "sorted" 1 1 _) (Ry (Rm (collect_list hl (Rm (WB ?_)))))
 have z:((s.heap.push (Th "list" #[] 0)).update s.heap.objs.size (Ta (·++[u].toArray))).objs.size=s.heap.objs.size+1:=by rw [Heap.size_update,size_push']
 have g:(((s.heap.push (Th "list" #[] 0)).update s.heap.objs.size (Ta (·++[u].toArray))).push (Th "list" [u].toArray 0)).get? (s.heap.objs.size+1)=some (Th "list" [u].toArray 0):=z ▸ RK _ rfl
 show RQ _ _ _ _ _ ⟨((s.heap.push (Th "list" #[] 0)).update s.heap.objs.size (Ta (·++[u].toArray))).push (Th "list" [u].toArray 0),s.gens,s.drawn,s.toks,s.os⟩
 rw [z]
 refine Rm (SN (SU Ws ⟨_,g,rfl⟩ V9 (vK (us:=[u]) (by simp) g ⟨_,rfl,?_⟩) (Wt _)))
 exact Ry ⟨_,rfl,q⟩
end
theorem vL (lt:Nat->Nat->Bool):b8 lt 1=[0]:=rfl
theorem vO (lt:Nat->Nat->Bool):b8 lt 0=[]:=rfl
theorem iW (lt:Nat->Nat->Bool)(n:Nat):(b8 lt n).Perm (SG n):=by
 cases n with
 | zero=>rw [vO];exact .nil
 | succ n=>exact oR lt (Xr n)
section
variable {X:Cx}
theorem K0 {a1Z:List (Addr×TK)}{s:RC}{σ:St}{H:Hp}{q:Addr}{v:V}{Q:VK}(I:Inv X a1Z σ H s)(hq:SqL X.K H q [v])(k:∀ l,H l=none->Q (.ref l) (aI H l (.lst [v]))) :
  RQ (R0 X.prog X.w) X.A (call (.builtin "sorted") [.ref q]) (EP X a1Z σ Q) X.xe s:=by
 obtain ⟨its,rv,pl,hz⟩:=I.list hq
 cases rv with
 | cons ru rt=>
  cases rt
  rename_i u
  refine KZ (u:=u) pl.isList ?_
  obtain ⟨e,he⟩:=Xh s.heap [u] [u].toArray
  refine ⟨.ref (s.heap.objs.size+1),_,I.laid (t':=s.toks) (a:=s.heap.objs.size+1) (o:=.lst [v]) (fun b ob z=>Xb z) (Vo _) ?_,rfl,k _ (I.hok.fresh (Vo _))⟩
  exact ⟨by rw [Sh];show 1<=_;decide,[u],e,.cons ru .nil,he⟩
end
noncomputable def vP (K:Rn):List V->Hp->VK->Prop:=fun xs H Q=>∃ q ws ts,xs=[.ref q]/\SqL K H q ws/\TupsV K H ws ts/\1<=ws.length/\ws.length<64/\(∀ t∈ts,t≠[]) /\
 ∀ l,H l=none->Q (.ref l) (aI H l (.lst ((b8 (fun i j=>HT.lexLt (ts.getD i []) (ts.getD j [])) ws.length).map fun i=>ws.getD i .non)))
theorem BL {ns:List Int}{us:List Ru}(h:Vals (ns.map V.int) us):UJ us ns:=t7 h
section
variable {X:Cx}
theorem K1:CallR X (.builtin "sorted") (vP X.K):=by
 intro a1Z s σ H xs us Q I r h
 obtain ⟨q,ws,ts,rfl,hq,ht,h1,h64,hne,k⟩:=h
 obtain ⟨u,rfl,ru⟩:=fU r
 cases ru
 by_cases h2:ws.length<2
 ·obtain ⟨v,rfl⟩:=List.length_eq_one_iff.mp (by omega:ws.length=1)
  refine K0 I hq fun l hl=>?_
  have z:=k l hl
  rw [Uj,vL] at z
  exact z
 replace h2:2<=ws.length:=XG h2
 obtain ⟨its,rv,pl,hz⟩:=I.list hq
 obtain ⟨m,F⟩:=I.fr
 have hlen:=rv.length
 refine PySem.W.kat_sorted F (E7 (g:=X.base) (h:=s.heap) (L:=X.env.locals)) pl.isList (by omega) (by omega) fun D e1 h' F' N' hD=>?_
 have keep:∀ b ob,b≠X.env.locals->s.heap.get? b=some ob->h'.get? b=some ob:=fun b ob hb e=>by
  cases z:X.base.get? b with
  | some ob'=>
   have:=I.bk b ob' z
   rw [e] at this;cases this
   exact F'.keep b _ z
  | none=>exact (N' (b,ob) (RP _ (tL hb z e))).1
 have hDn:=N' (D,_) (RX ..)
 have hDs:s.heap.get? D=none:=by
  cases z:s.heap.get? D with
  | none=>rfl
  | some ob=>exact absurd (hD (D,ob) (tL hDn.2.1 hDn.2.2 z)) (UA _)
 have neL:∀ {a:Addr}{vs:List V},SqT X.K H a vs->a≠X.env.locals:=fun {a vs} hs z=>by
  subst z
  rcases hs with (hs|⟨ob,hs⟩)|⟨ob,_,_,hk,_⟩
  ·rw [I.free] at hs;cases hs
  ·rw [I.free] at hs;cases hs
  ·have h1:X.env.locals<X.base.objs.size:=RH (I.mod.kin _ _ hk)
   exact UA _ (Si h1 F.above)
  -- the tuples stand there still
 have tupAt:∀ {a:Addr}{t:List Int},SqT X.K H a (t.map V.int)->∃ (ob:TK)(xs:List Ru)(n:Nat),h'.get? a=some ob/\ob.cls=.type "tuple"/\ob.data=.seq xs.toArray n/\UJ xs t:=fun {a t} hs=>by
  obtain ⟨xs,rx,⟨ob,e,c,n,d⟩,_⟩:=I.tuple hs
  exact ⟨ob,xs,n,keep a ob (neL hs) e,c,d,BL rx⟩
 have tups:∀ {ws:List V}{its:List Ru}{ts:List (List Int)},Vals ws its->TupsV X.K H ws ts->(∀ t∈ts,t≠[])->∃ fs:List Ru,fs.length=its.length/\PySem.W.KatTups h' its fs/\∀ v∈fs,∃ i t,v=VC i t:=by
  intro ws its ts rv ht
  induction ht generalizing its with
  | nil=>intro _;cases rv;exact ⟨[],rfl,.nil,fun v hv=>nomatch hv⟩
  | @cons v t ws ts hv _ ih=>
   intro hne
   cases rv with
   | cons r1 r2=>
    obtain ⟨a,rfl,hs⟩:=hv
    cases r1
    obtain ⟨fs,h1,h3,h4⟩:=ih r2 fun t ht=>hne t (RP _ ht)
    obtain ⟨ob,xs,n,e,c,d,hi⟩:=tupAt hs
    cases hi with
    | nil=>exact absurd rfl (hne [] (RX ..))
    | @cons i tk xs' ns' hi'=>
     refine ⟨VC i tk::fs,by simp [h1],.cons e c d (by simp) h3,fun v hv=>?_⟩
     rcases Sa.mp hv with rfl|hv
     ·exact ⟨i,tk,rfl⟩
     ·exact h4 v hv
 obtain ⟨fs,hf1,hf2,hf3⟩:=tups rv ht hne
 refine PySem.W.kat_kind (T:=.type "int") hf2 (by omega) (fun v hv=>?_) rfl ?_
 ·obtain ⟨i,t,rfl⟩:=hf3 v hv
  exact .now
 have htl:ts.length=ws.length:=ht.length.symm
 refine vE (n:=its.length) (ans:=fun i j=>HT.lexLt (ts.getD i []) (ts.getD j [])) (fun i j C hi hj hC=>?_) (vH (by omega)) ?_
 ·obtain ⟨a,ea,sa⟩:=ht.get (i:=i) (by omega)
  obtain ⟨b,eb,sb⟩:=ht.get (i:=j) (by omega)
  obtain ⟨ua,ha1,ha2⟩:=rv.get ea
  obtain ⟨ub,hb1,hb2⟩:=rv.get eb
  cases ha2
  cases hb2
  have ga:its.getD i Sz=.ref a:=by simp [S3,ha1]
  have gb:its.getD j Sz=.ref b:=by simp [S3,hb1]
  unfold kas_ask
  rw [ga,gb]
  obtain ⟨oa,xa,na,e1,_,d1,i1⟩:=tupAt sa
  obtain ⟨ob,xb,nb,e2,_,d2,i2⟩:=tupAt sb
  refine PySem.W.kat_lt e1 d1 e2 d2 ?_
  have:=vJ (prog:=X.prog) (w:=X.w) (A:=X.A.in1.in1) (s:={ s with heap:=h' }) (Q:=C) 0 i1 i2 hC
  exact this
 ·refine a0P F' N' (.head fun p hp=>RT (hD p hp)) fun h'' c F'' N''=>?_
  have keep2:∀ b ob,b≠X.env.locals->s.heap.get? b=some ob->h''.get? b=some ob:=fun b ob hb e=>by
   cases z:X.base.get? b with
   | some ob'=>
    have:=I.bk b ob' z
    rw [e] at this;cases this
    exact F''.keep b _ z
   | none=>exact (N'' (b,ob) (RP _ (tL hb z e))).1
  have hnew:=(N'' (D,_) (RX ..)).1
  rw [<- hlen] at hnew
  have hperm:=oR (fun i j=>HT.lexLt (ts.getD i []) (ts.getD j [])) (n:=ws.length) (by omega)
  have hvals:Vals ((b8 (fun i j=>HT.lexLt (ts.getD i []) (ts.getD j [])) ws.length).map fun i=>ws.getD i .non) ((b8 (fun i j=>HT.lexLt (ts.getD i []) (ts.getD j [])) ws.length).map fun i=>its.getD i Sz):=by
   have each:∀ l:List Nat,(∀ i∈l,i<ws.length)->Vals (l.map fun i=>ws.getD i .non) (l.map fun i=>its.getD i Sz):=fun l=>by
    induction l with
    | nil=>intro _;exact .nil
    | cons i l ih=>
     intro hl
     refine .cons ?_ (ih fun j hj=>hl j (RP _ hj))
     have hi:=hl i (RX ..)
     obtain ⟨u,g1,g2⟩:=rv.get (RN hi)
     have e1:ws.getD i .non=ws[i]:=by simp [S3,hi]
     have e2:its.getD i Sz=u:=by simp [S3,g1]
     show RelV (ws.getD i .non) (its.getD i Sz)
     rw [e1,e2]
     exact g2
   exact each _ fun i hi=>by simpa using hperm.mem_iff.mp hi
  refine ⟨.ref D,_,KY (s:=s) (o:=.lst _) (t':=s.toks) I F.ns keep2 F''.ns hDs ⟨?_,_,_,hvals,hnew⟩,rfl,k D ?_⟩
  ·rw [Ro,hperm.length_eq,Vu]
   exact hz
  ·cases z:H D with
   | none=>rfl
   | some u=>
    obtain ⟨ob,e⟩:=BK (I.hok D u z)
    rw [hDs] at e;cases e
end
end L3
namespace L3
open PySem PySem.Spec
namespace Tb
section
variable {prog:R8}{w:Sy}{A:Sn}{E:Ru->RC->Prop}{s:RC}
noncomputable abbrev IsT (prog:R8)(w:Sy)(h:SO)(k:List Int)(b:Addr):Prop:=IsTupleKey (Ut prog w) h k b
end
section
variable {prog:R8}{w:Sy}{A:Sn}{R:YX->RC->Prop}{I:Addr}{fp wr:List Addr}{G:Array a0m->Array a0m->Prop}{n:Nat}{P:Nat->Ru->Prop}{St:Nat->RC->Prop}
end
section
variable {prog:R8}{w:Sy}{A:Sn}{E:Ru->RC->Prop}{s:RC}
noncomputable abbrev fM (led:Bool):TK:={ cls:=.type "set",dict:=none,data:=.set #[] 0 (.fresh 0 0 led) }
end
end Tb
end L3
namespace L3
open PySem L2
open PyProof.Rows (IntsAre)
noncomputable def vQ:List D->Option (List (List Int))
 | []=>some []
 | x::r=>(dG x).bind fun k=>(vQ r).map (k::·)
theorem vT:∀ {ds:List D}{k:List Int},rF ds=some k->ds=k.map D.int
 | [],k,h=>by cases h;rfl
 | d::ds,k,h=>by
  cases d with
  | int i=>
   obtain ⟨k',h1,h2⟩:=Rv.mp h
   subst h2
   rw [vT h1];rfl
  | _=>cases h
theorem BM {x:D}{k:List Int}(h:dG x=some k):x=.tup (k.map D.int):=by
 cases x with
 | tup ds=>rw [vT h]
 | _=>cases h
theorem BN:∀ {xs:List D}{ks:List (List Int)},vQ xs=some ks->xs=ks.map fun k=>D.tup (k.map D.int)
 | [],ks,h=>by cases h;rfl
 | x::xs,ks,h=>by
  obtain ⟨k,h1,h⟩:=Rl.mp h
  obtain ⟨ks',h2,h3⟩:=Rv.mp h
  subst h3
  rw [BM h1,BN h2];rfl
noncomputable def dO (μ:Hm):D->Option (List D)
 | .rol xs=>some xs
 | .loc a=>match μ[a]? with
  | some (.lst xs)=>some xs
  | _=>none
 | _=>none
section
variable {K:Rn}{π:Nat->Addr}{n:Nat}{H:Hp}{μ:Hm}
theorem lQ {v:V}{x:D}{xs:List D}(R:Rp K π H μ)(h:IsD K π μ.length H v x)(e:dO μ x=some xs):∃ p vs,v=.ref p/\SqL K H p vs/\IsDs K π μ.length H vs xs:=by
 cases h with
 | rol q t=>cases e;exact ⟨_,_,rfl,q.sq,t⟩
 | @loc a ha=>
  simp only [dO] at e
  split at e
  ·rename_i ys hy
   cases e
   obtain ⟨vs,h3,h4⟩:=R.lst a xs hy
   exact ⟨_,vs,rfl,.of h3,h4⟩
  ·cases e
 | _=>cases e
theorem ints_of':∀ {vs:List V}{k:List Int},IsDs K π n H vs (k.map D.int)->vs=k.map V.int
 | _,[],h=>by cases h;rfl
 | _,i::k,h=>by
  cases h with
  | cons h t=>cases h;rw [ints_of' t];rfl
theorem rM:∀ (k:List Int),IsDs K π n H (k.map V.int) (k.map D.int)
 | []=>.nil
 | i::k=>.cons (.int i) (rM k)
end
theorem BO {X:Cx}:∀ {k:List Int}{xs:List Ru},Vals (k.map V.int) xs->ItemsAre (Ut X.prog X.w) k xs
 | [],_,h=>by cases h;exact .nil
 | i::k,_,h=>by
  cases h with
  | cons h t=>
   obtain ⟨tk,rfl⟩:=h
   exact .cons (intKind_is _ _ _ _) (BO t)
section
variable {X:Cx}{a1Z:List (Addr×TK)}{σ:St}{H:Hp}{s:RC}
theorem kH (I:Inv X a1Z σ H s){b:Addr}{k:List Int}(h:SqT X.K H b (k.map V.int)):Tb.IsT X.prog X.w s.heap k b:=by
 obtain ⟨xs,rx,⟨ob,e,c,n,d⟩,_⟩:=I.tuple h
 exact ⟨ob,xs.toArray,n,e,c,d,by simpa using BO rx⟩
theorem call_lenT:CallR X (.builtin "len") (fun xs H Q=>∃ a L,xs=[V.ref a]/\H a=some (qO a L)/\Q (.int L.length) H):=by
 intro a1Z s σ H xs us Q I r h
 obtain ⟨a,L,rfl,ha,q⟩:=h
 obtain ⟨u,rfl,ru⟩:=fU r
 cases ru
 obtain ⟨⟨o,ho,led,es,ep,t,R,hex,hd,he,ok,hp,hnd,hm,hf5,hpl,hle⟩,_,_⟩:=I.hok a _ ha
 have hsz:es.size=L.length:=by
  have:=hp.length_eq
  simpa using this
 have hm5:t.mask<=511:=by rcases hm with h|h|h|h<;>omega
 refine call_len_set ho hex hd (Tb.fits_of ok he) (by rw [hsz];omega) ?_
 rw [hsz]
 exact ⟨.int L.length,H,I.tok _,⟨_,rfl⟩,q⟩
end
end L3
namespace L3
open PySem L2
noncomputable def BP (ks:List (List Int)):Nat->Nat->Bool:=fun i j=>HT.lexLt (ks.getD i []) (ks.getD j [])
noncomputable def vU:MF:=fun ds μ=>match ds with
 | [x]=>(dO μ x).bind fun xs=>(vQ xs).bind fun ks=>if 1<=ks.length/\ks.length<64/\∀ t∈ks,t≠[] then some (.loc μ.length,μ++[.lst ((b8 (BP ks) ks.length).map fun i=>xs.getD i .non)]) else none
 | _=>none
theorem BQ {K:Rn}{π:Nat->Addr}{n:Nat}{H:Hp}:∀ {vs:List V}{ks:List (List Int)},IsDs K π n H vs (ks.map fun k=>D.tup (k.map D.int))->TupsV K H vs ks
 | _,[],h=>by cases h;exact .nil
 | _,k::ks,h=>by
  cases h with
  | cons h t=>
   cases h with
   | @tup p vs ds hq hd=>
    have:=ints_of' hd
    subst this
    exact .cons ⟨p,rfl,hq⟩ (BQ t)
theorem BR {K:Rn}{π:Nat->Addr}{n:Nat}{H:Hp}:∀ {vs:List V}{xs:List D}(i:Nat),IsDs K π n H vs xs->IsD K π n H (vs.getD i .non) (xs.getD i .non)
 | _,_,i,.nil=>by simp;exact .non
 | _,_,0,.cons h _=>h
 | _,_,i+1,.cons _ t=>by simpa using BR i t
theorem BS {K:Rn}{π:Nat->Addr}{n:Nat}{H:Hp}{vs:List V}{xs:List D}(h:IsDs K π n H vs xs):∀ (l:List Nat),IsDs K π n H (l.map fun i=>vs.getD i .non) (l.map fun i=>xs.getD i .non)
 | []=>.nil
 | i::l=>.cons (BR i h) (BS h l)
theorem K2 {K:Rn}:dA K vU (vP K):=by
 intro π H μ xs d μ' vs Q R i hm k
 unfold vU at hm
 split at hm
 ·obtain ⟨ys,h1,hm⟩:=Rl.mp hm
  obtain ⟨ks,h2,hm⟩:=Rl.mp hm
  split at hm
  ·rename_i hb
   cases hm
   cases i with
   | cons i t=>
    cases t
    obtain ⟨p,ws,rfl,q,hd⟩:=lQ R i h1
    have hd':=hd
    rw [BN h2] at hd'
    have hl:ws.length=ks.length:=by
     have:=hd'.length
     rw [Ro] at this
     exact this
    refine ⟨p,ws,ks,rfl,q,BQ hd',by omega,by omega,hb.2.2,fun l hl'=>?_⟩
    obtain ⟨e2,R2,_⟩:=R.alloc (c:=.lst ((b8 (BP ks) ks.length).map fun i=>ys.getD i .non)) (o:=.lst ((b8 (fun i j=>HT.lexLt (ks.getD i []) (ks.getD j [])) ws.length).map fun i=>ws.getD i .non)) hl' (by
     show IsDs _ _ _ _ _ _
     rw [hl]
     exact BS hd _)
    exact k _ _ _ e2 R2 gW
  ·cases hm
 ·cases hm
end L3
namespace L3
open PySem L2
open PyProof.Rows (IntsAre Fr News seqObj)
section
variable {prog:R8}{w:Sy}{A:Sn}{E:Ru->RC->Prop}{s:RC}{h₀:SO}{L:Addr}{m:Str->Option Ru}{news:List (Addr×TK)}
end
theorem lR:∀ a:List Int,HT.lexLt a a=false
 | []=>rfl
 | x::a=>by rw [HT.lexLt_cons,if_pos rfl];exact lR a
theorem nC:∀ {a b c:List Int},HT.lexLt a b=true->HT.lexLt b c=true->HT.lexLt a c=true
 | _,[],[],_,h=>absurd h (by intro z;cases z)
 | _,_::_,[],_,h=>absurd h (by intro z;cases z)
 | [],_,_::_,_,_=>rfl
 | _::_,[],_::_,h,_=>absurd h (by intro z;cases z)
 | x::a,y::b,z::c,h1,h2=>by
  rw [HT.lexLt_cons] at h1 h2 ⊢
  by_cases e1:x=y
  ·subst e1
   rw [if_pos rfl] at h1
   by_cases e2:x=z
   ·subst e2
    rw [if_pos rfl] at h2 ⊢
    exact nC h1 h2
   ·rw [if_neg e2] at h2 ⊢
    exact h2
  ·rw [if_neg e1] at h1
   by_cases e2:y=z
   ·subst e2
    rw [if_neg e1];exact h1
   ·rw [if_neg e2] at h2
    rw [decide_eq_true_eq] at h1 h2
    rw [if_neg (by omega),decide_eq_true_eq];omega
section
variable {X:Cx}{a1Z:List (Addr×TK)}{σ:St}{H:Hp}{s:RC}
end
end L3
namespace L3
open PySem
open PySem.W (KasT kas_asc kas_desc kas_tail3 kas_descPart kas_count kas_place kas_bin kas_sort kas_rev)
open PyProof.Rows (mirror bubble getElem?_bubble getElem?_mirror_all mirror_size bubble_size)
theorem nD {α β:Type}{ans:Nat->Nat->Bool}{f:α->a1f β}:∀ t:a1f α,aV ans (t.bind f)=aV ans (f (aV ans t))
 | .ret a=>rfl
 | .ask i j k=>by
  show aV ans ((k (ans i j)).bind f)=_
  rw [nD]
  rfl
section
variable {ans:Nat->Nat->Bool}{κ:Nat->Nat}(hk:∀ i j,ans i j=decide (κ i<κ j))
noncomputable def gK (κ:Nat->Nat)(p:Array Nat)(k:Nat):Nat:=κ (p.getD k 0)
theorem oS {p q:Array Nat}{k m:Nat}(h:p[k]? = q[m]?):p.getD k 0=q.getD m 0:=by
 have e:∀ (a:Array Nat)(i:Nat),a.getD i 0=(a[i]?).getD 0:=fun a i=>by
  by_cases hi:i<a.size
  ·simp [Ux,hi]
  ·simp [Ux,hi]
 rw [e,e,h]
theorem lU {p:Array Nat}{i j:Nat}(hj:j<=p.size)(k:Nat):gK κ (Ur p i j) k=if i<=k/\k<j then gK κ p (i+j - 1 - k) else gK κ p k:=by
 have h:=getElem?_mirror_all (i:=i) hj k
 by_cases c:i<=k/\k<j
 ·rw [if_pos c] at h ⊢
  exact congrArg κ (oS h)
 ·rw [if_neg c] at h ⊢
  exact congrArg κ (oS h)
theorem BU {p:Array Nat}{s d:Nat}(hs:s<p.size)(hd:d<=s)(k:Nat):gK κ (bubble p s d) k=if k=s - d then gK κ p s else if s - d<k/\k<=s then gK κ p (k - 1) else gK κ p k:=by
 have h:=getElem?_bubble hs d hd k
 by_cases c:k=s - d
 ·rw [if_pos c] at h ⊢
  exact congrArg κ (oS h)
 ·rw [if_neg c] at h ⊢
  by_cases c2:s - d<k/\k<=s
  ·rw [if_pos c2] at h ⊢
   exact congrArg κ (oS h)
  ·rw [if_neg c2] at h ⊢
   exact congrArg κ (oS h)
theorem oT (p:Array Nat)(i j:Nat):(Ur p i j).size=p.size:=mirror_size _ _ _ _
noncomputable def iX (κ:Nat->Nat)(p:Array Nat)(m:Nat):Prop:=∀ i j,i<=j->j<m->gK κ p i<=gK κ p j
include hk in
theorem vV (p:Array Nat):∀ (f m:Nat),m<=aV ans (Us p f m)/\aV ans (Us p f m)<=m+f/\(∀ j,m<=j->j<aV ans (Us p f m)->gK κ p (j - 1)<=gK κ p j) /\
  (aV ans (Us p f m)<m+f->gK κ p (aV ans (Us p f m))<gK κ p (aV ans (Us p f m) - 1))
 | 0,m=>⟨RD _,RD _,fun j h1 h2=>absurd (show j<m from h2) (by omega),fun h=>absurd (show m<m+0 from h) (by omega)⟩
 | f+1,m=>by
  have e:aV ans (Us p (f+1) m)=if ans (p.getD m 0) (p.getD (m - 1) 0)=true then m else aV ans (Us p f (m+1)):=by
   show aV ans (if ans (p.getD m 0) (p.getD (m - 1) 0)=true then Uv m else Us p f (m+1))=_
   split<;>rfl
  rw [e,hk]
  by_cases h:κ (p.getD m 0)<κ (p.getD (m - 1) 0)
  ·rw [if_pos (by simpa using h)]
   exact ⟨RD _,by omega,fun j h1 h2=>absurd h2 (by omega),fun _=>h⟩
  ·rw [if_neg (by simpa using h)]
   obtain ⟨i1,i2,i3,i4⟩:=vV p f (m+1)
   refine ⟨by omega,by omega,fun j h1 h2=>?_,fun h2=>i4 (by omega)⟩
   by_cases hj:j=m
   ·subst hj;exact U5.mp h
   ·exact i3 j (by omega) h2
theorem BV {p:Array Nat}{m:Nat}(h:∀ j,1<=j->j<m->gK κ p (j - 1)<=gK κ p j):iX κ p m:=by
 intro i j hij hj
 induction j with
 | zero=>
  have:i=0:=by omega
  subst this;exact RD _
 | succ j ih=>
  by_cases e:i=j+1
  ·subst e;exact RD _
  ·exact SQ (ih (by omega) (by omega)) (h (j+1) (by omega) hj)
structure Falls (κ:Nat->Nat)(p:Array Nat)(n q:Nat):Prop where
 fall:∀ i j,i<=j->j<n->gK κ p j<=gK κ p i
 alike:∀ k,n - 1 - q<=k->k<n->gK κ p k=gK κ p (n - 1)
 qn:q<n
theorem Falls.rev {p:Array Nat}{n q:Nat}(F:Falls κ p n q)(hn:n<=p.size):∀ k,gK κ (Ur p (n - (q+1)) n) k=gK κ p k:=fun k=>by
 rw [lU hn]
 split
 ·rename_i c
  have:=F.qn
  rw [F.alike (n - (q+1)+n - 1 - k) (by omega) (by omega),F.alike k (by omega) c.2]
 ·rfl
theorem Falls.same {p p':Array Nat}{n q:Nat}(F:Falls κ p n q)(h:∀ k,gK κ p' k=gK κ p k):Falls κ p' n q:=
 ⟨fun i j h1 h2=>by rw [h,h];exact F.fall i j h1 h2,fun k h1 h2=>by rw [h,h];exact F.alike k h1 h2,F.qn⟩
include hk in
theorem rN:∀ (f:Nat)(p:Array Nat)(n q:Nat),1<=n->n+f<=p.size->Falls κ p n q->
  ∃ p' n' q',aV ans (Ub f p n q)=(p',n',q')/\p'.size=p.size/\n<=n'/\n'<=n+f/\Falls κ p' n' q'
 | 0,p,n,q,_,_,F=>⟨p,n,q,rfl,rfl,RD _,RD _,F⟩
 | f+1,p,n,q,h1,hs,F=>by
  have hqn:=F.qn
  by_cases h:κ (p.getD n 0)<κ (p.getD (n - 1) 0)
  ·have h':gK κ p n<gK κ p (n - 1):=h
   have grow:∀ p':Array Nat,(∀ k,gK κ p' k=gK κ p k)->Falls κ p' (n+1) 0:=fun p' hp=>⟨fun i j hi hj=>by
     rw [hp,hp]
     by_cases e:j=n
     ·subst j
      by_cases e2:i=n
      ·subst i;exact RD _
      ·have:=F.fall i (n - 1) (by omega) (by omega)
       omega
     ·exact F.fall i j hi (by omega),fun k hk1 hk2=>by
     have:k=n:=by omega
     subst this
     simp,by omega⟩
   by_cases hq:q>0
   ·have e:aV ans (Ub (f+1) p n q)=aV ans (Ub f (Ur p (n - (q+1)) n) (n+1) 0):=by
     show aV ans (if ans (p.getD n 0) (p.getD (n - 1) 0)=true then (if q>0 then Ub f (Ur p (n - (q+1)) n) (n+1) 0 else Ub f p (n+1) 0) else _)=_
     rw [hk,if_pos (by simpa using h),if_pos hq]
    obtain ⟨p',n',q',r1,r2,r3,r4,r5⟩:=rN f (Ur p (n - (q+1)) n) (n+1) 0 (by omega) (by rw [oT];omega) (grow _ (F.rev (by omega)))
    exact ⟨p',n',q',e.trans r1,r2.trans (oT _ _ _),by omega,by omega,r5⟩
   ·have e:aV ans (Ub (f+1) p n q)=aV ans (Ub f p (n+1) 0):=by
     show aV ans (if ans (p.getD n 0) (p.getD (n - 1) 0)=true then (if q>0 then Ub f (Ur p (n - (q+1)) n) (n+1) 0 else Ub f p (n+1) 0) else _)=_
     rw [hk,if_pos (by simpa using h),if_neg hq]
    obtain ⟨p',n',q',r1,r2,r3,r4,r5⟩:=rN f p (n+1) 0 (by omega) (by omega) (grow p fun _=>rfl)
    exact ⟨p',n',q',e.trans r1,r2,by omega,by omega,r5⟩
  ·by_cases h2:κ (p.getD (n - 1) 0)<κ (p.getD n 0)
   ·have e:aV ans (Ub (f+1) p n q)=(p,n,q):=by
     show aV ans (if ans (p.getD n 0) (p.getD (n - 1) 0)=true then _ else WT (p.getD (n - 1) 0) (p.getD n 0) fun d=>if d=true then Uv (p,n,q) else Ub f p (n+1) (q+1))=_
     rw [hk,if_neg (by simpa using h)]
     show aV ans (if ans (p.getD (n - 1) 0) (p.getD n 0)=true then Uv (p,n,q) else Ub f p (n+1) (q+1))=_
     rw [hk,if_pos (by simpa using h2)]
     rfl
    exact ⟨p,n,q,e,rfl,RD _,by omega,F⟩
   ·have e:aV ans (Ub (f+1) p n q)=aV ans (Ub f p (n+1) (q+1)):=by
     show aV ans (if ans (p.getD n 0) (p.getD (n - 1) 0)=true then _ else WT (p.getD (n - 1) 0) (p.getD n 0) fun d=>if d=true then Uv (p,n,q) else Ub f p (n+1) (q+1))=_
     rw [hk,if_neg (by simpa using h)]
     show aV ans (if ans (p.getD (n - 1) 0) (p.getD n 0)=true then Uv (p,n,q) else Ub f p (n+1) (q+1))=_
     rw [hk,if_neg (by simpa using h2)]
    have heq:gK κ p n=gK κ p (n - 1):=by
     have a1:¬ gK κ p n<gK κ p (n - 1):=h
     have a2:¬ gK κ p (n - 1)<gK κ p n:=h2
     omega
    have G:Falls κ p (n+1) (q+1):=⟨fun i j hi hj=>by
      by_cases e:j=n
      ·subst j
       by_cases e2:i=n
       ·subst i;exact RD _
       ·rw [heq];exact F.fall i (n - 1) (by omega) (by omega)
      ·exact F.fall i j hi (by omega),fun k hk1 hk2=>by
      have e3:n+1 - 1=n:=by omega
      rw [e3]
      by_cases e:k=n
      ·rw [e]
      ·rw [heq];exact F.alike k (by omega) (by omega),by omega⟩
    obtain ⟨p',n',q',r1,r2,r3,r4,r5⟩:=rN f p (n+1) (q+1) (by omega) (by omega) G
    exact ⟨p',n',q',e.trans r1,r2,by omega,by omega,r5⟩
include hk in
theorem BW {p:Array Nat}{n N q:Nat}(h1:1<=n)(hn:n<=N)(hs:p.size=N)(F:Falls κ p n q) :
  ∃ m p',aV ans (Wm n N p)=(m,p')/\p'.size=N/\1<=m/\m<=N/\iX κ p' m:=by
 have up:∀ j,1<=j->j<n->gK κ (Ur p 0 n) (j - 1)<=gK κ (Ur p 0 n) j:=fun j a b=>by
  rw [lU (by omega),lU (by omega),if_pos ⟨by omega,by omega⟩,if_pos ⟨by omega,by omega⟩]
  exact F.fall _ _ (by omega) (by omega)
 obtain ⟨a1,a2,a3,_⟩:=vV hk (Ur p 0 n) (N - n) n
 refine ⟨aV ans (Us (Ur p 0 n) (N - n) n),Ur p 0 n,?_,by rw [oT,hs],?_,?_,BV fun j h1 h2=>?_⟩
 ·unfold Wm
  rw [nD]
  rfl
 ·omega
 ·omega
 ·by_cases h:j<n
  ·exact up j h1 h
  ·exact a3 j (by omega) h2
include hk in
theorem BX {p:Array Nat}{n N:Nat}(h1:1<=n)(hn:n<N)(hs:p.size=N)(hall:∀ i j,i<=j->j<n->gK κ p j<=gK κ p i)(hlt:gK κ p n<gK κ p (n - 1)) :
  ∃ m p',aV ans (UX n N p)=(m,p')/\p'.size=N/\1<=m/\m<=N/\iX κ p' m:=by
 have F:Falls κ p (n+1) 0:=⟨fun i j hi hj=>by
   by_cases e:j=n
   ·subst j
    by_cases e2:i=n
    ·subst i;exact RD _
    ·have:=hall i (n - 1) (by omega) (by omega)
     omega
   ·exact hall i j hi (by omega),fun k a b=>by
   have:k=n:=by omega
   subst this
   simp,by omega⟩
 obtain ⟨p',n',q',r1,r2,r3,r4,r5⟩:=rN hk (N - (n+1)) p (n+1) 0 (by omega) (by omega) F
 have e:aV ans (UX n N p)=aV ans (if q'>0 then Wm n' N (Ur p' (n' - (q'+1)) n') else Wm n' N p'):=by
  unfold UX
  rw [nD,r1]
 rw [e]
 split
 ·exact BW hk (by omega) (by omega) (by rw [oT,r2,hs]) (r5.same (r5.rev (by omega)))
 ·exact BW hk (by omega) (by omega) (r2.trans hs) r5
include hk in
theorem K3 {p:Array Nat}{N:Nat}(h1:1<=N)(hs:p.size=N):∃ m p',aV ans (Zl N p)=(m,p')/\p'.size=N/\1<=m/\m<=N/\iX κ p' m:=by
 obtain ⟨a1,a2,a3,a4⟩:=vV hk p (N - 1) 1
 have e:aV ans (Zl N p)=aV ans (if (aV ans (Us p (N - 1) 1) == N)=true then Uv (aV ans (Us p (N - 1) 1),p) else if aV ans (Us p (N - 1) 1)>1 then WT (p.getD 0 0) (p.getD (aV ans (Us p (N - 1) 1) - 1) 0) (fun c=>if c=true then Uv (aV ans (Us p (N - 1) 1),p) else UX (aV ans (Us p (N - 1) 1)) N (Ur p 0 (aV ans (Us p (N - 1) 1)))) else UX (aV ans (Us p (N - 1) 1)) N p):=by
  unfold Zl
  rw [nD]
 rw [e]
 generalize aV ans (Us p (N - 1) 1)=n at *
 have up:=BV (κ:=κ) (p:=p) (m:=n) a3
 split
 ·exact ⟨n,p,rfl,hs,a1,by omega,up⟩
 ·rename_i hne
  have hne:n≠N:=by simpa using hne
  have hlt:=a4 (by omega)
  split
  ·rename_i hg
   show ∃ m p',aV ans (if ans (p.getD 0 0) (p.getD (n - 1) 0)=true then Uv (n,p) else UX n N (Ur p 0 n))=(m,p')/\_
   rw [hk]
   by_cases h:κ (p.getD 0 0)<κ (p.getD (n - 1) 0)
   ·rw [if_pos (by simpa using h)]
    exact ⟨n,p,rfl,hs,a1,by omega,up⟩
   ·rw [if_neg (by simpa using h)]
    have h':¬ gK κ p 0<gK κ p (n - 1):=h
    have all:∀ k,k<n->gK κ p k=gK κ p 0:=fun k hkn=>by
     have u1:=up 0 k (SF _) hkn
     have u2:=up k (n - 1) (by omega) (by omega)
     omega
    refine BX hk a1 (by omega) (by rw [oT,hs]) (fun i j hi hj=>?_) ?_
    ·rw [lU (by omega),lU (by omega),if_pos ⟨by omega,by omega⟩,if_pos ⟨by omega,by omega⟩,all (0+n - 1 - j) (by omega),all (0+n - 1 - i) (by omega)]
     exact RD _
    ·rw [lU (by omega),lU (by omega),if_neg (by omega),if_pos ⟨by omega,by omega⟩,all (0+n - 1 - (n - 1)) (by omega),<- all (n - 1) (by omega)]
     exact hlt
  ·rename_i hg
   refine BX hk a1 (by omega) hs (fun i j hi hj=>?_) hlt
   have:i=j:=by omega
   subst this
   exact RD _
include hk in
theorem vW {p:Array Nat}{k:Nat}(S:iX κ p k):∀ (f l r:Nat),r - l<=f->l<=r->r<=k->(∀ j,j<l->gK κ p j<=gK κ p k)->(∀ j,r<=j->j<k->gK κ p k<gK κ p j)->
  aV ans (Tx p k f l r)<=k/\(∀ j,j<aV ans (Tx p k f l r)->gK κ p j<=gK κ p k)/\∀ j,aV ans (Tx p k f l r)<=j->j<k->gK κ p k<gK κ p j
 | 0,l,r,h1,h2,h3,lo,hi=>by
  have:l=r:=by omega
  subst this
  exact ⟨h3,lo,hi⟩
 | f+1,l,r,h1,h2,h3,lo,hi=>by
  by_cases h:l >= r
  ·have e:aV ans (Tx p k (f+1) l r)=l:=by
    show aV ans (if l >= r then Uv l else _)=_
    rw [if_pos h];rfl
   have:l=r:=by omega
   subst this
   rw [e]
   exact ⟨h3,lo,hi⟩
  ·by_cases c:κ (p.getD k 0)<κ (p.getD ((l+r) / 2) 0)
   ·have e:aV ans (Tx p k (f+1) l r)=aV ans (Tx p k f l ((l+r) / 2)):=by
     show aV ans (if l >= r then Uv l else WT (p.getD k 0) (p.getD ((l+r) / 2) 0) fun c=>if c=true then Tx p k f l ((l+r) / 2) else Tx p k f ((l+r) / 2+1) r)=_
     rw [if_neg h]
     show aV ans (if ans (p.getD k 0) (p.getD ((l+r) / 2) 0)=true then Tx p k f l ((l+r) / 2) else Tx p k f ((l+r) / 2+1) r)=_
     rw [hk,if_pos (by simpa using c)]
    rw [e]
    refine vW S f l ((l+r) / 2) (by omega) (by omega) (by omega) lo fun j hj hjk=>?_
    have:=S ((l+r) / 2) j hj hjk
    have c':gK κ p k<gK κ p ((l+r) / 2):=c
    omega
   ·have e:aV ans (Tx p k (f+1) l r)=aV ans (Tx p k f ((l+r) / 2+1) r):=by
     show aV ans (if l >= r then Uv l else WT (p.getD k 0) (p.getD ((l+r) / 2) 0) fun c=>if c=true then Tx p k f l ((l+r) / 2) else Tx p k f ((l+r) / 2+1) r)=_
     rw [if_neg h]
     show aV ans (if ans (p.getD k 0) (p.getD ((l+r) / 2) 0)=true then Tx p k f l ((l+r) / 2) else Tx p k f ((l+r) / 2+1) r)=_
     rw [hk,if_neg (by simpa using c)]
    rw [e]
    refine vW S f ((l+r) / 2+1) r (by omega) (by omega) h3 (fun j hj=>?_) hi
    have c':¬ gK κ p k<gK κ p ((l+r) / 2):=c
    have:=S j ((l+r) / 2) (by omega) (by omega)
    omega
theorem K4 {p:Array Nat}{k l:Nat}(hs:k<p.size)(hl:l<=k)(S:iX κ p k)(lo:∀ j,j<l->gK κ p j<=gK κ p k)(hi:∀ j,l<=j->j<k->gK κ p k<gK κ p j):iX κ (bubble p k (k - l)) (k+1):=by
 intro i j hij hj
 rw [BU hs (by omega),BU hs (by omega)]
 have e:k - (k - l)=l:=by omega
 rw [e]
 repeat' split
 all_goals first
  | exact RD _
  | (exfalso;omega)
  | (exact Va (hi _ (by omega) (by omega)))
  | (exact lo _ (by omega))
  | (exact S _ _ (by omega) (by omega))
include hk in
theorem BY {N:Nat}:∀ (f:Nat)(p:Array Nat)(k:Nat),p.size=N->k+f=N->iX κ p k->iX κ (aV ans (XT f p k)) N
 | 0,p,k,hs,h,S=>by
  have:k=N:=by omega
  subst this
  exact S
 | f+1,p,k,hs,h,S=>by
  have e:aV ans (XT (f+1) p k)=aV ans (XT f (bubble p k (k - aV ans (Tx p k k 0 k))) (k+1)):=by
   show aV ans ((Tx p k k 0 k).bind fun l=>XT f (bubble p k (k - l)) (k+1))=_
   rw [nD]
  rw [e]
  obtain ⟨a,b,c⟩:=vW hk S k 0 k (by omega) (by omega) (RD _) (fun j hj=>absurd hj (by omega)) (fun j h1 h2=>absurd h2 (by omega))
  exact BY f _ (k+1) (by rw [bubble_size,hs]) (by omega) (K4 (by omega) a S b c)
include hk in
theorem K5 {N:Nat}(h1:1<=N):iX κ (aV ans (XS N)) N:=by
 obtain ⟨m,p',e,hs,hm1,hm,S⟩:=K3 hk (p:=(SG N).toArray) h1 (by simp)
 have e2:aV ans (XS N)=aV ans (if m<N then XT (N - max m 1) p' (max m 1) else Uv p'):=by
  unfold XS
  rw [nD,e]
 rw [e2]
 split
 ·have:max m 1=m:=by omega
  rw [this]
  exact BY hk (N - m) p' m hs (by omega) S
 ·have:m=N:=by omega
  subst this
  exact S
end
section
variable {α:Type}{lt:α->α->Bool}(irr:∀ a,lt a a=false)(tr:∀ a b c,lt a b=true->lt b c=true->lt a c=true)(nt:∀ a b c,lt a b=true->lt a c=true\/lt c b=true)
theorem vX {p q:α->Bool}:∀ {l:List α},(∀ a∈l,p a=true->q a=true)->l.countP p<=l.countP q
 | [],_=>RD _
 | a::l,h=>by
  have ih:=vX (l:=l) fun b hb=>h b (RP _ hb)
  rw [Wx,Wx]
  have:=h a (RX ..)
  cases hp:p a<;>cases hq:q a<;>simp_all<;>omega
theorem BZ {p q:α->Bool}:∀ {l:List α}{b:α},(∀ a∈l,p a=true->q a=true)->b∈l->p b=false->q b=true->l.countP p<l.countP q
 | a::l,b,h,hb,h1,h2=>by
  rw [Wx,Wx]
  have hle:=vX (l:=l) fun c hc=>h c (RP _ hc)
  rcases Sa.mp hb with rfl|hb
  ·simp only [h1,h2,RE,if_false,if_true];omega
  ·have ih:=BZ (l:=l) (fun c hc=>h c (RP _ hc)) hb h1 h2
   have:=h a (RX ..)
   cases hp:p a<;>cases hq:q a<;>simp_all<;>omega
include irr tr nt in
theorem K6 {l:List α}{a b:α}(ha:a∈l):lt a b=decide (l.countP (fun c=>lt c a)<l.countP (fun c=>lt c b)):=by
 cases h:lt a b with
 | true=>
  have:=BZ (p:=fun c=>lt c a) (q:=fun c=>lt c b) (l:=l) (fun c _ hc=>tr _ _ _ hc h) ha (irr a) h
  simpa using this
 | false=>
  have:=vX (p:=fun c=>lt c b) (q:=fun c=>lt c a) (l:=l) fun c _ hc=>by
   rcases nt c b a hc with z|z
   ·exact z
   ·rw [h] at z;cases z
  simpa using this
include irr tr nt in
theorem K7 (d:α)(xs:List α){n:Nat}(h0:1<=n):(b8 (fun i j=>lt (xs.getD i d) (xs.getD j d)) n).Pairwise fun i j=>lt (xs.getD j d) (xs.getD i d)=false:=by
 have hk:∀ i j,lt (xs.getD i d) (xs.getD j d)=decide ((d::xs).countP (fun c=>lt c (xs.getD i d))<(d::xs).countP (fun c=>lt c (xs.getD j d))):=fun i j=>by
  refine K6 irr tr nt ?_
  by_cases hi:i<xs.length
  ·have:xs.getD i d=xs[i]:=by simp [S3,hi]
   rw [this]
   exact RP _ (VF hi)
  ·have:xs.getD i d=d:=by simp [S3,Ts (U5.mp hi)]
   rw [this]
   exact RX ..
 have S:=K5 (κ:=fun i=>(d::xs).countP fun c=>lt c (xs.getD i d)) hk h0 (N:=n)
 have hp:=oR (fun i j=>lt (xs.getD i d) (xs.getD j d)) (n:=n) h0
 have hl:(b8 (fun i j=>lt (xs.getD i d) (xs.getD j d)) n).length=n:=by
  have:=hp.length_eq
  simpa using this
 rw [TZ]
 intro i j hi hj hij
 rw [hk]
 have s:=S i j (by omega) (by omega)
 have e:∀ (a:Array Nat)(k:Nat)(hk:k<a.toList.length),a.getD k 0=a.toList[k]:=fun a k hk=>by
  have hk':k<a.size:=by simpa using hk
  simp [Ux,hk']
 unfold gK at s
 rw [e _ i hi,e _ j hj] at s
 simp only [decide_eq_false_iff_not,U5]
 exact s
end
end L3
namespace L3
open PySem L2
section
variable {X:Cx}{a b c:RI}{ma mb mc:ME}{pos:TC}
noncomputable def iY (f g:D->D->Hm->Option (D×Hm))(a b c:ME):ME:=fun ρ μ=>(a ρ μ).bind fun p=>(b ρ p.2).bind fun q=>(f p.1 q.1 q.2).bind fun r=>match r.1 with
 | .bl true=>(c ρ r.2).bind fun t=>g q.1 t.1 t.2
 | .bl false=>some (.bl false,r.2)
 | _=>none
theorem B0 {f g:D->D->Hm->Option (D×Hm)}{r r':R2}{K:Rn}(hf:cP K f r)(hg:cP K g r'):∀ σ H Q,tM K (iY f g ma mb mc) σ H Q->tY r r' (tM K ma) (tM K mb) (tM K mc) σ H Q:=by
 rintro σ H Q ⟨π,ρ,μ,d,μ',R,E,hm,k⟩
 obtain ⟨⟨x,μ1⟩,h1,hm⟩:=Rl.mp hm
 obtain ⟨⟨y,μ2⟩,h2,hm⟩:=Rl.mp hm
 obtain ⟨⟨z,μ3⟩,h3,hm⟩:=Rl.mp hm
 refine ⟨π,ρ,μ,x,μ1,R,E,h1,fun π1 v1 H1 e1 R1 i1=>⟨π1,ρ,μ1,y,μ2,R1,E.mono e1,h2,fun π2 v2 H2 e2 R2 i2=>?_⟩⟩
 refine hf π2 H2 μ2 x y z μ3 v1 v2 _ R2 (i1.mono e2) i2 h3 fun π3 v3 H3 e3 R3 i3=>?_
 cases z with
 | bl bb=>
  cases i3
  refine ⟨bb,rfl,?_⟩
  cases bb with
  | true=>
   refine lD ?_
   obtain ⟨⟨t,μ4⟩,h4,hm⟩:=Rl.mp hm
   exact ⟨π3,ρ,μ3,t,μ4,R3,((E.mono e1).mono e2).mono e3,h4,fun π4 v4 H4 e4 R4 i4=>hg π4 H4 μ4 y t d μ' v2 v4 Q R4 ((i2.mono e3).mono e4) i4 hm (k.after (((e1.trans e2).trans e3).trans e4))⟩
  | false=>
   refine lB ?_
   cases hm
   exact k π3 _ H3 ((e1.trans e2).trans e3) R3 (.bl false)
 | _=>cases hm
noncomputable def jY:Vr->Option (Int->Int->Bool)
 | .Lt=>some fun i j=>decide (i<j)
 | .LtE=>some fun i j=>decide (i<=j)
 | .Gt=>some fun i j=>decide (j<i)
 | .GtE=>some fun i j=>decide (j<=i)
 | _=>none
theorem nE {op:Vr}{p:Int->Int->Bool}(h:jY op=some p):OpR X (S4 op) (fT fun i j=>.bl (p i j))/\(op=.Lt\/op=.LtE\/op=.Gt\/op=.GtE):=by
 cases op<;>first|(cases h;first|exact ⟨tU,by simp⟩|exact ⟨tV,by simp⟩|exact ⟨tW,by simp⟩|exact ⟨tX,by simp⟩)|cases h
theorem B1 {op op':Vr}(h':op'=.Lt\/op'=.LtE\/op'=.Gt\/op'=.GtE):a0U [op,op'] [b,c]=false:=by
 show U1 op' c=false
 rcases h' with rfl|rfl|rfl|rfl<;>exact dZ _
theorem K8 {op op':Vr}{p q:Int->Int->Bool}(h:jY op=some p)(h':jY op'=some q)(ha:QE X a ma)(hb:QE X b mb)(hc:QE X c mc):QE X (.Compare a [op,op'] [b,c] pos) (iY (fJ p) (fJ q) ma mb mc):=
 ⟨cM (Gn (nE h).1 (nE h').1 ha.h hb.h hc.h (B1 (nE (X:=X) h').2)) (B0 gZ gZ)⟩
theorem K9 {op op':Vr}{p q:Int->Int->Bool}(h:jY op=some p)(h':jY op'=some q)(ha:QE X a ma)(hb:QE X b mb)(hc:QE X c mc):QT X (.Compare a [op,op'] [b,c] pos) (bD (iY (fJ p) (fJ q) ma mb mc)):=
 ⟨qP (Gp (nE h).1 (nE h').1 ha.h hb.h hc.h (B1 (nE (X:=X) h').2)) fun σ H Q h=>B0 gZ gZ σ H _ (AS σ H Q h)⟩
end
section
variable {X:Cx}
end
noncomputable def vY:MF:=fun ds μ=>match ds with
 | [.int i,.int j]=>some (.int (if j<i then j else i),μ)
 | _=>none
noncomputable def vZ:MF:=fun ds μ=>match ds with
 | [.int i,.int j]=>some (.int (if j>i then j else i),μ)
 | _=>none
theorem La {K:Rn}:dA K vY (fun xs H Q=>∃ i j,xs=[.int i,.int j]/\Q (.int (if j<i then j else i)) H):=by
 intro π H μ xs d μ' vs Q R i hm k
 unfold vY at hm
 split at hm
 ·cases hm
  cases i with
  | cons i t=>
   cases i
   cases t with
   | cons i2 t2=>
    cases i2
    cases t2
    exact ⟨_,_,rfl,k π _ H .refl R (.int _)⟩
 ·cases hm
theorem Lb {K:Rn}:dA K vZ (fun xs H Q=>∃ i j,xs=[.int i,.int j]/\Q (.int (if j>i then j else i)) H):=by
 intro π H μ xs d μ' vs Q R i hm k
 unfold vZ at hm
 split at hm
 ·cases hm
  cases i with
  | cons i t=>
   cases i
   cases t with
   | cons i2 t2=>
    cases i2
    cases t2
    exact ⟨_,_,rfl,k π _ H .refl R (.int _)⟩
 ·cases hm
noncomputable def cS {α:Type}(xs:List α)(lo hi st:Option Int):List α:=(YR (Ua lo hi st xs.length).1 (Ua lo hi st xs.length).2.1 (Ua lo hi st xs.length).2.2).filterMap (xs[·]?)
noncomputable def nF (a:ME)(lo hi st:MO):ME:=fun ρ μ=>(a ρ μ).bind fun p=>(lo ρ p.2).bind fun q=>(hi ρ q.2).bind fun r=>(st ρ r.2).bind fun t=>
 if t.1≠some 0 then (dO t.2 p.1).bind fun xs=>if (cS xs q.1 r.1 t.1).length<=RL then some (.loc t.2.length,t.2++[.lst (cS xs q.1 r.1 t.1)]) else none else none
theorem Lc {K:Rn}{π:Nat->Addr}{n:Nat}{H:Hp}{vs:List V}{ds:List D}(h:IsDs K π n H vs ds)(lo hi st:Option Int):IsDs K π n H (cS vs lo hi st) (cS ds lo hi st):=by
 unfold cS
 rw [h.length]
 generalize YR _ _ _=l
 induction l with
 | nil=>exact .nil
 | cons i l ih=>
  rw [TX,TX]
  cases hi:ds[i]? with
  | none=>
   have:vs[i]? = none:=by
    rw [Su] at hi ⊢
    rw [h.length];exact hi
   rw [this]
   exact ih
  | some d=>
   obtain ⟨v,h1,h2⟩:=h.get hi
   rw [h1]
   exact .cons h2 ih
theorem Ld {vs:List V}{its:List Ru}(r:Vals vs its)(lo hi st:Option Int):Vals (cS vs lo hi st) (cS its lo hi st):=by
 unfold cS
 rw [r.length]
 generalize YR _ _ _=l
 induction l with
 | nil=>exact .nil
 | cons i l ih=>
  rw [TX,TX]
  cases hi:vs[i]? with
  | none=>
   have:its[i]? = none:=by
    rw [Su] at hi ⊢
    rw [<- r.length];exact hi
   rw [this]
   exact ih
  | some v=>
   obtain ⟨u,h1,h2⟩:=r.get hi
   rw [h1]
   exact .cons h2 ih
section
variable {X:Cx}{e:RI}{te:TE}{lo hi:Option RI}{st:RI}{tl th tt:TO}{pos p2:TC}
noncomputable def Le (K:Rn)(te:TE)(tl th tt:TO):TE:=fun σ H Q=>te σ H fun x H1=>tl σ H1 fun l H2=>th σ H2 fun u H3=>tt σ H3 fun t H4=>t≠some 0/\∃ a xs,x=.ref a/\SqL K H4 a xs/\(cS xs l u t).length<=RL/\∀ p,H4 p=none->Q (.ref p) (aI H4 p (.lst (cS xs l u t)))
open PyProof.Rows in
theorem Lf (he:PE X e te)(hl:PO X lo tl)(hu:PO X hi th)(ht:PO X (some st) tt):PE X (.Subscript e (.Slice lo hi (some st) p2) pos) (Le X.K te tl th tt):=by
 intro a1Z s σ H Q I h
 refine YW (aQ (he a1Z s σ H _ I h) fun v s1 ⟨x,H1,I1,r1,q1⟩=>?_)
 refine wpAny_Slice (aQ (hl a1Z s1 σ H1 _ I1 q1) fun vl s2 ⟨l,H2,I2,pl,q2⟩=>aQ (hu a1Z s2 σ H2 _ I2 q2) fun vu s3 ⟨u,H3,I3,pu,q3⟩=>aQ (ht a1Z s3 σ H3 _ I3 q3) fun vt s4 ⟨t,H4,I4,pt,q4⟩=>?_)
 obtain ⟨h0,a,xs,rfl,hx,hz,q⟩:=q4
 cases r1
 have I5:Inv X a1Z σ H4 { s4 with heap:=s4.heap.push { cls:=.type "slice",data:=.fields #[vl,vu,vt] } }:=I4.kept (t':=s4.toks) fun b ob q=>Rt _ q
 obtain ⟨its,r,hl',hz'⟩:=I5.list hx
 have hlen:=r.length
 show RQ (R0 X.prog X.w) X.A (Xx e (.Slice lo hi (some st) p2) (.ref a) (.ref s4.heap.objs.size)) (EP X a1Z σ Q) X.xe { s4 with heap:=s4.heap.push { cls:=.type "slice",data:=.fields #[vl,vu,vt] } }
 refine a1O (ops:=[.ref a,.ref s4.heap.objs.size]) hl'.isList.typeIs XQ.lookup ?_ (by with_unfolding_all rfl)
 refine Zf hl'.isList (XJ ..) pl pu pt h0 ?_ (by rw [RS]<;>omega)
 have hpick:Zk its.toArray l u t=(cS its l u t).toArray:=by
  unfold Zk cS
  simp
 rw [hpick]
 refine ⟨.ref _,_,I5.laid (t':=s4.toks) (o:=.lst (cS xs l u t)) (fun b ob q=>Rt _ q) (RD _) ?_,rfl,q _ (I5.hok.fresh (RD _))⟩
 exact ⟨hz,_,0,Ld r l u t,RK _ rfl⟩
theorem Lg {me:ME}{ml mh mt:MO}(he:QE X e me)(hl:QO X lo ml)(hu:QO X hi mh)(ht:QO X (some st) mt):QE X (.Subscript e (.Slice lo hi (some st) p2) pos) (nF me ml mh mt):=⟨cM (Lf he.h hl.h hu.h ht.h) (by
 rintro σ H Q ⟨π,ρ,μ,d,μ',R,E,hm,k⟩
 obtain ⟨⟨x,μ1⟩,h1,hm⟩:=Rl.mp hm
 obtain ⟨⟨l,μ2⟩,h2,hm⟩:=Rl.mp hm
 obtain ⟨⟨u,μ3⟩,h3,hm⟩:=Rl.mp hm
 obtain ⟨⟨t,μ4⟩,h4,hm⟩:=Rl.mp hm
 refine ⟨π,ρ,μ,x,μ1,R,E,h1,fun π1 v1 H1 e1 R1 i1=>⟨π1,ρ,μ1,l,μ2,R1,E.mono e1,h2,fun π2 H2 e2 R2=>⟨π2,ρ,μ2,u,μ3,R2,(E.mono e1).mono e2,h3,fun π3 H3 e3 R3=>⟨π3,ρ,μ3,t,μ4,R3,((E.mono e1).mono e2).mono e3,h4,fun π4 H4 e4 R4=>?_⟩⟩⟩⟩
 split at hm
 ·rename_i h0
  obtain ⟨xs,h5,hm⟩:=Rl.mp hm
  split at hm
  ·rename_i hz
   cases hm
   obtain ⟨p,vs,rfl,q,hd⟩:=lQ R4 (((i1.mono e2).mono e3).mono e4) h5
   have hpk:=Lc hd l u t
   refine ⟨h0,p,vs,rfl,q,by rw [hpk.length];exact hz,fun p' hp=>?_⟩
   obtain ⟨e5,R5,_⟩:=R4.alloc (c:=.lst (cS xs l u t)) (o:=.lst (cS vs l u t)) hp hpk
   exact k _ _ _ ((((e1.trans e2).trans e3).trans e4).trans e5) R5 gW
  ·cases hm
 ·cases hm)⟩
end
section
variable {X:Cx}{a1Z:List (Addr×TK)}{σ:St}{H:Hp}{s:RC}{h':SO}
theorem v7 {t':Nat}{ch:List Addr}{a:Addr}{o:HO}(I:Inv X a1Z σ H s)(k:∀ b u,b∉ch->s.heap.get? b=some u->h'.get? b=some u)(hf:∀ b∈ch,gT X a1Z H b)(hp:s.heap.objs.size<=a)
  (new:ObjOk X.prog X.w (aI H a o) h' a o):Inv X a1Z σ (aI H a o) { s with heap:=h',toks:=t' }:=by
 have hn:=I.hok.fresh hp
 have nit:∀ b u,H b=some u->b∉ch:=fun b u e z=>by
  have:=(hf b z).1
  rw [e] at this;cases this
 refine I.step (g':=s.gens) (d':=s.drawn) (ch:=ch) (fun b hb=>let ⟨f0,f1,f2,f3,f4,f5⟩:=hf b hb;⟨f3,f1,f4,f5⟩) (fun b o _ _ hc e _=>k b o hc e) (fun b o _ _ hc e _=>⟨o.slots,k b o hc e⟩) (fun b ob hc e n=>?_)
  (fun b o hc e=>⟨o,k b o hc e⟩) (fun b xs q=>?_) (fun b ob xs q=>?_) (fun b ps q=>?_) (fun m hm=>?_) (fun b u e=>?_) I.bare
 ·rw [bA (RT (Si (RH e) hp))];exact n
 ·rw [bA (dY q hn)];exact q
 ·rw [bA (dY q hn)];exact q
 ·exact ⟨#[],by rw [bA (dY q hn),q];simp⟩
 ·obtain ⟨o,es,ep,ho,r⟩:=hm
  exact ⟨o,es,ep,k _ o (fun z=>(hf _ z).2.1 rfl) ho,r⟩
 ·by_cases hb:b=a
  ·subst hb;rw [cG] at e;cases e;exact new
  ·rw [bA hb] at e
   refine (I.hok b u e).stay (fun c v hc q=>k c v ?_ q) (fun c q=>by rw [bA (dY q hn)];exact q) fun c xs q=>by rw [bA (dY q hn)];exact q
   rcases hc with z|z
   ·rw [z];exact nit b u e
   ·exact nit c _ z
theorem v8 {t':Nat}{ch:List Addr}(I:Inv X a1Z σ H s)(k:∀ b u,b∉ch->s.heap.get? b=some u->h'.get? b=some u)(hf:∀ b∈ch,gT X a1Z H b):Inv X a1Z σ H { s with heap:=h',toks:=t' }:=by
 have nit:∀ b u,H b=some u->b∉ch:=fun b u e z=>by
  have:=(hf b z).1
  rw [e] at this;cases this
 refine I.step (g':=s.gens) (d':=s.drawn) (ch:=ch) (fun b hb=>let ⟨f0,f1,f2,f3,f4,f5⟩:=hf b hb;⟨f3,f1,f4,f5⟩) (fun b o _ _ hc e _=>k b o hc e) (fun b o _ _ hc e _=>⟨o.slots,k b o hc e⟩) (fun b ob hc e n=>n)
  (fun b o hc e=>⟨o,k b o hc e⟩) (fun b xs q=>q) (fun b ob xs q=>q) (fun b ps q=>⟨#[],by rw [q];simp⟩) (fun m hm=>?_) (fun b u e=>?_) I.bare
 ·obtain ⟨o,es,ep,ho,r⟩:=hm
  exact ⟨o,es,ep,k _ o (fun z=>(hf _ z).2.1 rfl) ho,r⟩
 ·refine (I.hok b u e).stay (fun c v hc q=>k c v ?_ q) (fun c q=>q) fun c xs q=>q
  rcases hc with z|z
  ·rw [z];exact nit b u e
  ·exact nit c _ z
end
noncomputable def v9 (K:Rn)(a:Addr):It:=
 ⟨fun i H=>∃ xs x,SqL K H a xs/\xs[i]? = some x,fun i H x H'=>∃ p v,x=.ref p/\H p=none/\H'=aI H p (.tup [.int i,v])/\∀ xs,SqL K H a xs->xs[i]? = some v,fun i H=>∃ xs,SqL K H a xs/\xs.length<=i⟩
theorem Lh {P:R8}{w:Sy}{K:Rn}{es:List RI}{kx:Nat}{pt:TC}(a e it:Addr)(hei:e≠it) :
  Turn P w K (.Tuple es kx pt) (v9 K a) [e,it] e (fun i h=>∃ old,IsEnum h e it i old/\h.IsListIter it a i) where
 mem:=by simp
 obj:=fun i h ⟨old,st,st2⟩ b hb=>by
  have hb':b=e\/b=it:=by simpa using hb
  rcases hb' with rfl|rfl
  ·exact ⟨_,st,fun v z=>by
    have z':WU _=V1 v:=z
    cases z'⟩
  ·obtain ⟨o,e1,c,d⟩:=st2
   exact ⟨o,e1,fun v z=>by rw [d] at z;cases z⟩
 keep:=fun i h h' ⟨old,st,st2⟩ k=>⟨old,k e (by simp) _ st,st2.at fun o e1=>k it (by simp) o e1⟩
 item:=by
  intro X hP hw hK hc i a1Z s σ H E I hf ⟨old,st,st2⟩ hg
  subst hP hw hK
  obtain ⟨xs,x,hq,hx⟩:=hg
  obtain ⟨its,rv,p,hz⟩:=I.list hq
  obtain ⟨u,hu,ru⟩:=rv.get hx
  refine wpAny_pyNext_enum_item st st2 p.isList (x:=u) (by simpa using hu) hei fun h1 ho hit ht hsz hk=>⟨_,rfl,wpAny_letOwnedTupleGo_enum ho fun h2 he2 hs2=>?_⟩
  have hlt:e<s.heap.objs.size:=RH st
  have hne:s.heap.objs.size≠e:=Te hlt
  have ht2:h2.get? s.heap.objs.size=some { cls:=.type "tuple",data:=.seq #[.int i s.toks,u] }:=(hs2.2 _ hne).trans ht
  have hfr:H s.heap.objs.size=none:=I.hok.fresh (RD _)
  refine ⟨.ref s.heap.objs.size,aI H s.heap.objs.size (.tup [.int i,x]),?_,rfl,⟨s.heap.objs.size,x,rfl,hfr,rfl,fun ys hy=>by rw [I.list_inj hy hq];exact hx⟩,⟨u,he2,hit.extBut hs2.extBut (So hei)⟩,fun b hb=>?_⟩
  ·refine v7 (s:=s) (h':=h2) (t':=s.toks+1) (ch:=[e,it]) I (fun b ob hb eb=>?_) hf (RD _) ?_
   ·have hb':b≠e/\b≠it:=by simpa using hb
    exact (hs2.2 b hb'.1).trans (hk b ob hb'.1 hb'.2 eb)
   ·exact ⟨by show (2:Nat)<=RL;decide,[.int i s.toks,u],.cons ⟨_,rfl⟩ (.cons ru .nil),_,ht2,rfl,0,rfl,rfl⟩
  ·have hb':b=e\/b=it:=by simpa using hb
   have hn:=(hf b hb).1
   obtain ⟨o,ho2,_⟩:=st2
   rw [bA]
   ·exact hn
   ·rcases hb' with rfl|rfl
    ·exact RT hlt
    ·exact RT (RH ho2)
 done:=by
  intro X hP hw hK hc i a1Z s σ H E I hf ⟨old,st,st2⟩ hg
  subst hP hw hK
  obtain ⟨xs,hq,hx⟩:=hg
  obtain ⟨its,rv,p,hz⟩:=I.list hq
  have hl:=rv.length
  refine wpAny_pyNext_enum_end (I.ok.hd hc) st st2 p.isList (by simp;omega) fun h' eb=>⟨rfl,v8 (t':=s.toks) (ch:=[e,it]) I (fun b o hb z=>eb b o ?_ z) hf⟩
  have hb':b≠e/\b≠it:=by simpa using hb
  exact hb'.2
 self:=fun _ _ _ _ _ ⟨old,st,_⟩ h=>a0H st h
structure QJT (X:Cx)(e:RI)(m:MI):Prop where
 h:∀ es k p,PI X (.Tuple es k p) e (jT X.K m)
theorem QJ.t {X:Cx}{e:RI}{m:MI}(h:QJ X e m):QJT X e m:=⟨fun es k p=>h.h _⟩
noncomputable def lV (x:D):gG:=fun μ i=>(bJ μ x).map fun xs=>(xs[i]?).map fun d=>.tup [.int i,d]
noncomputable def lW (ms:MA):MI:=fun ρ μ=>(ms ρ μ).bind fun p=>match p.1 with
 | [x]=>(dO p.2 x).map fun xs=>(lV x,xs.length+1,p.2)
 | _=>none
theorem Li {K:Rn}{π:Nat->Addr}{μ:Hm}{H:Hp}{v:V}{x:D}{xs:List D}(R:Rp K π H μ)(h:IsD K π μ.length H v x)(hs:dO μ x=some xs):∃ a,v=.ref a/\(∃ vs,SqL K H a vs)/\Wk K (v9 K a) (lV x) π μ.length H:=by
 have hw:bJ μ x=some xs:=by
  cases x with
  | rol ys=>exact hs
  | loc b=>exact hs
  | _=>cases hs
 obtain ⟨p,vs,rfl,hq,_⟩:=lQ R h hs
 refine ⟨p,rfl,⟨vs,hq⟩,?_⟩
  -- the list as it stands later
 have later:∀ π' μ' H',Ext π μ.length H π' μ'.length H'->Rp K π' H' μ'->∀ ys,bJ μ' x=some ys->∃ ws,SqL K H' p ws/\IsDs K π' μ'.length H' ws ys:=fun π' μ' H' e R' ys hy=>by
  have i':=h.mono e
  have hl:dO μ' x=some ys:=by
   cases x with
   | rol zs=>exact hy
   | loc b=>exact hy
   | _=>cases hs
  obtain ⟨p',ws,e1,q1,d1⟩:=lQ R' i' hl
  cases e1
  exact ⟨ws,q1,d1⟩
 refine ⟨fun π' μ' H' i e R' z=>?_,fun π' μ' H' i d e R' z=>?_⟩
 ·obtain ⟨ys,h1,h2⟩:=Rv.mp z
  obtain ⟨ws,q1,d1⟩:=later π' μ' H' e R' ys h1
  have h3:ys[i]? = none:=by
   cases q:ys[i]? with
   | none=>rfl
   | some d=>rw [q] at h2;cases h2
  exact ⟨ws,q1,by rw [d1.length];exact Su.mp h3⟩
 ·obtain ⟨ys,h1,h2⟩:=Rv.mp z
  obtain ⟨d',h3,h4⟩:=Rv.mp h2
  subst h4
  obtain ⟨ws,q1,d1⟩:=later π' μ' H' e R' ys h1
  obtain ⟨v,h5,h6⟩:=d1.get h3
  refine ⟨⟨ws,v,q1,h5⟩,?_⟩
  rintro y H2 ⟨t,v',rfl,hn,rfl,hv⟩
  have:=hv ws q1
  rw [h5] at this
  cases this
  obtain ⟨e2,R2⟩:=R'.fresh (o:=.tup [.int i,v]) hn
  exact ⟨e2,R2,.tup (.of cG) (.cons (.int _) (.cons (h6.mono e2) .nil))⟩
noncomputable def Lj (K:Rn)(ta:TA):TI:=fun σ H R=>ta σ H fun vs H1=>∃ a,vs=[.ref a]/\(∃ xs,SqL K H1 a xs)/\R (v9 K a) H1
open PyProof.Rows in
theorem Lk {X:Cx}{a:RI}{ta:TA}{p pos pt:TC}{es:List RI}{kx:Nat}(hg:Gl X "enumerate") (hm:X.mg "enumerate" = none) (ha:PA X [a] ta)(hs:Sj [a] X.env=[(false,eval a X.env)]):PI X (.Tuple es kx pt) (.Call (.Name "enumerate" p) [a] [] pos) (Lj X.K ta):=by
 intro a1Z s σ H R I h
 refine Call_ (iE I hg hm Boot.«enumerate» (callWith_type1 (aQ (ha pos a1Z s σ H _ I h) fun us s1 ⟨vs,H1,I1,r1,q1⟩=>?_) hs rfl))
 obtain ⟨a0,rfl,⟨ws,hq⟩,q⟩:=q1
 obtain ⟨u,rfl,ru⟩:=fU r1
 cases ru
 obtain ⟨its,rv,pl,hz⟩:=I1.list hq
 refine call_enumerate_list pl.isList fun h' he hit hsz hk=>?_
 refine a0H he ?_
 have I2:Inv X a1Z σ H1 { s1 with heap:=h' }:=I1.kept (t':=s1.toks) hk
 refine ⟨s1.heap.objs.size+1,[s1.heap.objs.size+1,s1.heap.objs.size],_,_,H1,rfl,I2,Lh a0 _ _ (Nat.succ_ne_self _),⟨_,he,hit⟩,fun b hb=>?_,q⟩
 have hb':b=s1.heap.objs.size+1\/b=s1.heap.objs.size:=by simpa using hb
 rcases hb' with rfl|rfl
 ·exact I1.fpOk (Vo _) (I1.hok.fresh (Vo _))
 ·exact I1.fpOk (RD _) (I1.hok.fresh (RD _))
theorem Ll {X:Cx}{a:RI}{ms:MA}{n:Nat}{p pos:TC}(hgl:Gl X "enumerate") (hmg:X.mg "enumerate" = none) (ha:QA X [a] ms n):QJT X (.Call (.Name "enumerate" p) [a] [] pos) (lW ms):=⟨fun es kx pt a1Z s σ H R I hw=>by
 have hs:=ha.s
 rw [Sx,RF] at hs
 obtain ⟨π,ρ,μ,src,n',μ',Rr,E,hm,k⟩:=hw
 obtain ⟨⟨x,μ1⟩,h1,hm⟩:=Rl.mp hm
 refine Lk hgl hmg ha.h (eW hs.1) a1Z s σ H R I ⟨π,ρ,μ,x,μ1,Rr,E,h1,fun π1 vs H1 e1 R1 i1=>?_⟩
 dsimp only at hm
 split at hm
 ·rename_i x
  obtain ⟨xs,h2,hm⟩:=Rv.mp hm
  cases hm
  cases i1 with
  | cons i1 t1=>
   cases t1
   obtain ⟨a0,rfl,hq,W⟩:=Li R1 i1 h2
   exact ⟨a0,rfl,hq,k π1 H1 _ e1 R1 W⟩
 ·cases hm⟩
section
variable {X:Cx}{pos:TC}
theorem rO {tg iter:RI}{mi:MI}{g:MG}{mb:MS}{body:List Stmt}(hi:PI X tg iter (jT X.K mi))(hg:QG X tg g)(hb:QB X body mb)(hp:a0Z (R0 X.prog X.w) X.A X.env X.xe)(hc:X.calm=true)(hs:fM iter=true) :
  QS X (.For tg iter body [] pos) (bX mi g mb):=⟨iS (F9 hp hc hi hg.h hb.h (by intro z;cases iter<;>first|rfl|cases hs)) (by
 rintro E σ H ⟨π,ρ,μ,fl,ρ',μ',R,EN,hm,k⟩
 obtain ⟨⟨src,n,μ1⟩,h1,hm⟩:=Rl.mp hm
 refine ⟨π,ρ,μ,src,n,μ1,R,EN,h1,fun π1 H1 J e1 R1 W=>?_⟩
 have kk:mP X.K E π1 μ1.length H1 fl ρ' μ':=by
  cases fl with
  | nx=>exact fun π3 σ3 H3 e3 R3 E3=>k π3 σ3 H3 (e1.trans e3) R3 E3
  | bk=>exact fun π3 σ3 H3 e3 R3 E3=>k π3 σ3 H3 (e1.trans e3) R3 E3
  | ct=>exact fun π3 σ3 H3 e3 R3 E3=>k π3 σ3 H3 (e1.trans e3) R3 E3
  | rt d=>exact KC.after k e1
 exact IZ W kk .refl R1 (EN.mono e1) hm)⟩
theorem Lm {st:Stmt}{m m1 m2:MS}(h1:QS X st m1)(h2:QS X st m2)(h:∀ ρ μ r,m ρ μ=some r->m1 ρ μ=some r\/m2 ρ μ=some r):QS X st m:=⟨fun a1Z s σ H D I q=>by
 obtain ⟨π,ρ,μ,fl,ρ',μ',R,E,hm,k⟩:=q
 rcases h ρ μ _ hm with z|z
 ·exact h1.h a1Z s σ H D I ⟨π,ρ,μ,fl,ρ',μ',R,E,z,k⟩
 ·exact h2.h a1Z s σ H D I ⟨π,ρ,μ,fl,ρ',μ',R,E,z,k⟩⟩
noncomputable def lX (put:D->D->D->Hm->Option Hm)(o i v:ME):MS:=fun ρ μ=>(v ρ μ).bind fun p=>(o ρ p.2).bind fun q=>(i ρ q.2).bind fun r=>(put q.1 r.1 p.1 r.2).map fun μ'=>(.nx,ρ,μ')
noncomputable def nG:D->D->D->Hm->Option Hm
 | .loc a,.int i,d,μ=>match μ[a]? with
  | some (.lst xs)=>(fV xs.length i).map fun j=>μ.set a (.lst (xs.set j d))
  | _=>none
 | _,_,_,_=>none
noncomputable def oU:D->D->D->Hm->Option Hm
 | .loc a,y,d,μ=>match μ[a]? with
  | some (.dT kvs)=>(dG y).bind fun k=>if kvs.length<RL then some (μ.set a (.dT (dC kvs k d))) else none
  | _=>none
 | _,_,_,_=>none
noncomputable def jZ:D->D->D->Hm->Option Hm:=fun o i d μ=>match o with
 | .loc a=>match μ[a]? with
  | some (.dT _)=>oU o i d μ
  | _=>nG o i d μ
 | _=>none
noncomputable def cB:=lX jZ
theorem B2 {K:Rn}{π:Nat->Addr}{n:Nat}{H:Hp}:∀ {vs:List V}{ds:List D}(j:Nat){v:V}{d:D},IsDs K π n H vs ds->IsD K π n H v d->IsDs K π n H (vs.set j v) (ds.set j d)
 | _,_,j,_,_,.nil,h=>by simp;exact .nil
 | _,_,0,_,_,.cons _ t,h=>.cons h t
 | _,_,j+1,_,_,.cons h0 t,h=>.cons h0 (B2 j t h)
noncomputable def Ln (td ty tv:TE):TS:=fun D σ H=>tv σ H fun v H1=>td σ H1 fun x H2=>ty σ H2 fun y H3=>Au x y v H3 fun H4=>D.nx σ H4
open PyProof.Rows in
theorem Lo {o i value:RI}{pos':TC}{td ty tv:TE}(ho:PE X o td)(hi:PE X i ty)(hv:PE X value tv)(hs:VR value (some (.Subscript o i pos')) pos.line X.env=pure false):PS X (.Assign [.Subscript o i pos'] value pos) (Ln td ty tv):=by
 intro a1Z s σ H D I h
 refine Zx (aQ (hv a1Z s σ H _ I h) fun r s1 ⟨v,H1,I1,rv,q1⟩=>aQ (ho a1Z s1 σ H1 _ I1 q1) fun u s2 ⟨x,H2,I2,rx,q2⟩=>aQ (hi a1Z s2 σ H2 _ I2 q2) fun iv s3 ⟨y,H3,I3,ry,q3⟩=>?_) hs
 exact aQ (Hb a1Z s3 σ H3 x y v u iv r _ I3 rx ry rv q3) fun _ s4 ⟨H4,I4,q4⟩=>⟨σ,H4,I4,q4⟩
theorem Lp {o i e:RI}{mo mi me:ME}{tpos:TC}(ho:QE X o mo)(hi:QE X i mi)(he:QE X e me)(h:jS e=true):QS X (.Assign [.Subscript o i tpos] e pos) (lX nG mo mi me):=
 ⟨iS (Lo ho.h hi.h he.h (rA h)) (by
 rintro E σ H ⟨π,ρ,μ,fl,ρ',μ',R,EN,hm,k⟩
 obtain ⟨⟨x,μ1⟩,h1,hm⟩:=Rl.mp hm
 obtain ⟨⟨y,μ2⟩,h2,hm⟩:=Rl.mp hm
 obtain ⟨⟨z,μ3⟩,h3,hm⟩:=Rl.mp hm
 obtain ⟨μ4,h4,hm⟩:=Rv.mp hm
 cases hm
 refine ⟨π,ρ,μ,x,μ1,R,EN,h1,fun π1 v1 H1 e1 R1 i1=>⟨π1,ρ,μ1,y,μ2,R1,EN.mono e1,h2,fun π2 v2 H2 e2 R2 i2=>⟨π2,ρ,μ2,z,μ3,R2,(EN.mono e1).mono e2,h3,fun π3 v3 H3 e3 R3 i3=>?_⟩⟩⟩
 dsimp only at h4
 cases y with
 | loc a=>
  cases z with
  | int i=>
   simp only [nG] at h4
   split at h4
   ·rename_i xs hx
    obtain ⟨j,h5,h6⟩:=Rv.mp h4
    subst h6
    obtain ⟨vs,h7,h8⟩:=R3.lst _ xs hx
    have i2':=i2.mono e3
    cases i2'
    cases i3
    have hlt:=(Rw.mp hx).1
    have iv:=(i1.mono e2).mono e3
    refine ⟨_,vs,i,j,rfl,rfl,h7,by rw [h8.length];exact h5,?_⟩
    obtain ⟨e4,R4⟩:=R3.put (c:=.lst (xs.set j x)) (o:=.lst (vs.set j v1)) hlt h7 (.inl ⟨vs,rfl⟩) (B2 j h8 iv)
    exact k π3 σ _ (((e1.trans e2).trans e3).trans e4) R4 ((((EN.mono e1).mono e2).mono e3).mono e4)
   ·cases h4
  | _=>simp [nG] at h4
 | _=>simp [nG] at h4)⟩
theorem Lq {f f1 f2:D->D->D->Hm->Option Hm}{mo mi me:ME}(h:∀ x y z μ r,f x y z μ=some r->f1 x y z μ=some r\/f2 x y z μ=some r):∀ ρ μ r,lX f mo mi me ρ μ=some r->lX f1 mo mi me ρ μ=some r\/lX f2 mo mi me ρ μ=some r:=by
 intro ρ μ r hm
 obtain ⟨p,h1,hm⟩:=Rl.mp hm
 obtain ⟨q,h2,hm⟩:=Rl.mp hm
 obtain ⟨t,h3,hm⟩:=Rl.mp hm
 obtain ⟨μ',h4,hm⟩:=Rv.mp hm
 rcases h _ _ _ _ _ h4 with z|z
 ·exact .inl (Rl.mpr ⟨p,h1,Rl.mpr ⟨q,h2,Rl.mpr ⟨t,h3,Rv.mpr ⟨μ',z,hm⟩⟩⟩⟩)
 ·exact .inr (Rl.mpr ⟨p,h1,Rl.mpr ⟨q,h2,Rl.mpr ⟨t,h3,Rv.mpr ⟨μ',z,hm⟩⟩⟩⟩)
theorem B3 {st:Stmt}{i:Nat}:QS X st (aZ i bW):=⟨fun a1Z s σ H D I q=>by
 obtain ⟨π,ρ,μ,fl,ρ',μ',R,E,hm,k⟩:=q
 cases hm⟩
end
end L3
namespace L3
open PySem L2
noncomputable def B4 {α:Type}(xs:List α)(k:Nat)(d:α):List α:=xs.take k++d::xs.drop k
theorem Vals.ins {xs:List V}{us:List Ru}(h:Vals xs us)(k:Nat){v:V}{u:Ru}(r:RelV v u):Vals (B4 xs k v) (B4 us k u):=(h.take k).append (.cons r (h.drop k))
section
variable {X:Cx}
end
section
variable {X:Cx}
end
section
variable {X:Cx}{e o:RI}{mo:ME}{apos cpos:TC}{es:List RI}{ms:MA}{n:Nat}
end
noncomputable def iZ (is:List Int):List Int:=is.mergeSort fun a b=>decide (a<=b)
theorem Lr {is ns:List Int}(hp:ns.Perm is)(hs:ns.Pairwise (·<=·)):ns=iZ is:=by
 have h1:(iZ is).Perm is:=List.mergeSort_perm _ _
 have h2:(iZ is).Pairwise (·<=·):=by
  have:=List.pairwise_mergeSort (le:=fun a b:Int=>decide (a<=b)) (fun a b c h1 h2=>by simp only [decide_eq_true_eq] at *;omega) (fun a b=>by simp only [UT,decide_eq_true_eq];omega) is
  exact this.imp fun h=>by simpa using h
 exact V0 (le:=fun a b:Int=>a<=b) (fun a b _ _ h1 h2=>by omega) hs h2 (hp.trans h1.symm)
noncomputable def wA:MF:=fun ds μ=>match ds with
 | [x]=>(dO μ x).bind fun xs=>(rF xs).bind fun is=>if is.length<64 then some (.loc μ.length,μ++[.lst ((iZ is).map D.int)]) else none
 | _=>none
noncomputable def wB (K:Rn):List V->Hp->VK->Prop:=fun xs H Q=>∃ (p:Addr)(is:List Int),xs=[.ref p]/\SqL K H p (is.map V.int)/\is.length<64/\∀ l,H l=none->Q (.ref l) (aI H l (.lst ((iZ is).map V.int)))
theorem Ls {K:Rn}:dA K wA (wB K):=by
 intro π H μ xs d μ' vs Q R i hm k
 unfold wA at hm
 split at hm
 ·obtain ⟨ys,h1,hm⟩:=Rl.mp hm
  obtain ⟨is,h2,hm⟩:=Rl.mp hm
  split at hm
  ·rename_i hb
   cases hm
   cases i with
   | cons i t=>
    cases t
    obtain ⟨p,ws,rfl,q,hd⟩:=lQ R i h1
    rw [vT h2] at hd
    have:=ints_of' hd
    subst this
    refine ⟨p,is,rfl,q,hb,fun l hl=>?_⟩
    obtain ⟨e2,R2,_⟩:=R.alloc (c:=.lst ((iZ is).map D.int)) (o:=.lst ((iZ is).map V.int)) hl (rM _)
    exact k _ _ _ e2 R2 gW
  ·cases hm
 ·cases hm
theorem call_sortI {X:Cx}:CallR X (.builtin "sorted") (wB X.K):=by
 intro a1Z s σ H xs us Q I r h
 obtain ⟨p,is,rfl,hq,h64,k⟩:=h
 obtain ⟨u,rfl,ru⟩:=fU r
 cases ru
 obtain ⟨its,rv,pl,hz⟩:=I.list hq
 have hlen:=rv.length
 rw [Ro] at hlen
 refine a1p pl.isList (t7 rv) (by omega) fun out ns' a1 a2 a3=>?_
 obtain ⟨e,he⟩:=Xh s.heap its out
 have hn:H (s.heap.objs.size+1)=none:=I.hok.fresh (Vo _)
 have e1:ns'=iZ is:=Lr a2 a3
 subst e1
 refine ⟨.ref (s.heap.objs.size+1),_,I.laid (t':=s.toks) (a:=s.heap.objs.size+1) (o:=.lst ((iZ is).map V.int)) (fun b ob z=>Xb z) (Vo _) ?_,rfl,k _ hn⟩
 have hl2:(iZ is).length<=RL:=by
  have:=a2.length_eq
  have h5:=Sh
  omega
 refine ⟨by rw [Ro];exact hl2,out.toList,e,uB a1,?_⟩
 rw [he]
noncomputable def wC:MF:=fun ds μ=>match wA ds μ with
 | some r=>some r
 | none=>vU ds μ
theorem Lu {K:Rn}:dA K wC (fun xs H Q=>wB K xs H Q\/vP K xs H Q):=by
 intro π H μ xs d μ' vs Q R i hm k
 unfold wC at hm
 split at hm
 ·rename_i r hr
  cases hm
  exact .inl (Ls π H μ xs d μ' vs Q R i hr k)
 ·exact .inr (K2 π H μ xs d μ' vs Q R i hm k)
end L3
namespace L3
open PySem L2
section
variable {prog:R8}{w:Sy}{A:Sn}{E:Ru->RC->Prop}{s:RC}{r:Addr}{Q:Bool->RC->Prop}
theorem Lv:YQ (.type "list_reverseiterator") "__len__" = pure none:=by rw [a1k,ZW];kernel_rfl
theorem Lx:YQ (.type "list_reverseiterator") "__length_hint__" = pure (some (.builtin "list_reverseiterator.__length_hint__")):=by rw [a1k,ZW];kernel_rfl
theorem Lz (hT:s.TypeIs (.ref r) "list_reverseiterator") (h:Q false s):RQ (R0 prog w) A (W9 (.ref r)) Q E s:=by
 unfold W9
 refine Rm (Vs hT Lv ?_)
 dsimp only
 refine U0 (fun hab=>absurd hab (by decide +kernel)) (fun _=>?_)
 refine U0 (fun hab=>absurd hab (by decide)) (fun _=>?_)
 refine Rm (Vs hT Lx ?_)
 generalize bM:("list_reverseiterator.__length_hint__":String)=id0
 wp_delta
 rw [show splitId id0=some ("list_reverseiterator","__length_hint__") from by subst bM;decide +kernel]
 subst bM
 refine Rm (Ul (T:="list_reverseiterator") (b:=true) hT (by rw [isSubtype_type];kernel_rfl) ?_)
 refine U0 (fun hab=>absurd hab (by decide)) (fun _=>?_)
 refine U0 (fun _=>?_) (fun hab=>absurd (by decide +kernel) hab)
 refine U0 (fun hab=>absurd hab (by decide +kernel)) (fun _=>?_)
 exact Ry h
end
section
variable {prog:R8}{w:Sy}{A:Sn}{E:Ru->RC->Prop}{s:RC}{p a:Addr}{its:Array Ru}
theorem LA {R:YX->RC->Prop}(hh:A.handled=none)(hit:s.heap.IsRevIter p a ((its.size:Int) - 1))(hl:s.heap.IsList a its)(hap:a≠p)(S:Addr)(hSr:S≠p)(hSd:S≠a)(res:Ru)(c₀:Nat)(hS:s.heap.get? S=some { cls:=.type "list",data:=.seq #[] c₀ })
  (hR:∀ h' tk acc' c',(∀ b o,b≠S->b≠p->s.heap.get? b=some o->h'.get? b=some o)->h'.get? S=some { cls:=.type "list",dict:=none,data:=.seq acc' c',slots:=#[] }->ItemsOf (fun i v=>its[its.size - 1 - i]? = some v) acc' its.size->R (.ok (.ret res)) { s with heap:=h',toks:=tk }) (hn:its.size<=RL) :
  RQ (R0 prog w) A.in1 (TB (.ref S) (.ref p) res)
   (fun fin s'=>match fin with|.done f=>R (.ok f) s'|.again c'=>c'.quiet=true/\VY (R0 prog w) A c' R s') (fun e s'=>R (.error e) s') s:=by
 have hSf:S∉[p,a]:=by simp only [Sa,Z3,or_false,not_or];exact ⟨hSr,hSd⟩
 have W:=Walks.listRev (prog:=prog) (w:=w) (A:=A.in1) hh p a hap its
 have key:∀ (h:SO)(c₁ tk:Nat),h.IsRevIter p a ((its.size:Int) - 1)->h.IsList a its->(∀ b o,b≠S->s.heap.get? b=some o->h.get? b=some o)->
   h.get? S=some { cls:=.type "list",data:=.seq #[] c₁ }->VY (R0 prog w) A (.builtin "list.extend.loop" ⟨[.ref S,.ref p,res],[]⟩) R { s with heap:=h,toks:=tk }:=by
  intro h c₁ tk hst hst2 hk hS₁
  refine codeAny_extend_loopS W.toS hn S hSf res its.size 0 _ #[] c₁ rfl (SF _) ⟨SF _,by simpa using hst,hst2⟩ hS₁ (ItemsOf.nil _) fun s' acc' c' hm hS' hacc=>?_
  rw [Moved.eq_with hm]
  refine hR s'.heap s'.toks acc' c' (fun b o hb hbp e=>hm.heap b o (fun hmem=>?_) (hk b o hb e)) hS' hacc
  rcases Sa.mp hmem with e'|hmem
  ·exact hb e'
  ·exact hbp (Sk.mp hmem)
 unfold TB
 refine Rm (Zu (T:="list_reverseiterator") hit.typeIs ?_)
 have h1:UZ (.ref S) (.ref p)=false:=by simp [UZ,hSr]
 have h2:(T8 "list_reverseiterator" == T8 "list")=false:=by decide +kernel
 have h3:(T8 "list_reverseiterator" == T8 "tuple")=false:=by decide +kernel
 simp only [h1,h2,h3,Xa,RE,if_false]
 refine Rm (wpAny_pyIter_revIter hit ?_)
 refine Rm (SN (Lz hit.typeIs ?_))
 refine U0 (fun hab=>absurd hab (by decide +kernel)) (fun _=>Ry ⟨WC PySem.F.plain_extend_loop _,?_⟩)
 exact key _ c₀ s.toks hit hl (fun b o _ e=>e) hS
theorem LB {R:YX->RC->Prop}(hh:A.handled=none)(hit:s.heap.IsRevIter p a ((its.size:Int) - 1))(hl:s.heap.IsList a its)(hap:a≠p)(S:Addr)(hSr:S≠p)(hSd:S≠a)(hS:s.heap.get? S=some { cls:=.type "list",data:=.seq #[] })
  (hR:∀ h' tk acc' c',(∀ b o,b≠S->b≠p->s.heap.get? b=some o->h'.get? b=some o)->h'.get? S=some { cls:=.type "list",dict:=none,data:=.seq acc' c',slots:=#[] }->ItemsOf (fun i v=>its[its.size - 1 - i]? = some v) acc' its.size->R (.ok (.ret .none)) { s with heap:=h',toks:=tk }) (hn:its.size<=RL) :
  RQ (R0 prog w) A.in1 (Builtin.«list.__init__» ⟨[.ref S,.ref p],[]⟩)
   (fun fin s'=>match fin with|.done f=>R (.ok f) s'|.again c'=>c'.quiet=true/\VY (R0 prog w) A c' R s') (fun e s'=>R (.error e) s') s:=by
 show RQ _ _ (do let old <- XA (.ref S);a1F (.ref S) (fun _=>#[]);letGo old.toList.reverse;TB (.ref S) (.ref p) .none) _ _ s
 refine Rm ?_
 unfold XA
 refine Rm (Vf hS rfl (Ry ?_))
 show RQ _ _ (a0S S (fun _=>#[]) >>= fun _=>letGo (#[]:Array Ru).toList.reverse >>= fun _=>TB (.ref S) (.ref p) .none) _ _ s
 refine Rm (WW hS rfl ?_)
 have hS₂:=S2 (Ta (fun _=>(#[]:Array Ru))) hS rfl
 have oth:∀ b o,b≠S->s.heap.get? b=some o->(s.heap.update S (Ta (fun _=>(#[]:Array Ru)))).get? b=some o:=
  fun b o hb e=>(Tv _ _ (So hb)).trans e
 refine Rm (Xe ?_)
 refine LA hh (hit.at fun o e=>oth p o (So hSr) e) (let ⟨o,ho,x⟩:=hl;⟨o,oth a o (So hSd) ho,x⟩) hap S hSr hSd .none _ hS₂ (fun h' tk acc' c' hk hS' hacc=>?_) hn
 exact hR h' tk acc' c' (fun b o hb hb2 e=>hk b o hb hb2 (oth b o hb e)) hS' hacc
theorem LC {Q:Ru->RC->Prop}(hh:A.handled=none)(hit:s.heap.IsRevIter p a ((its.size:Int) - 1))(hl:s.heap.IsList a its)(hap:a≠p)(hn:its.size<=RL)
  (hQ:∀ h' tk acc' c',(∀ b o,b≠p->s.heap.get? b=some o->h'.get? b=some o)->h'.get? s.heap.objs.size=some { cls:=.type "list",dict:=none,data:=.seq acc' c',slots:=#[] }->ItemsOf (fun i v=>its[its.size - 1 - i]? = some v) acc' its.size->Q (.ref s.heap.objs.size) { s with heap:=h',toks:=tk }) :
  RQ (R0 prog w) A (call (.type "list") [.ref p]) Q E s:=by
 refine a1T (Q₁:=fun obj s₁=>obj=.ref s.heap.objs.size/\s₁ = { s with heap:=s.heap.push { cls:=.type "list",data:=.seq #[] } }) PySem.F.called_list (PySem.F.typeCall_list_1 _) PySem.F.entry_list_init
  (code_list_new _ ⟨rfl,rfl⟩) fun obj s₁ h₁=>?_
 obtain ⟨rfl,rfl⟩:=h₁
 have hS:(s.heap.push { cls:=.type "list",data:=.seq #[] }).get? s.heap.objs.size=some { cls:=.type "list",data:=.seq #[] }:=RK _ rfl
 have hp:p<s.heap.objs.size:=let ⟨o,ho,_⟩:=hit;RH ho
 have ha:a<s.heap.objs.size:=let ⟨o,ho,_⟩:=hl;RH ho
 refine ⟨⟨_,hS,rfl⟩,PySem.F.args_list_init_2 _ _,LB (A:=A.in1) hh (hit.at fun o e=>Rt _ e) (let ⟨o,ho,x⟩:=hl;⟨o,Rt _ ho,x⟩) hap _ (Te hp) (Te ha) hS (fun h' tk acc' c' hk hS' hacc=>?_) hn⟩
 exact ⟨rfl,hQ h' tk acc' c' (fun b o hb e=>hk b o (RT (RH e)) hb (Rt _ e)) hS' hacc⟩
end
noncomputable def B5 (K:Rn):List V->Hp->VK->Prop:=fun xs H Q=>∃ (p:Addr)(ys:List V),xs=[.ref p]/\SqL K H p ys/\∀ l,H l=none->Q (.ref l) (aI H l (.lst ys.reverse))
theorem B6:∀ {ys:List V}{its:List Ru},Vals ys its->Vals ys.reverse its.reverse
 | _,_,.nil=>.nil
 | _,_,.cons h t=>by
  rw [UY,UY]
  exact (B6 t).append (.cons h .nil)
theorem LF {X:Cx}{e:RI}{t:TA}{p p2 pos pos2:TC}(hc:X.calm=true)(hg:Gl X "list") (hm:X.mg "list" = none) (hg2:Gl X "reversed") (hm2:X.mg "reversed" = none) (ha:PA X [e] t)(hs:Sj [e] X.env=(false,eval e X.env)::Sj [] X.env) :
  PE X (.Call (.Name "list" p) [.Call (.Name "reversed" p2) [e] [] pos2] [] pos) (qL (B5 X.K) t):=by
 intro a1Z s σ H Q I h
 refine T5 (iE I hg hm Vx ?_ (by decide) (by decide))
 refine Tf ?_ rfl rfl
 show RQ _ _ (spliced ((false,eval (.Call (.Name "reversed" p2) [e] [] pos2) X.env)::Uz pos (Sj [] X.env))) _ _ s
 refine V2 (T5 (iE I hg2 hm2 ZI ?_ (by decide) (by decide)))
 refine Tf (aQ (ha pos2 a1Z s σ H _ I h) fun us s1 ⟨vs,H1,I1,r1,q1⟩=>?_) hs rfl
 obtain ⟨q,ys,rfl,hq,k⟩:=q1
 obtain ⟨u,rfl,ru⟩:=fU r1
 cases ru
 obtain ⟨its,r',pl,hz⟩:=I1.list hq
 have hlen:=r'.length
 have hl:=pl.isList
 have hq1:q<s1.heap.objs.size:=let ⟨o,ho,_⟩:=hl;RH ho
 refine call_reversed_list hl ?_
 refine Wg ?_
 refine LC (I1.ok.hd hc) (p:=s1.heap.objs.size) (a:=q) (its:=its.toArray) ⟨_,RK _ rfl,rfl,rfl⟩ (let ⟨o,ho,x⟩:=hl;⟨o,Rt _ ho,x⟩) (RT hq1) (by simp only [RS]<;>omega) fun h' tk acc' c' kp hS hacc=>?_
 have hac:acc'.toList=its.reverse:=by
  refine Vv fun i=>?_
  have hn:acc'.size=its.length:=by simpa using hacc.1
  by_cases hi:i<its.length
  ·have h1:=hacc.2 i acc'[i] (U9 (by omega))
   rw [Tp,U9 (by omega),<- h1,List.getElem?_reverse hi,RS,List.getElem?_toArray]
  ·rw [Ts (by rw [Tw];omega),Ts (by rw [UD];omega)]
 have hsz:(s1.heap.push (revObj q ((its.toArray.size:Int) - 1))).objs.size=s1.heap.objs.size+1:=by simp [Heap.push]
 rw [hsz] at hS ⊢
 refine ⟨.ref (s1.heap.objs.size+1),_,I1.laid (t':=tk) (a:=s1.heap.objs.size+1) (o:=.lst ys.reverse) (fun b o e=>kp b o (RT (RH e)) (Rt _ e)) (by omega) ⟨by rw [UD];exact hz,its.reverse,c',B6 r',by rw [<- hac];simpa using hS⟩,rfl,k _ (I1.hok.fresh (by omega))⟩
noncomputable def iH:MF:=fun ds μ=>match ds with
 | [.loc a]=>match μ[a]? with
  | some (.lst xs)=>some (.loc μ.length,μ++[.lst xs.reverse])
  | _=>none
 | _=>none
theorem LG {K:Rn}:dA K iH (B5 K):=by
 intro π H μ xs d μ' vs Q R i hm k
 unfold iH at hm
 split at hm
 ·rename_i a
  split at hm
  ·rename_i ys hy
   cases hm
   cases i with
   | cons i t=>
    cases t
    cases i
    obtain ⟨ws,h1,h2⟩:=R.lst a ys hy
    refine ⟨_,ws,rfl,.of h1,fun l hl=>?_⟩
    obtain ⟨e2,R2,_⟩:=R.alloc (c:=.lst ys.reverse) (o:=.lst ws.reverse) hl (BF h2)
    exact k _ _ _ e2 R2 gW
  ·cases hm
 ·cases hm
theorem LH {X:Cx}{e:RI}{ms:MA}{n:Nat}{p p2 pos pos2:TC}(hc:X.calm=true)(hm1:X.mg "list" = none) (hm2:X.mg "reversed" = none) (ha:QA X [e] ms n)(hg1:Gl X "list") (hg2:Gl X "reversed") :
  QE X (.Call (.Name "list" p) [.Call (.Name "reversed" p2) [e] [] pos2] [] pos) (aK iH ms):=by
 have hs:=ha.s
 rw [Sx,RF] at hs
 exact ⟨cM (LF hc hg1 hm1 hg2 hm2 ha.h (eW hs.1)) (uH LG)⟩
end L3
namespace L3
open PySem L2
noncomputable def wD:MF:=vZ
noncomputable def LI:MF:=vY
end L3
namespace L3
open PySem L2
noncomputable abbrev bL:=List (List Int×Addr×V)
noncomputable def bG (ps:bL)(ws:List Ru):List (List Int×Addr×Ru):=VZ (fun p w=>(p.1,p.2.1,w)) ps ws
theorem rP {P:R8}{w:Sy}:∀ (ps:bL)(ws:List Ru),VZ oH ps ws=(bG ps ws).map (a0y (T6 (Ut P w)))
 | [],_=>by simp [bG]
 | p::ps,[]=>by simp [bG]
 | p::ps,u::ws=>by
  have ih:=rP (P:=P) (w:=w) ps ws
  unfold bG at ih ⊢
  rw [Sq,Sq,RM,ih]
  rfl
theorem kI:∀ {ps:bL}{ws:List Ru},Vals (ps.map (·.2.2)) ws->(bG ps ws).map (·.1)=ps.map (·.1)
 | [],_,_=>by simp [bG]
 | p::ps,_,.cons r t=>by
  have ih:=kI (ps:=ps) t
  unfold bG at ih ⊢
  rw [Sq,RM,RM,ih]
theorem B7:∀ {ps:bL}{ws:List Ru}{x:List Int×Addr×Ru},x∈bG ps ws->∃ p∈ps,p.1=x.1/\p.2.1=x.2.1
 | [],_,x,h=>by simp [bG] at h
 | p::ps,[],x,h=>by simp [bG] at h
 | p::ps,u::ws,x,h=>by
  unfold bG at h
  rw [Sq] at h
  rcases Sa.mp h with e|h
  ·subst e;exact ⟨p,RX ..,rfl,rfl⟩
  ·obtain ⟨q,hq,e⟩:=B7 (ps:=ps) (ws:=ws) h
   exact ⟨q,RP _ hq,e⟩
noncomputable def dD (ps:bL)(k:List Int):Option V:=(ps.find? fun p=>decide (p.1=k)).map (·.2.2)
noncomputable def hU (ps:bL)(k:List Int)(b:Addr)(v:V):bL:=if (dD ps k).isSome then ps.map (fun p=>if p.1=k then (p.1,p.2.1,v) else p) else ps++[(k,b,v)]
theorem kJ:∀ {ps:bL}{ws:List Ru},Vals (ps.map (·.2.2)) ws->∀ k,RelO (dD ps k) ((VJ (bG ps ws) k).map (·.2))
 | [],_,.nil,k=>by simp [dD,bG,VJ];exact Uy
 | p::ps,_,.cons r t,k=>by
  have ih:=kJ (ps:=ps) t k
  unfold dD VJ bG at ih ⊢
  rw [Sq,SK,SK]
  by_cases e:p.1=k
  ·simp only [e,decide_true]
   exact r
  ·simp only [e,decide_false]
   exact ih
theorem B8 (ps:bL)(k:List Int)(b:Addr)(v:V):(hU ps k b v).length<=ps.length+1:=by
 unfold hU;split<;>simp
theorem B9 {k:List Int}{v:V}{u:Ru}(ru:RelV v u):∀ {ps:bL}{ws:List Ru},Vals (ps.map (·.2.2)) ws->
  ∃ ws',Vals ((ps.map fun p=>if p.1=k then (p.1,p.2.1,v) else p).map (·.2.2)) ws'/\(bG ps ws).map (putAt k u)=bG (ps.map fun p=>if p.1=k then (p.1,p.2.1,v) else p) ws'
 | [],_,.nil=>⟨[],.nil,by simp [bG]⟩
 | p::ps,_,.cons (b:=w) r t=>by
  obtain ⟨ws',h1,h2⟩:=B9 ru (ps:=ps) t
  by_cases e:p.1=k
  ·refine ⟨u::ws',?_,?_⟩
   ·rw [RM,RM,if_pos e]
    exact .cons ru h1
   ·unfold bG at h2 ⊢
    rw [Sq,RM,h2,RM,if_pos e,Sq]
    unfold putAt
    rw [if_pos e]
  ·refine ⟨w::ws',?_,?_⟩
   ·rw [RM,RM,if_neg e]
    exact .cons r h1
   ·unfold bG at h2 ⊢
    rw [Sq,RM,h2,RM,if_neg e,Sq]
    unfold putAt
    rw [if_neg e]
theorem Ca {k:List Int}{b:Addr}{v:V}{u:Ru}:∀ {ps:bL}{ws:List Ru},Vals (ps.map (·.2.2)) ws->bG ps ws++[(k,b,u)]=bG (ps++[(k,b,v)]) (ws++[u])
 | [],_,.nil=>by simp [bG]
 | p::ps,_,.cons r t=>by
  have ih:=Ca (k:=k) (b:=b) (v:=v) (u:=u) (ps:=ps) t
  unfold bG at ih ⊢
  rw [Sq,Tj,ih,Tj,Tj,Sq]
theorem Cb {ps:bL}{ws:List Ru}(r:Vals (ps.map (·.2.2)) ws)(k:List Int)(b:Addr){v:V}{u:Ru}(ru:RelV v u) :
  ∃ ws',Vals ((hU ps k b v).map (·.2.2)) ws'/\a0J (bG ps ws) k b u=bG (hU ps k b v) ws':=by
 have e:=(kJ r k).isSome_eq
 rw [Wa] at e
 unfold hU a0J
 rw [e]
 by_cases h:(VJ (bG ps ws) k).isSome=true
 ·rw [if_pos h,if_pos h]
  exact B9 ru r
 ·rw [if_neg h,if_neg h]
  refine ⟨ws++[u],?_,Ca r⟩
  rw [Se]
  exact a0D r ru
section
variable {X:Cx}{a1Z:List (Addr×TK)}{σ:St}{H:Hp}{s:RC}{a:Addr}{ps:bL}
noncomputable def dE (K:Rn)(H:Hp)(ps:bL):Prop:=∀ p∈ps,SqT K H p.2.1 (p.1.map V.int)
theorem iI (I:Inv X a1Z σ H s)(e:Rd H a (aS a ps))(hk:dE X.K H ps):(a == SW)=false/\ps.length<=RL /\
  ∃ ws,Vals (ps.map (·.2.2)) ws/\s.heap.DictOfH (T6 (Ut X.prog X.w)) a (bG ps ws):=by
 obtain ⟨⟨ws,r,hs,hl,o,es,ep,h1,h2,h3,h4,h5⟩,_⟩:=(show ObjOk X.prog X.w H s.heap a (aS a ps) from e.ok I.hok)
 refine ⟨hs,hl,ws,r,o,es,ep,h1,h2,h3,by rw [h4];exact rP ps ws,fun x hx=>?_,by rw [kI r];exact h5⟩
 obtain ⟨p,hp,e1,e2⟩:=B7 hx
 rw [<- e1,<- e2]
 exact kH I (hk p hp)
theorem rQ {P:R8}{w:Sy}{H':Hp}{h':SO}{ws:List Ru}(hs:(a == SW)=false)(hl:ps.length<=RL)(r:Vals (ps.map (·.2.2)) ws)(d:h'.DictOfH (T6 (Ut P w)) a (bG ps ws)):ObjOk P w H' h' a (aS a ps):=by
 obtain ⟨o,es,ep,h1,h2,h3,h4,_,h5⟩:=d
 refine ⟨⟨ws,r,hs,hl,o,es,ep,h1,h2,h3,by rw [h4,rP (P:=P) (w:=w)],by rw [<- kI r];exact h5⟩,⟨o,h1⟩,?_⟩
 rintro g1 g2 ⟨ws,r,hs,hl,o,es,ep,h1,h2,h3,h4,h5⟩ hh
 exact ⟨ws,r,hs,hl,o,es,ep,hh o h1,h2,h3,h4,h5⟩
theorem LJ (I:Inv X a1Z σ H s)(e:Rd H a (aS a ps))(hk:dE X.K H ps):s.TypeIs (.ref a) "dict":=by
 obtain ⟨_,_,ws,_,d⟩:=iI I e hk
 exact d.typeIs
theorem kK {A:Sn}(hu:A.units+1<TN):(T6 (Ut X.prog X.w)).room A.in1:=by
 show A.in1.units<TN
 rw [lF];omega
variable {A:Sn}{E:Ru->RC->Prop}{b:Addr}{k:List Int}{v:V}
theorem LK {Q:Ru->RC->Prop}(hu:A.units+1<TN)(I:Inv X a1Z σ H s)(e:Rd H a (aS a ps))(hk:dE X.K H ps)(hb:SqT X.K H b (k.map V.int))(hv:dD ps k=some v)
  (h:∀ w' s',Inv X a1Z σ H s'->RelV v w'->Q w' s'):RQ (R0 X.prog X.w) A (YH (.ref a) (.ref b)) Q E s:=by
 obtain ⟨hs,hl,ws,r,d⟩:=iI I e hk
 obtain ⟨w',hw,rw'⟩:=RelO.some_of (v:=v) (o:=(VJ (bG ps ws) k).map (·.2)) (by rw [<- hv];exact kJ r k)
 obtain ⟨p,hp,hp2⟩:=Rv.mp hw
 refine wpAny_getItem_heap (kK hu) (kH I hb) d hp ?_
 rw [hp2]
 exact h w' _ (I.tok _) rw'
theorem LL {Q:Ru->RC->Prop}(hu:A.units+1<TN)(I:Inv X a1Z σ H s)(e:Rd H a (aS a ps))(hk:dE X.K H ps)(hb:SqT X.K H b (k.map V.int))
  (h:∀ s',Inv X a1Z σ H s'->Q (.bool (dD ps k).isSome) s'):RQ (R0 X.prog X.w) A (S4 .In (.ref b) (.ref a)) Q E s:=by
 obtain ⟨hs,hl,ws,r,d⟩:=iI I e hk
 refine wpAny_in_heap (kK hu) (kH I hb) hs d ?_
 have q:=(kJ r k).isSome_eq
 rw [Wa] at q
 rw [<- q]
 exact h _ (I.tok _)
theorem LM {Q:Ru->RC->Prop}(hu:A.units+1<TN)(I:Inv X a1Z σ H s)(e:Rd H a (aS a ps))(hk:dE X.K H ps)(hb:SqT X.K H b (k.map V.int))
  (h:∀ s',Inv X a1Z σ H s'->Q (.bool (!(dD ps k).isSome)) s'):RQ (R0 X.prog X.w) A (S4 .NotIn (.ref b) (.ref a)) Q E s:=by
 obtain ⟨hs,hl,ws,r,d⟩:=iI I e hk
 refine a1o (kK hu) (kH I hb) hs d ?_
 have q:=(kJ r k).isSome_eq
 rw [Wa] at q
 rw [<- q]
 exact h _ (I.tok _)
theorem LN {Q:Unit->RC->Prop}{u:Ru}(hu:A.units+1<TN)(I:Inv X a1Z σ H s)(e:H a=some (aS a ps))(hk:dE X.K H ps)(hb:SqT X.K H b (k.map V.int))(hz:ps.length<RL)(ru:RelV v u)
  (h:∀ s',Inv X a1Z σ (aI H a (aS a (hU ps k b v))) s'->Q () s'):RQ (R0 X.prog X.w) A (setItem (.ref a) (.ref b) u) Q E s:=by
 obtain ⟨hs,hl,ws,r,d⟩:=iI I (.of e) hk
 have hx:(bG ps ws).length<=RL:=by
  have:=congrArg Ss (kI r)
  rw [Ro,Ro] at this
  omega
 refine wpAny_setItem_heap (hsz:=hx) (kK hu) (kH I hb) d fun h' d' hs'=>h _ ?_
 obtain ⟨ws',r',ex⟩:=Cb r k b ru
 rw [ex] at d'
 have he:∃ q,h'.get? a=some q:=let ⟨q,_,_,hq,_⟩:=d';⟨q,hq⟩
 exact t6 I (by rw [e];exact Uy) hs' he (rQ hs (by have:=B8 ps k b v;omega) r' d')
end
noncomputable def IsTs (K:Rn)(π:Nat->Addr)(n:Nat)(H:Hp):bL->List (List Int×D)->Prop:=VU fun p q=>p.1=q.1/\SqT K H p.2.1 (p.1.map V.int)/\IsD K π n H p.2.2 q.2
section
variable {K:Rn}{π:Nat->Addr}{n:Nat}{H:Hp}{μ:Hm}
theorem LO {b:Addr}{k:List Int}(h:IsD K π n H (.ref b) (.tup (k.map D.int))):SqT K H b (k.map V.int):=by
 cases h with
 | tup q t=>rw [ints_of' t] at q;exact q
theorem IsTs.of:∀ {ps:bL}{kvs:List (List Int×D)},ps.map (·.1)=kvs.map (·.1)->IsDs K π n H (ps.map fun p=>V.ref p.2.1) (kvs.map fun k=>D.tup (k.1.map D.int))->IsDs K π n H (ps.map (·.2.2)) (kvs.map (·.2))->IsTs K π n H ps kvs
 | [],[],_,_,_=>.nil
 | [],_::_,h,_,_=>by cases h
 | _::_,[],h,_,_=>by cases h
 | p::ps,q::kvs,h,h2,h3=>by
  cases h2 with
  | cons k1 k2=>
   cases h3 with
   | cons v1 v2=>
    rw [RM,RM,Zd] at h
    refine .cons ⟨h.1,?_,v1⟩ (IsTs.of h.2 k2 v2)
    rw [h.1]
    exact LO k1
theorem IsTs.keys:∀ {ps:bL}{kvs:List (List Int×D)},IsTs K π n H ps kvs->dE K H ps
 | _,_,.nil=>fun p hp=>nomatch hp
 | _,_,.cons h t=>fun p hp=>by
  rcases Sa.mp hp with e|hp
  ·subst e;exact h.2.1
  ·exact IsTs.keys t p hp
theorem IsTs.to:∀ {ps:bL}{kvs:List (List Int×D)},IsTs K π n H ps kvs->ps.map (·.1)=kvs.map (·.1)/\IsDs K π n H (ps.map fun p=>V.ref p.2.1) (kvs.map fun k=>D.tup (k.1.map D.int))/\IsDs K π n H (ps.map (·.2.2)) (kvs.map (·.2))
 | _,_,.nil=>⟨rfl,.nil,.nil⟩
 | _,_,.cons (a:=p) (b:=q) h t=>by
  obtain ⟨h1,h2,h3⟩:=IsTs.to t
  refine ⟨by rw [RM,RM,h.1,h1],.cons ?_ h2,.cons h.2.2 h3⟩
  show IsD K π n H (.ref p.2.1) (.tup (q.1.map D.int))
  rw [<- h.1]
  exact .tup h.2.1 (rM p.1)
theorem IsTs.val (k:List Int):∀ {ps:bL}{kvs:List (List Int×D)},IsTs K π n H ps kvs->(dD ps k=none/\bO kvs k=none)\/∃ v d,dD ps k=some v/\bO kvs k=some d/\IsD K π n H v d
 | _,_,.nil=>.inl ⟨rfl,rfl⟩
 | _,_,.cons (a:=p) (b:=q) h t=>by
  have ih:=IsTs.val k t
  unfold dD bO at ih ⊢
  rw [SK,SK,<- h.1]
  by_cases e:p.1=k
  ·simp only [e,decide_true]
   exact .inr ⟨_,_,rfl,rfl,h.2.2⟩
  ·simp only [e,decide_false]
   exact ih
theorem IsTs.put {ps:bL}{kvs:List (List Int×D)}(h:IsTs K π n H ps kvs)(k:List Int){b:Addr}{v:V}{d:D}(hb:SqT K H b (k.map V.int))(hv:IsD K π n H v d):IsTs K π n H (hU ps k b v) (dC kvs k d):=by
 have e:(dD ps k).isSome=(bO kvs k).isSome:=by
  rcases h.val k with ⟨h1,h2⟩|⟨v,d,h1,h2,_⟩<;>rw [h1,h2]<;>rfl
 have repl:∀ {ps:bL}{kvs:List (List Int×D)},IsTs K π n H ps kvs->IsTs K π n H (ps.map fun p=>if p.1=k then (p.1,p.2.1,v) else p) (kvs.map fun p=>if p.1=k then (p.1,d) else p):=by
  intro ps kvs h
  unfold IsTs at h
  induction h with
  | nil=>exact .nil
  | @cons p q ps qs h t ih=>
   rw [RM,RM]
   refine .cons ?_ ih
   by_cases z:p.1=k
   ·rw [if_pos z,if_pos (h.1.symm.trans z)]
    exact ⟨h.1,h.2.1,hv⟩
   ·rw [if_neg z,if_neg fun y=>z (h.1.trans y)]
    exact h
 unfold hU dC
 rw [e]
 split
 ·exact repl h
 ·exact a0D h ⟨rfl,hb,hv⟩
theorem eY {a:Nat}{kvs:List (List Int×D)}(R:Rp K π H μ)(h:μ[a]? = some (.dT kvs)):∃ ps,H (π a)=some (aS (π a) ps)/\IsTs K π μ.length H ps kvs:=by
 obtain ⟨ps,h1,h2,h3,h4⟩:=R.dT a kvs h
 exact ⟨ps,h1,.of h2 h3 h4⟩
theorem oV {a:Nat}{kvs:List (List Int×D)}(R:Rp K π H μ)(h:μ[a]? = some (.dF kvs)):∃ ob ps,H (π a)=some (.frz ob (aS (π a) ps))/\IsTs K π μ.length H ps kvs:=by
 obtain ⟨ob,ps,h1,h2,h3,h4⟩:=R.dF a kvs h
 exact ⟨ob,ps,h1,.of h2 h3 h4⟩
theorem l0 {v:V}{x:D}{k:List Int}(h:IsD K π n H v x)(e:dG x=some k):∃ b,v=.ref b/\SqT K H b (k.map V.int):=by
 have:=BM e
 subst this
 cases h with
 | tup q t=>rw [ints_of' t] at q;exact ⟨_,rfl,q⟩
end
noncomputable def gM:ME:=fun _ μ=>some (.loc μ.length,μ++[.dT []])
section
variable {X:Cx}{pos:TC}
theorem LP {P:R8}{w:Sy}{H:Hp}(h:SO)(hb:SW<h.objs.size):ObjOk P w H (h.push { cls:=.type "dict",data:=.dict #[] }) h.objs.size (aS h.objs.size []):=
 rQ (ws:=[]) (beq_eq_false_iff_ne.mpr (So (RT hb))) (SF _) .nil (a1E h)
noncomputable def LQ:TE:=fun _ H Q=>∀ p,H p=none->Q (.ref p) (aI H p (aS p []))
theorem LR:PE X (.Dict [] [] pos) LQ:=fun a1Z s σ H Q I h=>
 wpAny_Dict_empty ⟨.ref s.heap.objs.size,_,I.laid (a:=s.heap.objs.size) (o:=aS s.heap.objs.size []) (t':=s.toks) (fun _ _ q=>Rt _ q) (RD _) (LP s.heap I.big),rfl,h _ (I.hok.fresh (RD _))⟩
theorem LS:QE X (.Dict [] [] pos) gM:=⟨cM LR (by
 rintro σ H Q ⟨π,ρ,μ,d,μ',R,E,hm,k⟩ p hp
 cases hm
 obtain ⟨e1,R1,q1⟩:=R.alloc (c:=.dT []) (o:=aS p []) hp ⟨[],rfl,rfl,.nil,.nil⟩
 exact k _ _ _ e1 R1 gW)⟩
end
noncomputable def oW:D->D->Hm->Option (D×Hm)
 | .loc a,y,μ=>match μ[a]? with
  | some (.dT kvs)=>(dG y).bind fun k=>(bO kvs k).map fun d=>(d,μ)
  | some (.dF kvs)=>(dG y).bind fun k=>(bO kvs k).map fun d=>(d,μ)
  | _=>none
 | _,_,_=>none
section
variable {X:Cx}{a b e:RI}{ma mb me:ME}{pos tpos:TC}{td ty tv:TE}
noncomputable def Cd (K:Rn):R2:=fun x y H Q=>∃ a b ps k v,x=.ref a/\y=.ref b/\Rd H a (aS a ps)/\dE K H ps/\SqT K H b (k.map V.int)/\dD ps k=some v/\Q v H
theorem LU (hu:X.A.units+1<TN)(ho:PE X a td)(hi:PE X b ty)(hs:Ak b):PE X (.Subscript a b pos) (fun σ H Q=>td σ H fun x H1=>ty σ H1 fun y H2=>Cd X.K x y H2 Q):=by
 intro a1Z s σ H Q I h
 refine GN PySem.F.slot_dict_getitem.lookup hs (aQ (ho a1Z s σ H _ I h) fun u s1 ⟨x,H1,I1,rx,q1⟩=>aQ (hi a1Z s1 σ H1 _ I1 q1) fun iv s2 ⟨y,H2,I2,ry,a,b,ps,k,v,ex,ey,e,hk,hb,hv,q2⟩=>?_)
 subst ex ey
 obtain rfl:u=RJ a:=rx
 obtain rfl:iv=RJ b:=ry
 exact ⟨LJ I2 e hk,LK hu I2 e hk hb hv fun w' s3 I3 rw'=>⟨v,H2,I3,rw',q2⟩⟩
theorem LV {K:Rn}:cP K oW (Cd K):=by
 intro π H μ x y d μ' vx vy Q R ix iy hm k
 unfold oW at hm
 split at hm
 ·split at hm
  ·rename_i kvs hc
   obtain ⟨kk,h1,hm⟩:=Rl.mp hm
   obtain ⟨d',h2,hm⟩:=Rv.mp hm
   cases hm
   cases ix
   obtain ⟨ps,e1,T⟩:=eY R hc
   obtain ⟨b,rfl,hb⟩:=l0 iy h1
   rcases T.val kk with ⟨_,z⟩|⟨v,d2,z1,z2,z3⟩
   ·rw [z] at h2;cases h2
   ·rw [z2] at h2
    cases h2
    exact ⟨_,b,ps,kk,v,rfl,rfl,.of e1,T.keys,hb,z1,k π _ H .refl R z3⟩
  ·rename_i kvs hc
   obtain ⟨kk,h1,hm⟩:=Rl.mp hm
   obtain ⟨d',h2,hm⟩:=Rv.mp hm
   cases hm
   cases ix
   obtain ⟨ob,ps,e1,T⟩:=oV R hc
   obtain ⟨b,rfl,hb⟩:=l0 iy h1
   rcases T.val kk with ⟨_,z⟩|⟨v,d2,z1,z2,z3⟩
   ·rw [z] at h2;cases h2
   ·rw [z2] at h2
    cases h2
    exact ⟨_,b,ps,kk,v,rfl,rfl,.inr ⟨ob,e1⟩,T.keys,hb,z1,k π _ H .refl R z3⟩
  ·cases hm
 ·cases hm
theorem LW {k:Nat}(hr:Room k X.A)(ha:QE X a ma)(hb:QE X b mb)(h:m9 b=true):QE X (.Subscript a b pos) (aB oW ma mb):=⟨cM (LU (gE hr) ha.h hb.h (Bl h)) (oI LV)⟩
end
section
variable {X:Cx}{o i e:RI}{mo mi me:ME}{pos tpos:TC}{td ty tv:TE}
noncomputable def LX (K:Rn)(td ty tv:TE):TS:=fun D σ H=>tv σ H fun v H1=>td σ H1 fun x H2=>ty σ H2 fun y H3=>∃ a b ps k,x=.ref a/\y=.ref b/\H3 a=some (aS a ps)/\dE K H3 ps/\SqT K H3 b (k.map V.int)/\ps.length<RL/\D.nx σ (aI H3 a (aS a (hU ps k b v)))
theorem LY (hu:X.A.units+1<TN)(ho:PE X o td)(hi:PE X i ty)(hv:PE X e tv)(hs:VR e (some (.Subscript o i tpos)) pos.line X.env=pure false) :
  PS X (.Assign [.Subscript o i tpos] e pos) (LX X.K td ty tv):=by
 intro a1Z s σ H D I h
 refine Zx (aQ (hv a1Z s σ H _ I h) fun r s1 ⟨v,H1,I1,rv,q1⟩=>aQ (ho a1Z s1 σ H1 _ I1 q1) fun u s2 ⟨x,H2,I2,rx,q2⟩=>aQ (hi a1Z s2 σ H2 _ I2 q2) fun iv s3 ⟨y,H3,I3,ry,a,b,ps,k,ex,ey,e,hk,hb,hz,q3⟩=>?_) hs
 subst ex ey
 obtain rfl:u=RJ a:=rx
 obtain rfl:iv=RJ b:=ry
 exact LN hu I3 e hk hb hz rv fun s4 I4=>⟨σ,_,I4,q3⟩
theorem LZ {kk:Nat}(hr:Room kk X.A)(ho:QE X o mo)(hi:QE X i mi)(he:QE X e me)(h:jS e=true):QS X (.Assign [.Subscript o i tpos] e pos) (lX oU mo mi me):=
 ⟨iS (LY (Hr hr) ho.h hi.h he.h (rA h)) (by
 rintro E σ H ⟨π,ρ,μ,fl,ρ',μ',R,EN,hm,k⟩
 obtain ⟨⟨x,μ1⟩,h1,hm⟩:=Rl.mp hm
 obtain ⟨⟨y,μ2⟩,h2,hm⟩:=Rl.mp hm
 obtain ⟨⟨z,μ3⟩,h3,hm⟩:=Rl.mp hm
 obtain ⟨μ4,h4,hm⟩:=Rv.mp hm
 cases hm
 refine ⟨π,ρ,μ,x,μ1,R,EN,h1,fun π1 v1 H1 e1 R1 i1=>⟨π1,ρ,μ1,y,μ2,R1,EN.mono e1,h2,fun π2 v2 H2 e2 R2 i2=>⟨π2,ρ,μ2,z,μ3,R2,(EN.mono e1).mono e2,h3,fun π3 v3 H3 e3 R3 i3=>?_⟩⟩⟩
 cases y with
 | loc a=>
  simp only [oU] at h4
  split at h4
  ·rename_i kvs hc
   obtain ⟨kk,h5,h4⟩:=Rl.mp h4
   split at h4
   ·rename_i hz
    cases h4
    have i2':=i2.mono e3
    cases i2' with
    | loc hlt=>
     obtain ⟨ps,f1,T⟩:=eY R3 hc
     obtain ⟨b,rfl,hb⟩:=l0 i3 h5
     have hv:=(i1.mono e2).mono e3
     have T':=T.put kk hb hv
     obtain ⟨g1,g2,g3⟩:=T'.to
     have hpl:ps.length<RL:=by
      have:=congrArg Ss (T.to).1
      rw [Ro,Ro] at this
      omega
     refine ⟨_,b,ps,kk,rfl,rfl,f1,T.keys,hb,hpl,?_⟩
     obtain ⟨e4,R4⟩:=R3.put (c:=.dT (dC kvs kk x)) (o:=aS _ (hU ps kk b v1)) hlt f1 (.inr (.inr ⟨_,rfl⟩)) ⟨_,rfl,g1,g2,g3⟩
     exact k π3 σ _ (((e1.trans e2).trans e3).trans e4) R4 ((((EN.mono e1).mono e2).mono e3).mono e4)
   ·cases h4
  ·cases h4
 | _=>simp [oU] at h4)⟩
end
noncomputable def oX (neg:Bool):D->D->Hm->Option (D×Hm)
 | x,.loc a,μ=>match μ[a]? with
  | some (.dT kvs)=>(dG x).map fun k=>(.bl (if neg then !(bO kvs k).isSome else (bO kvs k).isSome),μ)
  | some (.dF kvs)=>(dG x).map fun k=>(.bl (if neg then !(bO kvs k).isSome else (bO kvs k).isSome),μ)
  | _=>none
 | _,_,_=>none
noncomputable def wF (K:Rn)(neg:Bool):R2:=fun x y H Q=>∃ a b ps k,x=.ref b/\y=.ref a/\Rd H a (aS a ps)/\dE K H ps/\SqT K H b (k.map V.int)/\Q (.bl (if neg then !(dD ps k).isSome else (dD ps k).isSome)) H
theorem Ce {X:Cx}(hu:X.A.units+1<TN):OpR X (S4 .In) (wF X.K false):=by
 intro a1Z s σ H x y v u Q I rx ry h
 obtain ⟨a,b,ps,k,rfl,rfl,e,hk,hb,q⟩:=h
 obtain rfl:v=RJ b:=rx
 obtain rfl:u=RJ a:=ry
 exact LL hu I e hk hb fun s' I'=>⟨.bl _,H,I',rfl,q⟩
theorem Cf {X:Cx}(hu:X.A.units+1<TN):OpR X (S4 .NotIn) (wF X.K true):=by
 intro a1Z s σ H x y v u Q I rx ry h
 obtain ⟨a,b,ps,k,rfl,rfl,e,hk,hb,q⟩:=h
 obtain rfl:v=RJ b:=rx
 obtain rfl:u=RJ a:=ry
 exact LM hu I e hk hb fun s' I'=>⟨.bl _,H,I',rfl,q⟩
theorem rR {K:Rn}{neg:Bool}:cP K (oX neg) (wF K neg):=by
 intro π H μ x y d μ' vx vy Q R ix iy hm k
 unfold oX at hm
 split at hm
 ·split at hm
  ·rename_i kvs hc
   obtain ⟨kk,h1,hm⟩:=Rv.mp hm
   cases hm
   cases iy
   obtain ⟨ps,e1,T⟩:=eY R hc
   obtain ⟨b,rfl,hb⟩:=l0 ix h1
   have e:(dD ps kk).isSome=(bO kvs kk).isSome:=by
    rcases T.val kk with ⟨h1,h2⟩|⟨v,d,h1,h2,_⟩<;>rw [h1,h2]<;>rfl
   refine ⟨_,b,ps,kk,rfl,rfl,.of e1,T.keys,hb,?_⟩
   rw [e]
   exact k π _ H .refl R (.bl _)
  ·rename_i kvs hc
   obtain ⟨kk,h1,hm⟩:=Rv.mp hm
   cases hm
   cases iy
   obtain ⟨ob,ps,e1,T⟩:=oV R hc
   obtain ⟨b,rfl,hb⟩:=l0 ix h1
   have e:(dD ps kk).isSome=(bO kvs kk).isSome:=by
    rcases T.val kk with ⟨h1,h2⟩|⟨v,d,h1,h2,_⟩<;>rw [h1,h2]<;>rfl
   refine ⟨_,b,ps,kk,rfl,rfl,.inr ⟨ob,e1⟩,T.keys,hb,?_⟩
   rw [e]
   exact k π _ H .refl R (.bl _)
  ·cases hm
 ·cases hm
section
variable {X:Cx}{a b:RI}{ma mb:ME}{pos:TC}
end
end L3
namespace L3
open PySem L2
noncomputable def RawD (h:SO)(d:Addr)(es:Array SV)(ep:Nat):Prop:=∃ z,h.get? d=some z/\z.ExactDict/\z.data=.dict es ep
theorem RawD.ty {s:RC}{d:Addr} {es ep} (g:RawD s.heap d es ep):s.TypeIs (.ref d) "dict":=let ⟨z,g1,g2,_⟩:=g;⟨z,g1,g2.1⟩
theorem RawD.stay {h h':SO}{d:Addr} {es ep} (g:RawD h d es ep)(k:∀ o,h.get? d=some o->h'.get? d=some o):RawD h' d es ep:=let ⟨z,g1,g2⟩:=g;⟨z,k z g1,g2⟩
theorem RawD.lt {h:SO}{d:Addr} {es ep} (g:RawD h d es ep):d<h.objs.size:=let ⟨_,g1,_⟩:=g;RH g1
section
variable {P:R8}{w:Sy}{A:Sn}{E:Ru->RC->Prop}{s:RC}{d it:Addr}{i ep:Nat}{es:Array SV}
theorem Cg {Q:Ru->RC->Prop}(lo:(d == SW)=false)(g:RawD s.heap d es ep)
  (q:Q (.ref s.heap.objs.size) { s with heap:=s.heap.push { cls:=.type "dict_keyiterator",data:=.fields #[.ref d,.int 0 0,.int es.size 0,.int ep 0] } }):RQ (R0 P w) A (XD (.ref d)) Q E s:=by
 obtain ⟨z,g1,g2,g3⟩:=id g
 refine XN g.ty F.slot_dict_iter (SU F.slot_dict_iter g.ty F.entry_dict_iter ?_ (F.args_dict_iter_1 _))
 unfold Builtin.«dict.__iter__» a1M
 refine Rm (Rm (TJ g.ty ?_))
 show RQ _ _ (pure (RJ d)) _ _ _
 refine Ry ?_
 show RQ _ _ (Tt d >>= _) _ _ _
 unfold Tt
 rw [if_neg (fun x=>RO (lo.symm.trans x))]
 refine Rm (Ry (Rm (SM g1 g3 (Rm (UB g1 g3 (Rm (SS (Ry ?_))))))))
 exact ⟨_,rfl,"dict_keyiterator",_,⟨_,RK _ rfl,rfl⟩,F.slot_dict_keyiterator_next.lookup,by simpa [Up] using q⟩
theorem rS {Q:Option Ru->RC->Prop}(hh:A.handled=none)(j:s.heap.IsKeyIter it d i es.size ep)(g:RawD s.heap d es ep)
  (q1:∀ e h',es[i]? = some e->h'.IsKeyIter it d (i+1) es.size ep->T1 it s.heap h'->Q (some e.key) { s with heap:=h' })
  (q2:es[i]? = none->∀ h',Wj it s.heap h'->Q none { s with heap:=h' }):RQ (R0 P w) A (V8 (.ref it)) Q E s:=by
 obtain ⟨y,j1,j2,j3⟩:=id j
 obtain ⟨z,g1,g2,g3⟩:=id g
 have nm:∀ {Q:String->RC->Prop}{A:Sn}{E:Ru->RC->Prop},Q "dict_keyiterator" s->RQ (R0 P w) A (Yy (.ref it)) Q E s:=fun q=>wpAny_typeNameOfWhole_keyiter j.typeIs q
 unfold V8
 refine Rm (Xw (Ug (name:=UM "__next__") j.typeIs F.slot_dict_keyiterator_next (SU F.slot_dict_keyiterator_next j.typeIs F.entry_dict_keyiterator_next ?_ (F.args_dict_keyiterator_next_1 _))))
 refine Rm (Ry (Rm (Rm (Rm (nm (Ry (Rm (YO j1 j3 ?_))))))))
 simp only [show TY "dict_keyiterator" = false by decide,RE,if_false]
 show RQ _ _ (if (RJ d == Sz)=true then _ else _) _ _ _
 rw [if_neg (show ¬ (RJ d == Sz)=true from fun x=>RO x)]
 refine Rm (Ry (Rm (SM g1 g3 ?_)))
 rw [if_neg (fun x=>by simp at x)]
 refine Rm (Ry (Rm (UB g1 g3 ?_)))
 rw [if_neg (fun x=>by simp at x)]
 refine Ry ?_
 simp only [if_neg (show ¬ ((i:Int)<0) by omega),Uw]
 cases he:es[i]? with
 | some e=>
  refine Rm (Rm (nm (Ry (Rm (ZV j.typeIs ?_)))))
  show RQ _ _ (XR (.ref it) 1 (Up ((i:Int)+1)) >>= _) _ _ _
  refine Rm (Ve j1 j3 (by simp) ?_)
  have j':(s.heap.update it (Xc (·.setIfInBounds 1 (Up ((i:Int)+1))))).IsKeyIter it d (i+1) es.size ep:=
   ⟨_,S2 _ j1 (WN (UO j3 _)),(Xq ..).trans j2,by simp [UO j3,Up]⟩
  generalize hu:s.heap.update it (Xc (·.setIfInBounds 1 (Up ((i:Int)+1))))=u at j'
  refine Rm (SN (Rm (ZV (s:={ s with heap:=u }) j'.typeIs ?_)))
  show RQ _ _ (pure e.key) _ _ _
  exact Ry (Ry ⟨_,rfl,Ry (q1 e u he j' (hu ▸ SX ..))⟩)
 | none=>
  refine Rm (Rm (nm (Ry ?_)))
  show RQ _ _ (XR (.ref it) 0 .none >>= _) _ _ _
  refine Rm (Ve j1 j3 (by simp) ?_)
  show RQ _ _ (Yh (.type "StopIteration") [] >>= _) _ _ _
  simp only [Yh,a0d]
  refine Rm (Rm (SS ?_ (by size_fits)))
  refine Rm (m:=UK _ _) (Yo (a:=Sz) (by first|rfl|(simp only [UK];rfl)) (SS ?_ (by size_fits)))
  simp only [a0c]
  refine Rm (Xv ?_)
  rw [show A.in1.handled=none from hh]
  refine Rm (Ry (Yn ?thrown))
  case thrown=>exact Rm (Ul (T:="StopIteration") (b:=true) ⟨_,RK _ rfl,rfl⟩ Xg (Ry (q2 he _ (((SX ..).extBut.push _).push _))))
theorem L0 (hh:A.handled=none)(hne:d≠it)(es:Array SV)(ep:Nat):Walks P w A it [it,d] [it] es.size (fun i v=>∃ e,es[i]? = some e/\v=e.key) (fun i h=>h.IsKeyIter it d i es.size ep/\RawD h d es ep) where
 sub:=fun b hb=>by rw [Sk.mp hb];exact RX ..
 frame:=fun _ _ _ st k=>⟨st.1.at fun o e=>k it (by simp) o e,st.2.stay fun o e=>k d (by simp) o e⟩
 item:=fun i s Q E hi st q=>rS hh st.1 st.2 (fun e h' he j' sb=>q _ h' s.toks ⟨e,he,rfl⟩ ⟨j',st.2.stay fun o ho=>sb.extBut d o hne ho⟩ fun b o hb ho=>sb.extBut b o (fun z=>hb (by simp [z])) ho) (fun he=>by simp at he;omega)
 done:=fun s Q E st q=>rS hh st.1 st.2 (fun e h' he=>by simp at he) (fun _ h' x=>q h' s.toks fun b o hb ho=>x b o (fun z=>hb (by simp [z])) ho)
 self:=fun _ _ _ _ st q=>Z9 st.1 q
theorem Ci (lo:(d == SW)=false):PySem.W.KdlSrc P w "dict" d d es.size (fun i v=>∃ e,es[i]? = some e/\v=e.key) (fun h=>RawD h d es ep) where
 type:=fun _ g=>g.ty
 there:=fun _ g=>⟨g.lt,g.lt⟩
 keep:=fun _ _ g k=>g.stay fun o e=>k d (.inl rfl) o e
 notList:=by decide
 notTuple:=by decide
 hint:=fun _ _ _ _ g q=>PySem.W.kdl_hint_dict g.ty q
 iter:=fun _ _ hh g=>⟨_,_,(fun _ _ q=>Cg lo g q),L0 hh (RT g.lt) es ep,⟨⟨_,RK _ rfl,rfl,rfl⟩,g.stay fun o e=>Rt _ e⟩⟩
theorem L1 (lo:(d == SW)=false):ZQ P w (Builtin.«dict.__len__» ⟨[.ref d],[]⟩) (fun _ R s=>∃ es ep,RawD s.heap d es ep/\R (.ok (.ret (.int (es.size:Nat) s.toks))) { s with toks:=s.toks+1 }):=
 .of_wp fun A R s ⟨es,ep,⟨z,g1,g2,g3⟩,q⟩=>by
  show RQ _ _ (dictSize d >>= _) _ _ _
  unfold dictSize
  refine Rm (Rm (SM g1 g3 (Ry ?_)))
  show RQ _ _ (a1I d >>= _) _ _ _
  refine Rm (wpAny_pendingCount_other lo (wpAny_ret_mkInt ?_))
  rw [a1d];exact q
theorem L4 {Q:Ru->RC->Prop}(lo:(d == SW)=false)(g:RawD s.heap d es ep)(hz:es.size<=RL)(q:Q (.int (es.size:Nat) (s.toks+1)) { s with toks:=s.toks+1+1 }):RQ (R0 P w) A (call (.builtin "len") [.ref d]) Q E s:=
 a1y g.ty F.slot_dict_len (fun Q' q'=>Wh F.slot_dict_len g.ty F.entry_dict_len (F.args_dict_len_1 _) (L1 lo) ⟨es,ep,g,q'⟩) (by omega) (by rw [Sh] at hz;omega) q
end
theorem wG:∀ {ps:bL}{ws:List Ru},Vals (ps.map (·.2.2)) ws->(bG ps ws).map (fun x=>RJ x.2.1)=ps.map fun p=>RJ p.2.1
 | [],_,_=>by simp [bG]
 | p::ps,_,.cons r t=>by
  have ih:=wG (ps:=ps) t
  unfold bG at ih ⊢
  rw [Sq,RM,RM,ih]
theorem Cj:∀ ps:bL,Vals (ps.map fun p=>V.ref p.2.1) (ps.map fun p=>RJ p.2.1)
 | []=>.nil
 | p::ps=>.cons rfl (Cj ps)
section
variable {X:Cx}{a1Z:List (Addr×TK)}{σ:St}{H:Hp}{s:RC}{a:Addr}{ps:bL}
theorem kL (I:Inv X a1Z σ H s)(e:H a=some (aS a ps))(hk:dE X.K H ps):(a == SW)=false/\ps.length<=RL/\∃ es ep,RawD s.heap a es ep/\es.toList.map (·.key)=ps.map fun p=>RJ p.2.1:=by
 obtain ⟨lo,hl,ws,r,z,es,ep,h1,h2,h3,h4,_⟩:=iI I (.of e) hk
 refine ⟨lo,hl,es,ep,⟨z,h1,h2,h3⟩,?_⟩
 rw [h4,RU,<- wG r]
 rfl
noncomputable def Ck (K:Rn):List V->Hp->VK->Prop:=fun xs H Q=>∃ a ps,xs=[V.ref a]/\H a=some (aS a ps)/\dE K H ps/\Q (.int ps.length) H
theorem L5:CallR X (.builtin "len") (Ck X.K):=by
 intro a1Z s σ H xs us Q I r h
 obtain ⟨a,ps,rfl,ha,hk,q⟩:=h
 obtain ⟨u,rfl,ru⟩:=fU r
 cases ru
 obtain ⟨lo,hl,es,ep,g,he⟩:=kL I ha hk
 have hs:es.size=ps.length:=by
  have:=congrArg Ss he
  simpa using this
 refine L4 lo g (by omega) ?_
 rw [hs]
 exact ⟨.int ps.length,H,(I.tok _).tok _,⟨_,rfl⟩,q⟩
noncomputable def Cm (K:Rn):List V->Hp->VK->Prop:=fun xs H Q=>∃ a ps,xs=[V.ref a]/\H a=some (aS a ps)/\dE K H ps/\∀ l,H l=none->Q (.ref l) (aI H l (.lst (ps.map fun p=>V.ref p.2.1)))
theorem L6 (hc:X.calm=true):CallR X (.type "list") (Cm X.K):=by
 intro a1Z s σ H xs us Q I r h
 obtain ⟨a,ps,rfl,ha,hk,q⟩:=h
 obtain ⟨u,rfl,ru⟩:=fU r
 cases ru
 obtain ⟨lo,hl,es,ep,g,he⟩:=kL I ha hk
 have hs:es.size=ps.length:=by
  have:=congrArg Ss he
  simpa using this
 refine PySem.W.kdl_call (Ci lo) (I.ok.hd hc) g (by omega) fun h' tk acc' c' kp hS hacc=>?_
 refine ⟨.ref s.heap.objs.size,_,I.laid (t':=tk) (a:=s.heap.objs.size) (o:=.lst (ps.map fun p=>V.ref p.2.1)) kp (RD _) ?_,rfl,q _ (I.hok.fresh (RD _))⟩
 refine ⟨by rw [Ro];exact hl,acc'.toList,c',?_,by simpa using hS⟩
 have e2:acc'.toList=ps.map fun p=>RJ p.2.1:=by
  rw [<- he]
  refine Vv fun i=>?_
  rw [RR,Tp,Tp]
  cases hv:acc'[i]? with
  | some v=>
   obtain ⟨e,h1,h2⟩:=hacc.2 i v hv
   rw [h1,h2];rfl
  | none=>
   have:acc'.size<=i:=by simpa using hv
   rw [WA (by rw [<- hacc.1];exact this)];rfl
 rw [e2]
 exact Cj ps
end
section
variable {X:Cx}{a b o i e:RI}{ma mb mo mi me:ME}{pos tpos:TC}{k:Nat}
theorem L7 (hr:Room k X.A)(ha:QE X a ma)(hb:QE X b mb)(h:m9 b=true):QE X (.Subscript a b pos) (aB aL ma mb):=
 oQ (LW hr ha hb h) (JP ha hb h) (jW fun x y μ r hm=>by
  unfold aL at hm
  split at hm
  ·split at hm
   ·rename_i kvs hc
    refine .inl ?_
    simp only [oW,hc]
    exact hm
   ·rename_i kvs hc
    refine .inl ?_
    simp only [oW,hc]
    exact hm
   ·exact .inr hm
  ·exact .inr hm)
noncomputable def nH (neg:Bool):D->D->Hm->Option (D×Hm):=fun x y μ=>match oX neg x y μ with
 | some r=>some r
 | none=>lO neg x y μ
theorem rV {neg:Bool}(x y:D)(μ:Hm)(r:D×Hm)(h:nH neg x y μ=some r):oX neg x y μ=some r\/lO neg x y μ=some r:=by
 unfold nH at h
 split at h
 ·rename_i z;rw [z];exact .inl h
 ·exact .inr h
theorem Cn {neg:Bool}(x y:D)(μ:Hm)(r:D×Hm)(h:cX neg x y μ=some r):(∃ i j,x=.str i/\y=.str j)\/nH neg x y μ=some r:=by
 cases y with
 | loc a=>
  refine .inr ?_
  have e:cX neg x (.loc a) μ=(match μ[a]? with
   | some (.dT kvs)=>(dG x).map fun k=>(D.bl (if neg then !(bO kvs k).isSome else (bO kvs k).isSome),μ)
   | some (.dF kvs)=>(dG x).map fun k=>(D.bl (if neg then !(bO kvs k).isSome else (bO kvs k).isSome),μ)
   | _=>lO neg x (.loc a) μ):=by cases x<;>rfl
  rw [e] at h
  unfold nH
  simp only [oX]
  cases hc:μ[a]? with
  | none=>rw [hc] at h;exact h
  | some c=>
   rw [hc] at h
   cases c with
   | dT kvs=>dsimp only at h ⊢;rw [h]
   | dF kvs=>dsimp only at h ⊢;rw [h]
   | _=>exact h
 | str j=>
  cases x with
  | str i=>exact .inl ⟨i,j,rfl,rfl⟩
  | _=>exact .inr h
 | _=>cases x<;>exact .inr h
theorem Co (x y:D)(μ:Hm)(r:D×Hm)(h:cX false x y μ=some r):uW x y μ=some r\/nH false x y μ=some r:=by
 rcases Cn x y μ r h with ⟨i,j,rfl,rfl⟩|z
 ·exact .inl h
 ·exact .inr z
theorem Cp (x y:D)(μ:Hm)(r:D×Hm)(h:cX true x y μ=some r):vA x y μ=some r\/nH true x y μ=some r:=by
 rcases Cn x y μ r h with ⟨i,j,rfl,rfl⟩|z
 ·exact .inl h
 ·exact .inr z
theorem L8 (hr:Room k X.A)(ha:QE X a ma)(hb:QE X b mb)(h:fM b=true):QE X (.Compare a [.In] [b] pos) (aB (cX false) ma mb):=
 oQ ⟨fF z7 Ba ha.h hb.h (hJ h)⟩ (oQ ⟨fF (Ce (gE hr)) rR ha.h hb.h (hJ h)⟩ ⟨fF (Bz (rJ hr)) rG ha.h hb.h (hJ h)⟩ (jW rV)) (jW Co)
theorem L9 (hr:Room k X.A)(ha:QE X a ma)(hb:QE X b mb)(h:fM b=true):QE X (.Compare a [.NotIn] [b] pos) (aB (cX true) ma mb):=
 oQ ⟨fF Av BB ha.h hb.h (hJ h)⟩ (oQ ⟨fF (Cf (gE hr)) rR ha.h hb.h (hJ h)⟩ ⟨fF (BA (rJ hr)) rG ha.h hb.h (hJ h)⟩ (jW rV)) (jW Cp)
theorem Ma (hr:Room k X.A)(ha:QE X a ma)(hb:QE X b mb)(h:fM b=true):QT X (.Compare a [.In] [b] pos) (bD (aB (cX false) ma mb)):=
 rC ⟨fG z7 Ba ha.h hb.h (hJ h)⟩ (rC ⟨fG (Ce (gE hr)) rR ha.h hb.h (hJ h)⟩ ⟨fG (Bz (rJ hr)) rG ha.h hb.h (hJ h)⟩ (rD (jW rV))) (rD (jW Co))
theorem Mb (hr:Room k X.A)(ha:QE X a ma)(hb:QE X b mb)(h:fM b=true):QT X (.Compare a [.NotIn] [b] pos) (bD (aB (cX true) ma mb)):=
 rC ⟨fG Av BB ha.h hb.h (hJ h)⟩ (rC ⟨fG (Cf (gE hr)) rR ha.h hb.h (hJ h)⟩ ⟨fG (BA (rJ hr)) rG ha.h hb.h (hJ h)⟩ (rD (jW rV))) (rD (jW Cp))
theorem Mc (hr:Room k X.A)(ho:QE X o mo)(hi:QE X i mi)(he:QE X e me)(h:jS e=true):QS X (.Assign [.Subscript o i tpos] e pos) (cB mo mi me):=
 Lm (LZ hr ho hi he h) (Lp ho hi he h) (Lq fun x y z μ r hm=>by
  unfold jZ at hm
  split at hm
  ·split at hm
   ·exact .inl hm
   ·exact .inr hm
  ·cases hm)
end
end L3
namespace L3
open PySem L2
noncomputable def wH (K:Rn)(a b:Addr):It:=
 ⟨fun i H=>∃ xs ys x y,SqL K H a xs/\SqL K H b ys/\xs[i]? = some x/\ys[i]? = some y,
   fun i H z H'=>∃ p v u,z=.ref p/\H p=none/\H'=aI H p (.tup [v,u])/\(∀ xs,SqL K H a xs->xs[i]? = some v)/\∀ ys,SqL K H b ys->ys[i]? = some u,
   fun i H=>∃ xs ys,SqL K H a xs/\SqL K H b ys/\(xs.length<=i\/ys.length<=i)⟩
theorem Md {P:R8}{w:Sy}{K:Rn}{es:List RI}{kx:Nat}{pt:TC}{a b z ti to j1 j2:Addr}(A0:a0f z ti to j1 j2 a b) :
  Turn P w K (.Tuple es kx pt) (wH K a b) [z,ti,to,j1,j2] z (fun i h=>Xi h z ti to .none/\Vz h ti (.ref j1) (.ref j2)/\(∃ u v,Vz h to u v)/\h.IsListIter j1 a i/\h.IsListIter j2 b i) where
 mem:=by simp
 obj:=fun i h ⟨g1,g2,⟨u,v,g3⟩,g4,g5⟩ c hc=>by
  have hc':c=z\/c=ti\/c=to\/c=j1\/c=j2:=by simpa using hc
  rcases hc' with rfl|rfl|rfl|rfl|rfl
  ·exact ⟨_,g1,fun q e=>by
    have e':WU _=V1 q:=e
    cases e'⟩
  ·exact ⟨_,g2,fun q e=>by
    have e':Xl _ _=V1 q:=e
    cases e'⟩
  ·exact ⟨_,g3,fun q e=>by
    have e':Xl _ _=V1 q:=e
    cases e'⟩
  ·obtain ⟨o,e1,c,d⟩:=g4
   exact ⟨o,e1,fun v e=>by rw [d] at e;cases e⟩
  ·obtain ⟨o,e1,c,d⟩:=g5
   exact ⟨o,e1,fun v e=>by rw [d] at e;cases e⟩
 keep:=fun i h h' ⟨g1,g2,⟨u,v,g3⟩,g4,g5⟩ k=>⟨k z (by simp) _ g1,k ti (by simp) _ g2,⟨u,v,k to (by simp) _ g3⟩,g4.at fun o e=>k j1 (by simp) o e,g5.at fun o e=>k j2 (by simp) o e⟩
 item:=by
  intro X hP hw hK hc i a1Z s σ H E I hf ⟨g1,g2,⟨u,v,g3⟩,g4,g5⟩ hg
  subst hP hw hK
  obtain ⟨xs,ys,x,y,hq,hq2,hx,hy⟩:=hg
  obtain ⟨its,rv,p,hz⟩:=I.list hq
  obtain ⟨its2,rv2,p2,hz2⟩:=I.list hq2
  obtain ⟨u1,gE,ru1⟩:=rv.get hx
  obtain ⟨u2,hu2,ru2⟩:=rv2.get hy
  refine wpAny_pyNext_zip_item A0 g1 g2 g3 g4 g5 p.isList p2.isList (x:=u1) (y:=u2) (by simpa using gE) (by simpa using hu2) fun h1 a1 a2 a3 a4 a5 a6 hk=>⟨_,rfl,Y3 a1 fun h2 b1 hs2=>?_⟩
  have ne:∀ {c o},s.heap.get? c=some o->s.heap.objs.size≠c:=fun e=>Te (RH e)
  have l4:∃ o,s.heap.get? j1=some o:=let ⟨o,e,_⟩:=g4;⟨o,e⟩
  have l5:∃ o,s.heap.get? j2=some o:=let ⟨o,e,_⟩:=g5;⟨o,e⟩
  have ht2:h2.get? s.heap.objs.size=some { cls:=.type "tuple",data:=.seq #[u1,u2] }:=(hs2.2 _ (ne g1)).trans a5
  have hfr:H s.heap.objs.size=none:=I.hok.fresh (RD _)
  have g2':Vz h2 ti (.ref j1) (.ref j2):=(hs2.2 _ A0.TIz).trans (hk _ _ A0.TIz A0.TITO A0.TIi1 A0.TIi2 g2)
  refine ⟨.ref s.heap.objs.size,aI H s.heap.objs.size (.tup [x,y]),?_,rfl,⟨s.heap.objs.size,x,y,rfl,hfr,rfl,fun ws hw=>by rw [I.list_inj hw hq];exact hx,fun ws hw=>by rw [I.list_inj hw hq2];exact hy⟩,
   ⟨b1,g2',⟨_,_,(hs2.2 _ A0.TOz).trans a2⟩,a3.extBut hs2.extBut A0.i1z,a4.extBut hs2.extBut A0.i2z⟩,fun c hb=>?_⟩
  ·refine v7 (s:=s) (h':=h2) (t':=s.toks) (ch:=[z,ti,to,j1,j2]) I (fun c oc hb ec=>?_) hf (RD _) ?_
   ·have hb':c≠z/\c≠ti/\c≠to/\c≠j1/\c≠j2:=by simpa using hb
    exact (hs2.2 c hb'.1).trans (hk c oc hb'.1 hb'.2.2.1 hb'.2.2.2.1 hb'.2.2.2.2 ec)
   ·exact ⟨by show (2:Nat)<=RL;decide,[u1,u2],.cons ru1 (.cons ru2 .nil),_,ht2,rfl,0,rfl,rfl⟩
  ·have hb':c=z\/c=ti\/c=to\/c=j1\/c=j2:=by simpa using hb
   have hn:=(hf c hb).1
   rw [bA]
   ·exact hn
   ·rcases hb' with rfl|rfl|rfl|rfl|rfl
    ·exact (ne g1).symm
    ·exact (ne g2).symm
    ·exact (ne g3).symm
    ·exact (ne l4.choose_spec).symm
    ·exact (ne l5.choose_spec).symm
 done:=by
  intro X hP hw hK hc i a1Z s σ H E I hf ⟨g1,g2,⟨u,v,g3⟩,g4,g5⟩ hg
  subst hP hw hK
  obtain ⟨xs,ys,hq,hq2,hx⟩:=hg
  obtain ⟨its,rv,p,hz⟩:=I.list hq
  obtain ⟨its2,rv2,p2,hz2⟩:=I.list hq2
  have hl:=rv.length
  have hl2:=rv2.length
  refine wpAny_pyNext_zip_end (I.ok.hd hc) A0 g1 g2 g3 g4 g5 p.isList p2.isList ?_ fun h' eb=>⟨rfl,v8 (t':=s.toks) (ch:=[z,ti,to,j1,j2]) I (fun c o hb e=>?_) hf⟩
  ·rcases hx with hx|hx
   ·exact .inl (by simp;omega)
   ·exact .inr (by simp;omega)
  ·have hb':c≠z/\c≠ti/\c≠to/\c≠j1/\c≠j2:=by simpa using hb
   exact eb c o hb'.1 hb'.2.2.1 hb'.2.2.2.1 hb'.2.2.2.2 e
 self:=fun _ _ _ _ _ ⟨g1,_⟩ h=>WK g1 h
noncomputable def l6 (x y:D):gG:=fun μ i=>(bJ μ x).bind fun xs=>(bJ μ y).map fun ys=>(xs[i]?).bind fun d=>(ys[i]?).map fun e=>.tup [d,e]
theorem wI {K:Rn}{π:Nat->Addr}{μ:Hm}{H:Hp}{v:V}{x:D}{xs:List D}(R:Rp K π H μ)(h:IsD K π μ.length H v x)(hs:dO μ x=some xs):∃ p,v=.ref p/\(∃ vs,SqL K H p vs) /\
  ∀ π' μ' H',Ext π μ.length H π' μ'.length H'->Rp K π' H' μ'->∀ ys,bJ μ' x=some ys->∃ ws,SqL K H' p ws/\IsDs K π' μ'.length H' ws ys:=by
 obtain ⟨p,vs,rfl,hq,_⟩:=lQ R h hs
 refine ⟨p,rfl,⟨vs,hq⟩,fun π' μ' H' e R' ys hy=>?_⟩
 have hl:dO μ' x=some ys:=by
  cases x with
  | rol zs=>exact hy
  | loc b=>exact hy
  | _=>cases hs
 obtain ⟨p',ws,e1,q1,d1⟩:=lQ R' (h.mono e) hl
 cases e1
 exact ⟨ws,q1,d1⟩
theorem Me {K:Rn}{π:Nat->Addr}{μ:Hm}{H:Hp}{v v':V}{x y:D}{xs ys:List D}(R:Rp K π H μ)(h:IsD K π μ.length H v x)(h':IsD K π μ.length H v' y)(hs:dO μ x=some xs)(hs':dO μ y=some ys) :
  ∃ a b,v=.ref a/\v'=.ref b/\(∃ vs,SqL K H a vs)/\(∃ vs,SqL K H b vs)/\Wk K (wH K a b) (l6 x y) π μ.length H:=by
 obtain ⟨a,rfl,qa,la⟩:=wI R h hs
 obtain ⟨b,rfl,qb,lb⟩:=wI R h' hs'
 refine ⟨a,b,rfl,rfl,qa,qb,fun π' μ' H' i e R' z=>?_,fun π' μ' H' i d e R' z=>?_⟩
 ·obtain ⟨as,h1,z⟩:=Rl.mp z
  obtain ⟨bs,h2,z⟩:=Rv.mp z
  obtain ⟨ws,q1,d1⟩:=la π' μ' H' e R' as h1
  obtain ⟨us,q2,d2⟩:=lb π' μ' H' e R' bs h2
  refine ⟨ws,us,q1,q2,?_⟩
  rw [d1.length,d2.length]
  cases e1:as[i]? with
  | none=>exact .inl (Su.mp e1)
  | some d=>
   cases e2:bs[i]? with
   | none=>exact .inr (Su.mp e2)
   | some d'=>rw [e1,e2] at z;cases z
 ·obtain ⟨as,h1,z⟩:=Rl.mp z
  obtain ⟨bs,h2,z⟩:=Rv.mp z
  obtain ⟨d1',h3,z⟩:=Rl.mp z
  obtain ⟨d2',h4,h5⟩:=Rv.mp z
  subst h5
  obtain ⟨ws,q1,d1⟩:=la π' μ' H' e R' as h1
  obtain ⟨us,q2,d2⟩:=lb π' μ' H' e R' bs h2
  obtain ⟨w1,f1,k1⟩:=d1.get h3
  obtain ⟨w2,f2,k2⟩:=d2.get h4
  refine ⟨⟨ws,us,w1,w2,q1,q2,f1,f2⟩,?_⟩
  rintro y H2 ⟨t,v1,v2,rfl,hn,rfl,hv1,hv2⟩
  have m1:=hv1 ws q1
  have m2:=hv2 us q2
  rw [f1] at m1
  rw [f2] at m2
  cases m1
  cases m2
  obtain ⟨e2,R2⟩:=R'.fresh (o:=.tup [w1,w2]) hn
  exact ⟨e2,R2,.tup (.of cG) (.cons (k1.mono e2) (.cons (k2.mono e2) .nil))⟩
end L3
namespace L3
open PySem L2
end L3
namespace L3
open PySem L2
noncomputable def ItI (h:SO)(it d S:Addr)(i n ep:Nat):Prop:=∃ (wn ok ov:Ru)(fl:Bool),h.get? it=some { cls:=.type "dict_itemiterator",dict:=none,data:=.fields #[wn,.bool fl,.ref d,.int i 0,.int n 0,.int ep 0,ok,ov],slots:=#[] } /\
 (wn=.none\/∃ (a:Addr)(o:TK),wn=Up a/\h.get? a=some o/\a≠it/\a≠S)
theorem ItI.ty {s:RC}{it d S:Addr} {i n ep} (j:ItI s.heap it d S i n ep):s.TypeIs (.ref it) "dict_itemiterator":=let ⟨_,_,_,_,e,_⟩:=j;⟨_,e,rfl⟩
theorem ItI.stay {h h':SO}{it d S:Addr} {i n ep} (j:ItI h it d S i n ep)(hI:it≠S)(k:∀ b o,b≠S->h.get? b=some o->h'.get? b=some o):ItI h' it d S i n ep:=by
 obtain ⟨wn,ok,ov,fl,e,r⟩:=j
 refine ⟨wn,ok,ov,fl,k _ _ hI e,?_⟩
 rcases r with r|⟨a,o,r1,r2,r3,r4⟩
 ·exact .inl r
 ·exact .inr ⟨a,o,r1,k _ _ r4 r2,r3,r4⟩
section
variable {P:R8}{w:Sy}{A:Sn}{E:Ru->RC->Prop}{s:RC}{d it S:Addr}{i ep:Nat}{es:Array SV}
theorem Cq {Q:Option Ru->RC->Prop}(hh:A.handled=none)(j:ItI s.heap it d S i es.size ep)(g:RawD s.heap d es ep)(hS:S<s.heap.objs.size)
  (q1:∀ e h',es[i]? = some e->ItI h' it d S (i+1) es.size ep->h'.get? s.heap.objs.size=some { cls:=.type "tuple",data:=.seq #[e.key,e.val] }->h'.objs.size=s.heap.objs.size+1->(∀ b o,b≠it->s.heap.get? b=some o->h'.get? b=some o)->Q (some (.ref s.heap.objs.size)) { s with heap:=h' })
  (q2:es[i]? = none->∀ h',Wj it s.heap h'->Q none { s with heap:=h' }):RQ (R0 P w) A (V8 (.ref it)) Q E s:=by
 obtain ⟨z,g1,g2,g3⟩:=id g
 have ty:=j.ty
 obtain ⟨hp,gs,dr,tk,os⟩:=s
 obtain ⟨wn,ok,ov,fl,je,jr⟩:=j
 have nm:∀ {Q:String->RC->Prop}{A:Sn}{E:Ru->RC->Prop},Q "dict_itemiterator" ⟨hp,gs,dr,tk,os⟩->RQ (R0 P w) A (Yy (.ref it)) Q E ⟨hp,gs,dr,tk,os⟩:=fun q=>wpAny_typeNameOfWhole_itemiter ty q
 unfold V8
 refine Rm (Xw (Ug (name:=UM "__next__") ty F.slot_dict_itemiterator_next (SU F.slot_dict_itemiterator_next ty F.entry_dict_itemiterator_next ?_ (F.args_dict_itemiterator_next_1 _))))
 refine Rm (Ry (Rm (Rm (Rm (nm (Ry (Rm (YO je rfl ?_))))))))
 simp only [show TY "dict_itemiterator" = true by decide,if_true]
 show RQ _ _ (if (RJ d == Sz)=true then _ else _) _ _ _
 rw [if_neg (show ¬ (RJ d == Sz)=true from fun x=>RO x)]
 refine Rm (Ry (Rm (SM g1 g3 ?_)))
 rw [if_neg (fun x=>by simp at x)]
 refine Rm (Ry (Rm (UB g1 g3 ?_)))
 rw [if_neg (fun x=>by simp at x)]
 refine Ry ?_
 simp only [if_neg (show ¬ ((i:Int)<0) by omega),Uw]
 have hil:it<hp.objs.size:=RH je
 cases he:es[i]? with
 | some e=>
  refine Rm (Rm (nm (Ry (Rm (WV ty ?_)))))
  show RQ _ _ (XR (.ref it) 3 (Up ((i:Int)+1)) >>= _) _ _ _
  refine Rm (Tg je (by simp) fun u ue us=>?_)
  replace us:T1 it hp u:=us
  replace ue:u.get? it=some { cls:=.type "dict_itemiterator",dict:=none,data:=.fields #[wn,.bool fl,.ref d,.int ((i+1:Nat):Int) 0,.int es.size 0,.int ep 0,ok,ov],slots:=#[] }:=by
   rw [show ((i+1:Nat):Int)=(i:Int)+1 by omega]
   simpa [Up] using ue
  have ty1:Shared.TypeIs ⟨u,gs,dr,tk,os⟩ (.ref it) "dict_itemiterator":=⟨_,ue,rfl⟩
  refine Rm (SN (Rm (WV ty1 (Rm (WV ty1 ?_)))))
  show RQ _ _ (Wq (.ref it) 6 e.key e.val) _ _ _
  unfold Wq
  refine Rm (Xd ?_)
  have zu:u.objs.size=hp.objs.size:=us.1
  have v1:=Rt { cls:=.type "tuple",data:=.seq #[e.key,e.val] } ue
  have vt:(u.push { cls:=.type "tuple",data:=.seq #[e.key,e.val] }).get? hp.objs.size=some { cls:=.type "tuple",data:=.seq #[e.key,e.val] }:=zu ▸ RK u rfl
  have vz:(u.push { cls:=.type "tuple",data:=.seq #[e.key,e.val] }).objs.size=hp.objs.size+1:=by rw [TU,zu]
  have vk:∀ b o,b≠it->hp.get? b=some o->(u.push { cls:=.type "tuple",data:=.seq #[e.key,e.val] }).get? b=some o:=fun b o hb x=>Rt _ (us.extBut b o hb x)
  show RQ _ _ (We (.ref it) >>= _) _ _ ⟨u.push { cls:=.type "tuple",data:=.seq #[e.key,e.val] },gs,dr,tk,os⟩
  rw [zu]
  generalize u.push { cls:=.type "tuple",data:=.seq #[e.key,e.val] } = v at v1 vt vz vk
  have nit:hp.objs.size≠it:=Te hil
  have fin:∀ v':SO,ItI v' it d S (i+1) es.size ep->T1 it v v'->Q (some (.ref hp.objs.size)) ⟨v',gs,dr,tk,os⟩:=fun v' j' sb=>
   q1 e v' he j' (sb.extBut _ _ nit vt) (by show v'.objs.size=_;rw [sb.1,vz]) fun b o hb x=>sb.extBut b o hb (vk b o hb x)
  refine Rm ?_
  unfold We
  rcases jr with rfl|⟨a,o,rfl,r2,r3,r4⟩
  ·refine Rm (TM v1 rfl (x:=.none) rfl (Ry ?_))
   simp only [if_true]
   refine Rm (TM v1 rfl (x:=ok) rfl (Rm (TM v1 rfl (x:=ov) rfl ?_)))
   refine Rm (Tg v1 (by simp) fun v3 x3 y3=>Rm (Tg x3 (by simp) fun v4 x4 y4=>Rm (Tg x4 (by simp) fun v5 x5 y5=>Rm (Tg x5 (by simp) fun v6 x6 y6=>?_))))
   refine Rm (Xe (Ry (Ry ⟨_,rfl,Ry (fin v6 ?_ ?_)⟩)))
   ·refine ⟨Up hp.objs.size,e.key,e.val,false,by simpa using x6,.inr ⟨hp.objs.size,_,rfl,y6.extBut _ _ nit (y5.extBut _ _ nit (y4.extBut _ _ nit (y3.extBut _ _ nit vt))),nit,Te hS⟩⟩
   ·exact ((y3.trans y4).trans y5).trans y6
  ·refine Rm (TM v1 rfl (x:=Up a) rfl ?_)
   show RQ _ _ (loadIfAlive ((a:Int).toNat) >>= _) _ _ _
   rw [Uw]
   refine Rm (PySem.W.kdx_alive (vk a o r3 r2) ?_)
   simp only [Option.isNone_some,RE,if_false]
   refine Rm (TM v1 rfl (x:=.bool fl) rfl ?_)
   cases fl with
   | true=>
    rw [if_neg (show ¬ ((VD true != VD true)=true) from fun x=>RO x)]
    refine Ry ?_
    simp only [RE,if_false]
    exact Ry (Ry ⟨_,rfl,Ry (fin v ⟨_,ok,ov,true,v1,.inr ⟨a,o,rfl,vk a o r3 r2,r3,r4⟩⟩ (Ym _ _))⟩)
   | false=>
    rw [if_pos (show (VD false != VD true)=true from rfl)]
    refine Rm (Tg v1 (by simp) fun v3 x3 y3=>Ry ?_)
    simp only [RE,if_false]
    exact Ry (Ry ⟨_,rfl,Ry (fin v3 ⟨_,ok,ov,true,by simpa using x3,.inr ⟨a,o,rfl,y3.extBut a o r3 (vk a o r3 r2),r3,r4⟩⟩ y3)⟩)
 | none=>
  refine Rm (Rm (nm (Ry ?_)))
  show RQ _ _ (XR (.ref it) 2 .none >>= _) _ _ _
  refine Rm (Ve je rfl (by simp) ?_)
  show RQ _ _ (Yh (.type "StopIteration") [] >>= _) _ _ _
  simp only [Yh,a0d]
  refine Rm (Rm (SS ?_ (by size_fits)))
  refine Rm (m:=UK _ _) (Yo (a:=Sz) (by first|rfl|(simp only [UK];rfl)) (SS ?_ (by size_fits)))
  simp only [a0c]
  refine Rm (Xv ?_)
  rw [show A.in1.handled=none from hh]
  refine Rm (Ry (Yn ?thrown))
  case thrown=>exact Rm (Ul (T:="StopIteration") (b:=true) ⟨_,RK _ rfl,rfl⟩ Xg (Ry (q2 he _ (((SX ..).extBut.push _).push _))))
theorem Mf {r:Addr}{Q:Ru->RC->Prop}(hv:s.heap.IsItemsView r d)(g:RawD s.heap d es ep)
  (q:Q (.ref s.heap.objs.size) { s with heap:=s.heap.push { cls:=.type "dict_itemiterator",data:=.fields #[.none,.bool false,.ref d,.int 0 0,.int es.size 0,.int ep 0,.none,.none] } }):RQ (R0 P w) A (XD (.ref r)) Q E s:=by
 obtain ⟨y,v1,v2,v3⟩:=id hv
 obtain ⟨z,g1,g2,g3⟩:=id g
 refine XN hv.typeIs F.slot_dict_items_iter (SU F.slot_dict_items_iter hv.typeIs F.entry_dict_items_iter ?_ (F.args_dict_items_iter_1 _))
 unfold Builtin.«dict_items.__iter__» WO Wy
 refine Rm (Ry (Rm (Rm (TM v1 v3 (x:=.ref d) rfl (Ry (Rm (Rm (SM g1 g3 (Rm (UB g1 g3 ?_))))))))))
 simp only [show TY "dict_itemiterator" = true by decide,if_true]
 refine SS (Ry ⟨_,rfl,"dict_itemiterator",_,⟨_,RK _ rfl,rfl⟩,F.slot_dict_itemiterator_next.lookup,?_⟩) (by simp only [sizeOk,Wf,RS,RV,SD,WG];rw [Sh];omega)
 simpa [Up,Wf] using q
end
structure PrsAt (es:Array SV)(lo:Addr)(h:SO)(as:List Addr):Prop where
 up:as.Pairwise (·<·)
 over:∀ a∈as,lo<a
 prs:∀ (j:Nat)(a:Addr),as[j]? = some a->∃ e,es[j]? = some e/\h.get? a=some { cls:=.type "tuple",data:=.seq #[e.key,e.val] }
theorem PrsAt.stay {es:Array SV}{lo:Addr}{h h':SO}{as:List Addr}(p:PrsAt es lo h as)(k:∀ b o,lo<b->h.get? b=some o->h'.get? b=some o):PrsAt es lo h' as:=
 ⟨p.up,p.over,fun j a hj=>let ⟨e,e1,e2⟩:=p.prs j a hj;⟨e,e1,k a _ (p.over a (Sf hj)) e2⟩⟩
theorem PrsAt.lt {es:Array SV}{lo:Addr}{h:SO}{as:List Addr}(p:PrsAt es lo h as){a:Addr}(ha:a∈as):a<h.objs.size:=by
 obtain ⟨j,hj⟩:=UW.mp ha
 obtain ⟨_,_,e⟩:=p.prs j a hj
 exact RH e
theorem PrsAt.snoc {es:Array SV}{lo:Addr}{h:SO}{as:List Addr}{b:Addr}{e:SV}(p:PrsAt es lo h as)(hb:∀ a∈as,a<b)(hl:lo<b)(he:es[as.length]? = some e)(ht:h.get? b=some { cls:=.type "tuple",data:=.seq #[e.key,e.val] }):PrsAt es lo h (as++[b]):=by
 refine ⟨List.pairwise_append.mpr ⟨p.up,YD _ _,fun a ha c hc=>by rw [Sk.mp hc];exact hb a ha⟩,fun a ha=>?_,fun j a hj=>?_⟩
 ·rcases S8.mp ha with ha|ha
  ·exact p.over a ha
  ·rw [Sk.mp ha];exact hl
 ·rcases Wn j as.length with h1|h1|h1
  ·rw [Sw h1] at hj
   exact p.prs j a hj
  ·subst h1
   have:b=a:=by simpa using hj
   subst this
   exact ⟨e,he,ht⟩
  ·rw [Ts (by simp;omega)] at hj
   cases hj
section
variable {P:R8}{w:Sy}{A:Sn}{s:RC}{R:YX->RC->Prop}{es:Array SV}{ep:Nat}{S I d:Addr}
theorem Mg (hh:A.handled=none)(hSI:S<I)(hSd:d≠S)(hId:d≠I)(hn:es.size<=RL)(res:Ru){h1:SO}
  (hR:∀ (h':SO)(tk:Nat)(acc:Array Ru)(c:Nat)(as:List Addr),(∀ b o,b≠S->b≠I->h1.get? b=some o->h'.get? b=some o)->h'.get? S=some { cls:=.type "list",dict:=none,data:=.seq acc c,slots:=#[] }->as.length=es.size->PrsAt es I h' as->acc.toList=as.map RJ->R (.ok (.ret res)) { s with heap:=h',toks:=tk }) :
  ∀ (k i:Nat)(h:SO)(tk c:Nat)(acc:Array Ru)(as:List Addr),es.size - i=k->i<=es.size->ItI h I d S i es.size ep->RawD h d es ep->(∀ b o,b≠S->b≠I->h1.get? b=some o->h.get? b=some o)->h.get? S=some { cls:=.type "list",dict:=none,data:=.seq acc c,slots:=#[] }->
   acc.toList=as.map RJ->as.length=i->PrsAt es I h as->I<h.objs.size->VY (R0 P w) A (.builtin "list.extend.loop" ⟨[.ref S,.ref I,res],[]⟩) R { s with heap:=h,toks:=tk }:=by
 have ne:S≠I:=RT hSI
 intro k
 induction k with
 | zero=>
  intro i h tk c acc as hk hi j g kp gS ha al pr lt
  refine WY F.entry_extend_loop ?_
  rw [VG F.plain_extend_loop _]
  refine Rm (m:=V8 (.ref I)) (Cq (s:={ s with heap:=h,toks:=tk }) (A:=A.in1) hh j g (RH gS) (fun e h' he=>?_) fun _ h' x=>Ry (hR h' tk acc c as (fun b o b1 b2 z=>x b o b2 (kp b o b1 b2 z)) (x S _ ne gS) (by omega) (pr.stay fun b o hb z=>x b o (Te hb) z) ha))
  rw [WA (by omega)] at he
  cases he
 | succ k ih=>
  intro i h tk c acc as hk hi j g kp gS ha al pr lt
  have sz:acc.size=i:=by rw [<- Tw,ha,Ro,al]
  refine WY F.entry_extend_loop ?_
  rw [VG F.plain_extend_loop _]
  refine Rm (m:=V8 (.ref I)) (Cq (s:={ s with heap:=h,toks:=tk }) (A:=A.in1) hh j g (RH gS) (fun e h' he j' ht hz hk'=>?_) fun he=>?_)
  ·dsimp only at ht hz hk' ⊢
   have gS':=hk' S _ ne gS
   have Sl:S<h.objs.size:=RH gS
   have up:∀ b o,b≠S->h'.get? b=some o->(h'.update S (Ta (·.push (RJ h.objs.size)))).get? b=some o:=fun b o hb z=>(Tv _ _ (So hb)).trans z
   refine Rm (m:=a0S S (·.push (RJ h.objs.size))) (WW gS' rfl (Ry ⟨WC F.plain_extend_loop _,?_⟩) (by rw [sz];omega) (by show (acc.push (RJ h.objs.size)).size<=RL+1;rw [Array.size_push,sz];omega))
   refine ih (i+1) _ tk _ (acc.push (RJ h.objs.size)) (as++[h.objs.size]) (by omega) (by omega) (j'.stay (So ne) up) (g.stay fun o z=>up d o hSd (hk' d o hId z)) (fun b o b1 b2 z=>up b o b1 (hk' b o b2 (kp b o b1 b2 z))) (S2 _ gS' rfl) (by rw [Array.toList_push,ha,Se];rfl) (by rw [RV,al];rfl) ?_ ?_
   ·exact ((pr.stay fun b o hb z=>up b o (Te (Vy hSI hb)) (hk' b o (Te hb) z))).snoc (fun a ha'=>pr.lt ha') lt (by rw [al];exact he) (up _ _ (Te Sl) ht)
   ·exact Vy lt (RH (up _ _ (Te Sl) ht))
  ·rw [U9 (by omega)] at he
   cases he
theorem Mh {r:Addr}{res:Ru}{c0:Nat}(hh:A.handled=none)(hv:s.heap.IsItemsView r d)(g:RawD s.heap d es ep)(Sr:S≠r)(Sd:d≠S)(gS:s.heap.get? S=some { cls:=.type "list",data:=.seq #[] c0 }) (hn:es.size<=RL)
  (hR:∀ (h':SO)(tk:Nat)(acc:Array Ru)(c:Nat)(as:List Addr),(∀ b o,b≠S->s.heap.get? b=some o->h'.get? b=some o)->h'.get? S=some { cls:=.type "list",dict:=none,data:=.seq acc c,slots:=#[] }->as.length=es.size->PrsAt es s.heap.objs.size h' as->acc.toList=as.map RJ->R (.ok (.ret res)) { s with heap:=h',toks:=tk }) :
  RQ (R0 P w) A.in1 (TB (.ref S) (.ref r) res) (fun fin s'=>match fin with|.done f=>R (.ok f) s'|.again c'=>c'.quiet=true/\VY (R0 P w) A c' R s') (fun e s'=>R (.error e) s') s:=by
 have SI:S<s.heap.objs.size:=RH gS
 have dI:d<s.heap.objs.size:=g.lt
 have run:∀ (h:SO)(c1 tk:Nat),(∀ b o,b≠S->(s.heap.push { cls:=.type "dict_itemiterator",data:=.fields #[.none,.bool false,.ref d,.int 0 0,.int es.size 0,.int ep 0,.none,.none] }).get? b=some o->h.get? b=some o)->h.get? S=some { cls:=.type "list",data:=.seq #[] c1 }->
   VY (R0 P w) A (.builtin "list.extend.loop" ⟨[.ref S,.ref s.heap.objs.size,res],[]⟩) R { s with heap:=h,toks:=tk }:=by
  intro h c1 tk kp gS1
  have gI:=kp s.heap.objs.size _ (Te SI) (RK _ rfl)
  exact Mg (s:=s) (h1:=s.heap) (ep:=ep) hh SI Sd (RT dI) hn res (fun h' tk' acc c as k' z1 z2 z3 z4=>hR h' tk' acc c as (fun b o hb e=>k' b o hb (RT (RH e)) e) z1 z2 z3 z4) es.size 0 h tk c1 #[] [] (a1b _) (SF _)
   ⟨.none,.none,.none,false,gI,.inl rfl⟩ (g.stay fun o e=>kp d o Sd (Rt _ e)) (fun b o hb _ e=>kp b o hb (Rt _ e)) gS1 rfl rfl ⟨Yc,fun _ ha=>(by cases ha),fun j a hj=>(by simp at hj)⟩ (RH gI)
 unfold TB
 refine Rm (Zu (T:="dict_items") hv.typeIs ?_)
 simp only [show UZ (.ref S) (.ref r)=false by simp [UZ,Sr],show (T8 "dict_items" == T8 "list")=false by decide,show (T8 "dict_items" == T8 "tuple")=false by decide,Xa,RE,if_false]
 refine Rm (Mf hv g ?_)
 have gS1:=Rt { cls:=.type "dict_itemiterator",data:=.fields #[.none,.bool false,.ref d,.int 0 0,.int es.size 0,.int ep 0,.none,.none] } gS
 refine Rm (SN (PySem.W.kdx_hint (let ⟨o,ho,hc,_⟩:=hv;⟨o,Rt _ ho,hc⟩) ?_))
 refine U0 (fun _=>?_) (fun _=>Ry ⟨WC F.plain_extend_loop _,run _ c0 _ (fun b o _ e=>e) gS1⟩)
 refine Rm (Wr (Rm ?_))
 refine Rm (m:=a0S S (·.push .none)) (WW gS1 rfl ?_)
 have gS2:=S2 (Ta (·.push Sz)) gS1 rfl
 refine WW (hz:=by seq_fits) gS2 rfl (Ry ⟨WC F.plain_extend_loop _,run _ _ _ (fun b o hb e=>?_) (S2 (Ta (·.pop)) gS2 rfl)⟩)
 exact (Tv _ _ (So hb)).trans ((Tv _ _ (So hb)).trans e)
theorem Mi {r:Addr}{E:Ru->RC->Prop}{T:List Ru->RC->Prop}(hh:A.handled=none)(hv:s.heap.IsItemsView r d)(g:RawD s.heap d es ep)(hn:es.size<=RL)
  (q:∀ (h':SO)(tk:Nat)(as:List Addr),(∀ b o,s.heap.get? b=some o->h'.get? b=some o)->as.length=es.size->PrsAt es s.heap.objs.size h' as->s.heap.objs.size<=h'.objs.size->T (as.map RJ) { s with heap:=h',toks:=tk }):RQ (R0 P w) A (collect (.ref r)) T E s:=by
 have rl:r<s.heap.objs.size:=let ⟨_,ho,_⟩:=hv;RH ho
 unfold collect
 refine Rm (wpAny_runValue (WY a1w ?_))
 rw [VG F.plain_proto_collect _]
 refine Rm (m:=newList []) (SS (Ry ⟨WC F.plain_list_iadd _,WY a1x ?_⟩))
 rw [VG F.plain_list_iadd _]
 have gS:(s.heap.push { cls:=.type "list",data:=.seq ([]:List Ru).toArray }).get? s.heap.objs.size=some { cls:=.type "list",data:=.seq #[] }:=RK _ rfl
 have all:=Mh (A:=A) (s:={ s with heap:=s.heap.push { cls:=.type "list",data:=.seq ([]:List Ru).toArray } }) (P:=P) (w:=w) (es:=es) (ep:=ep) (res:=.ref s.heap.objs.size) (c0:=0)
  (R:=fun (q:YX)(s':RC)=>∃ (h':SO)(tk:Nat)(acc:Array Ru)(c:Nat)(as:List Addr),q=.ok (.ret (.ref s.heap.objs.size))/\s' = { s with heap:=h',toks:=tk }/\(∀ b o,s.heap.get? b=some o->h'.get? b=some o)/\h'.get? s.heap.objs.size=some { cls:=.type "list",dict:=none,data:=.seq acc c,slots:=#[] }/\as.length=es.size/\PrsAt es s.heap.objs.size h' as/\acc.toList=as.map RJ)
  hh (let ⟨o,ho,x⟩:=hv;⟨o,Rt _ ho,x⟩) (g.stay fun o e=>Rt _ e) (Te rl) (RT g.lt) gS hn
  (fun h' tk acc c as z0 z1 z2 z3 z4=>⟨h',tk,acc,c,as,rfl,rfl,fun b o e=>z0 b o (RT (RH e)) (Rt _ e),z1,z2,⟨z3.up,fun a ha=>Vy (Wz _) (by have:=z3.over a ha;rw [TU] at this;exact this),z3.prs⟩,z4⟩)
 refine S5 all (fun fin s' x=>?_) fun e s' x=>?_
 ·cases fin with
  | done f=>
   obtain ⟨h',tk,acc,c,as,e,rfl,z0,z1,z2,z3,z4⟩:=x
   cases e
   refine Rm (m:=load s.heap.objs.size) (YN z1 (Ry ?_))
   show T acc.toList _
   rw [z4]
   exact q h' tk as z0 z2 z3 (Va (RH z1))
  | again c1=>
   refine ⟨x.1,XU x.2 fun y s2 x=>?_⟩
   obtain ⟨h',tk,acc,c,as,rfl,rfl,z0,z1,z2,z3,z4⟩:=x
   refine Rm (m:=load s.heap.objs.size) (YN z1 (Ry ?_))
   show T acc.toList _
   rw [z4]
   exact q h' tk as z0 z2 z3 (Va (RH z1))
 ·obtain ⟨_,_,_,_,_,e',_⟩:=x
  cases e'
end
end L3
namespace L3
open PySem L2 PySem.W PyProof.Rows
section
variable {P:R8}{w:Sy}{A:Sn}{E:Ru->RC->Prop}{s:RC}
theorem Mj {v:Ru}{Q:Bool->RC->Prop}(q:Q true s):RQ (R0 P w) A (eqBool v v) Q E s:=by
 unfold eqBool
 refine SN ?_
 rw [if_pos (by simp)]
 exact Rm (Wr (Ry q))
theorem Cr:∀ k:List Int,HT.lexLt k k=false
 | []=>rfl
 | a::k=>by simp [HT.lexLt,Cr k]
noncomputable def rW (P:R8)(w:Sy)(h:SO)(b:Addr)(k:List Int):Prop:=Tb.IsT P w h k b/\∃ xs:List Ru,Zt h b xs.toArray/\UJ xs k
theorem Ml {a a' b b':Addr}{v v':Ru}{k k':List Int}{C:Bool->RC->Prop}(hu:A.units<TN)(ga:s.heap.get? a=some { cls:=.type "tuple",data:=.seq #[.ref b,v] }) (ga':s.heap.get? a'=some { cls:=.type "tuple",data:=.seq #[.ref b',v'] })
  (hb:rW P w s.heap b k)(hb':rW P w s.heap b' k')(hv:k=k'->v=v')(q:C (HT.lexLt k k') s):RQ (R0 P w) A (keyLt' (tuples' false) (.ref a) (.ref a')) C (fun _ _=>False) s:=by
 refine kat_lt ga rfl ga' rfl ?_
 refine kat_cons ((T6 (Ut P w)).eqBool hu hb.1 hb'.1 ?_)
 by_cases e:k=k'
 ·obtain rfl:=hv e
  subst e
  rw [decide_eq_true rfl]
  refine kat_yes (kat_cons (Mj (kat_yes (kat_nil ?_))))
  rw [Cr] at q
  exact q
 ·rw [decide_eq_false e]
  obtain ⟨xs,t1,i1⟩:=hb.2
  obtain ⟨ys,t2,i2⟩:=hb'.2
  refine kat_no (kat_one _ _ (HT.lt_tupInts t1 t2 (by simpa using i1) (by simpa using i2) hu ?_))
  exact q
noncomputable def nI (P:R8)(w:Sy)(A:Sn)(us:List Ru)(an:Nat->Nat->Bool)(s:RC):Prop:=
 RQ (R0 P w) A (keyKind' us.toArray) (fun κ s'=>s'=s/\∀ (i j:Nat)(C:Bool->RC->Prop),i<us.length->j<us.length->C (an i j) s->RQ (R0 P w) A (keyLt' κ (us.getD i .none) (us.getD j .none)) C (fun _ _=>False) s) (fun _ _=>False) s
theorem Mm {es:Array SV}{lo:Addr}{as bs:List Addr}{ks:List (List Int)}(hu:A.units<TN)(p:PrsAt es lo s.heap as)(h0:0<as.length)(hl:as.length=es.size)(hk:ks.length=es.size)(hbl:bs.length=es.size)(key:∀ (j:Nat)(e:SV),es[j]? = some e->e.key=.ref (bs.getD j 0)/\rW P w s.heap (bs.getD j 0) (ks.getD j []))
  (nd:ks.Nodup):nI P w A (as.map RJ) (fun i j=>HT.lexLt (ks.getD i []) (ks.getD j [])) s:=by
 have at_:∀ i,i<as.length->∃ (e:SV),es[i]? = some e/\s.heap.get? (as.getD i 0)=some { cls:=.type "tuple",data:=.seq #[.ref (bs.getD i 0),e.val] }/\rW P w s.heap (bs.getD i 0) (ks.getD i []):=fun i hi=>by
  have ea:as[i]? = some (as.getD i 0):=by simp [S3,hi]
  obtain ⟨e,e1,e2⟩:=p.prs i _ ea
  obtain ⟨k1,k2⟩:=key i e e1
  rw [k1] at e2
  exact ⟨e,e1,e2,k2⟩
 unfold nI
 have tups:KatTups s.heap (as.map RJ) (bs.map RJ):=by
  have go:∀ (n:Nat)(as' bs':List Addr),as'.length=n->bs'.length=n->(∀ i,i<n->∃ v:Ru,s.heap.get? (as'.getD i 0)=some { cls:=.type "tuple",data:=.seq #[.ref (bs'.getD i 0),v] })->KatTups s.heap (as'.map RJ) (bs'.map RJ):=by
   intro n
   induction n with
   | zero=>
    intro as' bs' h1 h2 _
    rw [Vn.mp h1,Vn.mp h2]
    exact .nil
   | succ n ih=>
    intro as' bs' h1 h2 h3
    match as',bs',h1,h2 with
    | x::as',y::bs',h1,h2=>
     obtain ⟨v,hv⟩:=h3 0 (by omega)
     refine .cons hv rfl rfl (by simp) (ih as' bs' (by simpa using h1) (by simpa using h2) fun i hi=>?_)
     have:=h3 (i+1) (by omega)
     simpa using this
  refine go as.length as bs rfl (by omega) fun i hi=>?_
  obtain ⟨e,_,e2,_⟩:=at_ i hi
  exact ⟨_,e2⟩
 refine kat_kind (T:=.type "tuple") tups (by rw [Ro];omega) (fun v hv=>?_) (by decide) ⟨rfl,fun i j C hi hj hC=>?_⟩
 ·obtain ⟨b,hb,rfl⟩:=RG.mp hv
  obtain ⟨i,hi⟩:=UW.mp hb
  have hi':i<as.length:=by
   have:=(Rw.mp hi).1
   omega
  obtain ⟨e,_,_,k2⟩:=at_ i hi'
  have:bs.getD i 0=b:=by simp [S3,hi]
  rw [this] at k2
  obtain ⟨xs,⟨o,o1,o2,_⟩,_⟩:=k2.2
  exact kitAt_ty _ _ ⟨o,o1,o2⟩
 ·rw [Ro] at hi hj
  obtain ⟨e,e1,e2,e3⟩:=at_ i hi
  obtain ⟨e',f1,f2,f3⟩:=at_ j hj
  have gi:(as.map RJ).getD i .none=.ref (as.getD i 0):=by simp [S3,hi]
  have gj:(as.map RJ).getD j .none=.ref (as.getD j 0):=by simp [S3,hj]
  rw [gi,gj]
  refine Ml hu e2 f2 e3 f3 (fun z=>?_) hC
  have hij:i=j:=by
   have h1:ks.getD i []=ks[i]:=by simp [S3,show i<ks.length by omega]
   have h2:ks.getD j []=ks[j]:=by simp [S3,show j<ks.length by omega]
   rw [h1,h2] at z
   rcases Wn i j with h|h|h
   ·exact absurd z ((TZ.mp nd) i j (by omega) (by omega) h)
   ·exact h
   ·exact absurd z.symm ((TZ.mp nd) j i (by omega) (by omega) h)
  subst hij
  rw [e1] at f1
  cases f1
  rfl
end
end L3
namespace L3
open PySem L2 PySem.W PyProof.Rows
section
variable {P:R8}{w:Sy}{A:Sn}{E:Ru->RC->Prop}{s:RC}
theorem Ct {c:Addr}{us:List Ru}{z:Nat}{R:PySem.Fin->RC->Prop}{an:Nat->Nat->Bool}(h2:2<=us.length)(h64:us.length<64)(g:s.heap.get? c=some (Th "list" us.toArray z)) (H:∀ h3:SO,(∀ b o,b≠c->s.heap.get? b=some o->h3.get? b=some o)->nI P w A us an { s with heap:=h3 })
  (q:R (.done (.ret .none)) { s with heap:=XC s.heap c us ((b8 an us.length).map fun i=>us.getD i Sz).toArray }):RQ (R0 P w) A (Builtin.«list.sort» ⟨[.ref c],[]⟩) R E s:=by
 rw [a1l]
 refine Rm (listItems_at g rfl (Rm (Xy g rfl ?_ (by rw [RS,Sh];omega) (SF _))))
 obtain ⟨y,g1⟩:∃ y,(s.heap.update c (Ta fun _=>#[])).get? c=some (Th "list" #[] y):=⟨_,a1m g _⟩
 refine Rm (Yq g1 rfl (Rm (Xd (Rm (WB (SN ?_) (SF _))) (by show us.length<=_;rw [Sh];omega))))
 have g6:(((s.heap.update c (Ta fun _=>#[])).push (Th "tuple" us.toArray 0)).push (Th "list" #[] 0)).get? c=some (Th "list" #[] y):=
  Rt _ (Rt _ g1)
 have ask:=H (((s.heap.update c (Ta fun _=>#[])).push (Th "tuple" us.toArray 0)).push (Th "list" #[] 0)) fun b o hb e=>Rt _ (Rt _ ((Tv _ _ (So hb)).trans e))
 show RQ (R0 P w) A _ R E ⟨((s.heap.update c (Ta fun _=>#[])).push (Th "tuple" us.toArray 0)).push (Th "list" #[] 0),s.gens,s.drawn,s.toks,s.os⟩
 dsimp only
 have many:¬ us.toArray.size<2:=by rw [RS];omega
 rw [if_neg many,if_neg many]
 refine Rm (S5 ask (fun κ s' hk=>?_) fun _ _ x=>x.elim)
 obtain ⟨rfl,hk⟩:=hk
 refine Rm (S5 (kat_run (ks:=us) (vs:=us) (κ:=κ) (Q:=fun st' s'=>s' = { s with heap:=((s.heap.update c (Ta fun _=>#[])).push (Th "tuple" us.toArray 0)).push (Th "list" #[] 0) }/\failedOf st'=none/\(arrOf st').map (·.2)=((b8 an us.length).map fun i=>us.getD i Sz).toArray)
  (G:=fun p s'=>s' = { s with heap:=((s.heap.update c (Ta fun _=>#[])).push (Th "tuple" us.toArray 0)).push (Th "list" #[] 0) }/\p.toList=b8 an us.length) rfl h2 h64 (fun p st' s' a1 a2 a3 a4=>⟨a4.1,a3,by rw [kat_snds rfl a2,a4.2]⟩)
  (vE (n:=us.length) (ans:=an) (fun i j C hi hj hC=>hk i j C hi hj hC) (vH (by omega)) ⟨rfl,rfl⟩)) (fun r s' hr=>?_) fun _ _ e=>e)
 obtain ⟨⟨⟩,st'⟩:=r
 obtain ⟨rfl,hf,hout⟩:=hr
 dsimp only at hf hout ⊢
 rw [hout]
 have hsz:((b8 an us.length).map fun i=>us.getD i Sz).length=us.length:=by
  rw [Ro,(oR an (n:=us.length) (by omega)).length_eq,Vu]
 refine Rm (Yq g6 rfl (Rm (Xy g6 rfl ?_ (hsz2:=by rw [RS,hsz,Sh];omega))))
 rw [hf]
 simp only [bne_self_eq_false,RE,if_false]
 exact Ry q
theorem Mn {r d:Addr}{es:Array SV}{ep:Nat}{Q:Ru->RC->Prop}{an:Nat->Nat->Bool}(hh:A.handled=none)(hv:s.heap.IsItemsView r d)(g:RawD s.heap d es ep)(h64:es.size<64)
  (H:2<=es.size->∀ (h3:SO)(tk:Nat)(as:List Addr),(∀ b o,s.heap.get? b=some o->h3.get? b=some o)->as.length=es.size->PrsAt es s.heap.objs.size h3 as->nI P w A.in1.in1 (as.map RJ) an { s with heap:=h3,toks:=tk })
  (q:∀ (h3:SO)(tk:Nat)(as:List Addr)(L e:Nat),(∀ b o,s.heap.get? b=some o->h3.get? b=some o)->as.length=es.size->PrsAt es s.heap.objs.size h3 as->s.heap.objs.size<=L->(∀ a∈as,a≠L)->h3.get? L=some (Th "list" ((b8 an es.size).map fun i=>RJ (as.getD i 0)).toArray e)->Q (.ref L) { s with heap:=h3,toks:=tk }) :
  RQ (R0 P w) A (call (.builtin "sorted") [.ref r]) Q E s:=by
 refine Wb a0e ZA ZD (ZE _) ?_
 unfold W8
 refine Rm (m:=a0A "sorted" 1 1 _) (Ry (Rm (Mi (A:=A.in1) hh hv g (by rw [Sh];omega) fun h' tk as kp al pr hlo=>?_)))
 have ul:(as.map RJ).length=es.size:=by rw [Ro,al]
 refine Rm (WB ?_ (by rw [ul,Sh];omega))
 have gL:(h'.push (Th "list" (as.map RJ).toArray 0)).get? h'.objs.size=some (Th "list" (as.map RJ).toArray 0):=RK _ rfl
 have fin:∀ out:List Ru,out=((b8 an es.size).map fun i=>RJ (as.getD i 0))->Q (.ref h'.objs.size) { s with heap:=XC (h'.push (Th "list" (as.map RJ).toArray 0)) h'.objs.size (as.map RJ) out.toArray,toks:=tk }:=by
  rintro out rfl
  obtain ⟨e,he⟩:=sortedHeap_at (h:=h'.push (Th "list" (as.map RJ).toArray 0)) (out:=((b8 an es.size).map fun i=>RJ (as.getD i 0)).toArray) gL
  have old:∀ b o,h'.get? b=some o->(XC (h'.push (Th "list" (as.map RJ).toArray 0)) h'.objs.size (as.map RJ) ((b8 an es.size).map fun i=>RJ (as.getD i 0)).toArray).get? b=some o:=fun b o x=>by
   rw [a1P (RT (RH x)) (by rw [TU];exact Z0 (RH x))]
   exact Rt _ x
  exact q _ tk as h'.objs.size e (fun b o x=>old b o (kp b o x)) al (pr.stay fun b o _ x=>old b o x) hlo (fun a ha=>RT (pr.lt ha)) he
 by_cases h2:2<=es.size
 ·refine Rm (SN (SU Ws (s:={ s with heap:=h'.push (Th "list" (as.map RJ).toArray 0),toks:=tk }) ⟨_,gL,rfl⟩ V9 (Ct (an:=an) (by omega) (by omega) gL (fun h3 k3=>?_) ⟨_,rfl,?_⟩) (Wt _)))
  ·exact H h2 h3 tk as (fun b o e=>k3 b o (RT (Si (RH e) hlo)) (Rt _ (kp b o e))) al (pr.stay fun b o hb e=>k3 b o (RT (RH e)) (Rt _ e))
  ·refine Ry ⟨_,rfl,fin _ ?_⟩
   rw [ul]
   refine Sg fun i hi=>?_
   have hi:i<as.length:=by
    have:=S9.mp ((iW an es.size).mem_iff.mp hi)
    omega
   simp [S3,hi]
 ·refine Rm (SN (SU Ws (s:={ s with heap:=h'.push (Th "list" (as.map RJ).toArray 0),toks:=tk }) ⟨_,gL,rfl⟩ V9 (vK (by omega) gL ⟨_,rfl,?_⟩) (Wt _)))
  refine Ry ⟨_,rfl,fin (as.map RJ) ?_⟩
  match as,al with
  | [],e=>rw [<- e];show []=(b8 _ 0).map _;rw [vO];rfl
  | [b],e=>rw [<- e];show [RJ b]=(b8 _ 1).map _;rw [vL];rfl
  | _::_::_,e=>rw [<- e] at h2;simp at h2
end
end L3
namespace L3
open PySem L2
noncomputable def j0 (ps:bL):bL:=(b8 (fun i j=>HT.lexLt ((ps.map (·.1)).getD i []) ((ps.map (·.1)).getD j [])) ps.length).map fun i=>ps.getD i ([],0,.non)
theorem sortT_perm {ps:bL}:(j0 ps).Perm ps:=by
 unfold j0
 have p:=(iW (fun i j=>HT.lexLt ((ps.map (·.1)).getD i []) ((ps.map (·.1)).getD j [])) ps.length).map fun i=>ps.getD i ([],0,.non)
 have e:(SG ps.length).map (fun i=>ps.getD i ([],0,.non))=ps:=by
  refine Z6 (by simp) fun i h1 h2=>?_
  simp [S3,h2]
 rw [e] at p
 exact p
end L3
namespace L3
open PySem L2
section
variable {P:R8}{w:Sy}
theorem Mo (d:Addr)(hd:(d == SW)=false):ZQ P w (Builtin.«dict.items» ⟨[.ref d],[]⟩) (fun _ R s=>(∃ es ep,RawD s.heap d es ep) /\
   R (.ok (.ret (.ref s.heap.objs.size))) { s with heap:=s.heap.push { cls:=.type "dict_items",data:=.fields #[.ref d] } }):=
 .of_wp fun A R s ⟨⟨es,ep,g⟩,h⟩=>by
  unfold Builtin.«dict.items»
  refine Rm ?_
  unfold VA
  refine Rm (TJ g.ty ?_)
  show RQ _ _ (pure d) _ _ s
  refine Ry ?_
  show RQ _ _ (Tt d >>= _) _ _ s
  unfold Tt
  rw [if_neg (by rw [hd];exact RO)]
  refine Rm (Ry ?_)
  exact Rm (SS (Ry ⟨_,rfl,h⟩))
end
noncomputable def j4 (kvs:List (List Int×D)):List (List Int×D):=(b8 (fun i j=>HT.lexLt ((kvs.map (·.1)).getD i []) ((kvs.map (·.1)).getD j [])) kvs.length).map fun i=>kvs.getD i ([],.non)
theorem Cu {α β:Type}{R:α->β->Prop}{as:List α}{bs:List β}(h:VU R as bs)(a0:α)(b0:β):∀ i,i<as.length->R (as.getD i a0) (bs.getD i b0):=by
 induction h with
 | nil=>exact fun i hi=>nomatch hi
 | cons e t ih=>
  intro i hi
  cases i with
  | zero=>exact e
  | succ i=>exact ih i (by simpa using hi)
theorem wJ {α β:Type}{R:α->β->Prop}{f:Nat->α}{g:Nat->β}:∀ {l:List Nat},(∀ i∈l,R (f i) (g i))->VU R (l.map f) (l.map g)
 | [],_=>.nil
 | i::l,h=>.cons (h i (RX ..)) (wJ fun j hj=>h j (RP _ hj))
theorem Mp {K:Rn}{π:Nat->Addr}{n:Nat}{H:Hp}{ps:bL}{kvs:List (List Int×D)}(h:IsTs K π n H ps kvs):ps.length=kvs.length/\IsTs K π n H (j0 ps) (j4 kvs):=by
 have ek:=h.to.1
 have el:ps.length=kvs.length:=by
  have:=congrArg Ss ek
  simpa using this
 refine ⟨el,?_⟩
 unfold j0 j4
 rw [ek,el]
 refine wJ fun i hi=>Cu h _ _ i ?_
 have:=S9.mp ((iW _ kvs.length).mem_iff.mp hi)
 omega
end L3
namespace L3
open PySem L2
section
variable {X:Cx}{a1Z pins0:List (Addr×TK)}{σ σ0:St}{H H0:Hp}{s s0:RC}{a:Addr}{ps ps0:bL}{ob:TK}
theorem Inv.freeze (I:Inv X a1Z σ H s)(e:H a=some (aS a ps))(ho:s.heap.get? a=some ob):Inv X a1Z σ (aI H a (.frz ob (aS a ps))) s:=by
 have ok:ObjOk X.prog X.w H s.heap a (aS a ps):=I.hok a _ e
 exact I.write (x:=a) (e:=a) (h':=s.heap) (t':=s.toks) (by rw [e];exact Uy) (.inl rfl) (fun b q _ z=>z) ⟨ob,ho⟩ ⟨ho,ok⟩
theorem Inv.thaw (I0:Inv X pins0 σ0 H0 s0)(e0:H0 a=some (aS a ps0))(I:Inv X a1Z σ H s)(e:H a=some (.frz ob (aS a ps))):Inv X a1Z σ (aI H a (aS a ps)) s:=by
 have ne:∀ {b:Addr},H b=none->b≠a:=fun {b} h z=>by rw [z,e] at h;cases h
 refine ⟨I.ok,I.os,I.bare,⟨I.base.keep,I.base.slot,fun b o h1 h2 h3=>?_,I.base.there,fun b xs h=>?_,fun b o u h=>?_,fun b qs h=>?_⟩,I.loc,I.cell,?_,fun x c h=>?_,fun p hp=>?_,fun b u q=>?_,I.len⟩
 ·have:=I.base.free b o h1 h2 h3
  rw [bA (ne this)];exact this
 ·have:=I.base.tups b xs h
  rw [bA fun z=>by rw [z,e] at this;cases this];exact this
 ·have:=I.base.frzs b o u h
  rw [bA fun z=>by
   have z0:=I0.base.frzs b o u h
   rw [z,e0] at z0;cases z0]
  exact this
 ·obtain ⟨more,h1⟩:=I.base.tbls b qs h
  exact ⟨more,by rw [bA fun z=>by rw [z,e] at h1;cases h1];exact h1⟩
 ·rw [bA (ne I.free)];exact I.free
 ·have:=I.freeC x c h
  rw [bA (ne this)];exact this
 ·obtain ⟨h1,h2,h3⟩:=I.pin p hp
  exact ⟨h1,by rw [bA (ne h2)];exact h2,h3⟩
 ·by_cases hb:b=a
  ·subst hb
   rw [cG] at q
   cases q
   exact (show ObjOk X.prog X.w H s.heap b (.frz ob (aS b ps)) from I.hok b _ e).2
  ·rw [bA hb] at q
   exact (I.hok b u q).stay (fun _ _ _ z=>z) (fun c h=>by rw [bA fun z=>by rw [z,e] at h;cases h];exact h) fun c xs h=>by rw [bA fun z=>by rw [z,e] at h;cases h];exact h
end
noncomputable def nJ (i:Nat)(ρ:aH)(μ:Hm):Option (Nat×List (List Int×D)):=match ρ[i]? with
 | some (some (.loc a))=>match μ[a]? with
  | some (.dT kvs)=>some (a,kvs)
  | _=>none
 | _=>none
theorem Cv {i:Nat}{ρ:aH}{μ:Hm}{a:Nat}{kvs:List (List Int×D)}(h:nJ i ρ μ=some (a,kvs)):μ[a]? = some (.dT kvs):=by
 unfold nJ at h
 split at h
 ·split at h
  ·rename_i hc
   cases h
   exact hc
  ·cases h
 ·cases h
noncomputable def wK (i:Nat)(m1 m2:ME):ME:=fun ρ μ=>match nJ i ρ μ with
 | some (a,kvs)=>(m1 ρ (μ.set a (.dF kvs))).bind fun r=>match r.2[a]? with
  | some (.dF kvs')=>some (r.1,r.2.set a (.dT kvs'))
  | _=>none
 | none=>m2 ρ μ
noncomputable def dW (i:Nat)(m1 m2:MS):MS:=fun ρ μ=>match nJ i ρ μ with
 | some (a,kvs)=>(m1 ρ (μ.set a (.dF kvs))).bind fun r=>match r.2.2[a]? with
  | some (.dF kvs')=>some (r.1,r.2.1,r.2.2.set a (.dT kvs'))
  | _=>none
 | none=>m2 ρ μ
section
variable {X:Cx}{a1Z:List (Addr×TK)}{σ:St}{H:Hp}{s:RC}{π:Nat->Addr}{ρ:aH}{μ:Hm}{a:Nat}{kvs:List (List Int×D)}
theorem Cw (I:Inv X a1Z σ H s)(R:Rp X.K π H μ)(E:En X.K π μ.length H σ ρ)(hc:μ[a]? = some (.dT kvs)):∃ ob ps,H (π a)=some (aS (π a) ps)/\Inv X a1Z σ (aI H (π a) (.frz ob (aS (π a) ps))) s /\
  Rp X.K π (aI H (π a) (.frz ob (aS (π a) ps))) (μ.set a (.dF kvs))/\En X.K π (μ.set a (.dF kvs)).length (aI H (π a) (.frz ob (aS (π a) ps))) σ ρ:=by
 obtain ⟨ps,e1,T⟩:=eY R hc
 obtain ⟨_,⟨ob,ho⟩,_⟩:=(show ObjOk X.prog X.w H s.heap (π a) (aS (π a) ps) from I.hok _ _ e1)
 obtain ⟨e2,R2⟩:=R.put (c:=.dF kvs) (o:=.frz ob (aS (π a) ps)) (Rw.mp hc).1 e1 (.inr (.inr ⟨_,rfl⟩)) ⟨ob,ps,rfl,T.to⟩
 exact ⟨ob,ps,e1,Inv.freeze I e1 ho,R2,E.mono e2⟩
theorem oY {pins':List (Addr×TK)}{σ':St}{H':Hp}{s':RC}{π':Nat->Addr}{μ':Hm}{ob:TK}{ps:bL}{kvs':List (List Int×D)}(I:Inv X a1Z σ H s)(e:H (π a)=some (aS (π a) ps))(ha:a<μ.length)
  (I':Inv X pins' σ' H' s')(R':Rp X.K π' H' μ')(e':Ext π (μ.set a (.dF kvs)).length (aI H (π a) (.frz ob (aS (π a) ps))) π' μ'.length H')(hc:μ'[a]? = some (.dF kvs')) :
  ∃ H2,Inv X pins' σ' H2 s'/\Ext π μ.length H π' (μ'.set a (.dT kvs')).length H2/\Rp X.K π' H2 (μ'.set a (.dT kvs'))/\Ext0 π' μ'.length H' π' (μ'.set a (.dT kvs')).length H2:=by
 have hp:π' a=π a:=e'.pi a (by rw [SE];exact ha)
 obtain ⟨ob',ps',h1,T⟩:=oV R' hc
 obtain ⟨x2,R2⟩:=R'.put0 (c:=.dT kvs') (o:=aS (π' a) ps') (Rw.mp hc).1 h1 (.inr (.inr (.inr ⟨_,_,rfl⟩))) ⟨ps',rfl,T.to⟩
 rw [hp] at h1
 refine ⟨aI H' (π' a) (aS (π' a) ps'),?_,⟨?_,fun b hb=>e'.pi b (by rw [SE];exact hb),fun p vs h=>?_,fun p o u h=>?_⟩,R2,x2⟩
 ·rw [hp]
  exact Inv.thaw I e I' h1
 ·have:=e'.le
  rw [SE] at this ⊢
  exact this
 ·have n1:p≠π a:=fun z=>by rw [z,e] at h;cases h
  have:=e'.tup p vs (by rw [bA n1];exact h)
  rw [hp,bA n1];exact this
 ·have n1:p≠π a:=fun z=>by rw [z,e] at h;cases h
  have:=e'.frz p o u (by rw [bA n1];exact h)
  rw [hp,bA n1];exact this
theorem En.mono0 {K:Rn}{π':Nat->Addr}{n n':Nat}{H':Hp}(E:En K π n H σ ρ)(e:Ext0 π n H π' n' H'):En K π' n' H' σ ρ:=
 ⟨E.len,fun i d h=>let ⟨v,h1,h2⟩:=E.get i d h;⟨v,h1,h2.mono0 e⟩⟩
end
section
variable {X:Cx}{e:RI}{st:Stmt}{i:Nat}
theorem Mq {m1 m2:ME}(h1:QE X e m1)(h2:QE X e m2):QE X e (wK i m1 m2):=⟨by
 intro a1Z s σ H Q I hw
 obtain ⟨π,ρ,μ,d,μ',R,E,hm,k⟩:=hw
 unfold wK at hm
 split at hm
 ·rename_i a kvs hv
  obtain ⟨⟨x,μ1⟩,g1,hm⟩:=Rl.mp hm
  dsimp only at hm
  split at hm
  ·rename_i kvs' hc'
   cases hm
   have hc:=Cv hv
   obtain ⟨ob,ps,e1,I1,R1,E1⟩:=Cw I R E hc
   refine aQ (h1.h a1Z s σ _ (fun v H2=>∃ π2,Ext π (μ.set a (.dF kvs)).length (aI H (π a) (.frz ob (aS (π a) ps))) π2 μ1.length H2/\Rp X.K π2 H2 μ1/\IsD X.K π2 μ1.length H2 v d) I1 ⟨π,ρ,_,d,μ1,R1,E1,g1,fun π2 v H2 e2 R2 i2=>⟨π2,e2,R2,i2⟩⟩) fun u s2 ⟨v,H2,I2,rv,π2,e2,R2,i2⟩=>?_
   obtain ⟨H3,I3,e3,R3,x3⟩:=oY I e1 (Rw.mp hc).1 I2 R2 e2 hc'
   exact ⟨v,H3,I3,rv,k π2 v H3 e3 R3 (i2.mono0 x3)⟩
  ·cases hm
 ·exact h2.h a1Z s σ H Q I ⟨π,ρ,μ,d,μ',R,E,hm,k⟩⟩
theorem wL {m1 m2:MS}(h1:QS X st m1)(h2:QS X st m2):QS X st (dW i m1 m2):=⟨by
 intro a1Z s σ H D I hw
 obtain ⟨π,ρ,μ,fl,ρ',μ',R,E,hm,k⟩:=hw
 unfold dW at hm
 split at hm
 ·rename_i a kvs hv
  obtain ⟨⟨fl1,ρ1,μ1⟩,g1,hm⟩:=Rl.mp hm
  dsimp only at hm
  split at hm
  ·rename_i kvs' hc'
   cases hm
   have hc:=Cv hv
   have ha:=(Rw.mp hc).1
   obtain ⟨ob,ps,e1,I1,R1,E1⟩:=Cw I R E hc
   refine aQ (h1.h a1Z s σ _ ⟨fun σ2 H2=>fl=.nx/\∃ π2,Ext π (μ.set a (.dF kvs)).length (aI H (π a) (.frz ob (aS (π a) ps))) π2 μ1.length H2/\Rp X.K π2 H2 μ1/\En X.K π2 μ1.length H2 σ2 ρ',
     fun v H2=>∃ d,fl=.rt d/\∃ π2,Ext π (μ.set a (.dF kvs)).length (aI H (π a) (.frz ob (aS (π a) ps))) π2 μ1.length H2/\Rp X.K π2 H2 μ1/\IsD X.K π2 μ1.length H2 v d,
     fun σ2 H2=>fl=.bk/\∃ π2,Ext π (μ.set a (.dF kvs)).length (aI H (π a) (.frz ob (aS (π a) ps))) π2 μ1.length H2/\Rp X.K π2 H2 μ1/\En X.K π2 μ1.length H2 σ2 ρ',
     fun σ2 H2=>fl=.ct/\∃ π2,Ext π (μ.set a (.dF kvs)).length (aI H (π a) (.frz ob (aS (π a) ps))) π2 μ1.length H2/\Rp X.K π2 H2 μ1/\En X.K π2 μ1.length H2 σ2 ρ'⟩ I1 ⟨π,ρ,_,fl,ρ',μ1,R1,E1,g1,?_⟩) fun f s2 q=>?_
   ·cases fl with
    | nx=>exact fun π2 σ2 H2 e2 R2 E2=>⟨rfl,π2,e2,R2,E2⟩
    | bk=>exact fun π2 σ2 H2 e2 R2 E2=>⟨rfl,π2,e2,R2,E2⟩
    | ct=>exact fun π2 σ2 H2 e2 R2 E2=>⟨rfl,π2,e2,R2,E2⟩
    | rt d=>exact fun π2 v H2 e2 R2 i2=>⟨d,rfl,π2,e2,R2,i2⟩
   ·cases f with
    | next=>
     obtain ⟨σ2,H2,I2,rfl,π2,e2,R2,E2⟩:=q
     obtain ⟨H3,I3,e3,R3,x3⟩:=oY I e1 ha I2 R2 e2 hc'
     exact ⟨σ2,H3,I3,k π2 σ2 H3 e3 R3 (En.mono0 E2 x3)⟩
    | brk=>
     obtain ⟨σ2,H2,I2,rfl,π2,e2,R2,E2⟩:=q
     obtain ⟨H3,I3,e3,R3,x3⟩:=oY I e1 ha I2 R2 e2 hc'
     exact ⟨σ2,H3,I3,k π2 σ2 H3 e3 R3 (En.mono0 E2 x3)⟩
    | cont=>
     obtain ⟨σ2,H2,I2,rfl,π2,e2,R2,E2⟩:=q
     obtain ⟨H3,I3,e3,R3,x3⟩:=oY I e1 ha I2 R2 e2 hc'
     exact ⟨σ2,H3,I3,k π2 σ2 H3 e3 R3 (En.mono0 E2 x3)⟩
    | ret u=>
     obtain ⟨v,σ2,H2,I2,rv,d,rfl,π2,e2,R2,i2⟩:=q
     obtain ⟨H3,I3,e3,R3,x3⟩:=oY I e1 ha I2 R2 e2 hc'
     exact ⟨v,σ2,H3,I3,rv,k π2 v H3 e3 R3 (i2.mono0 x3)⟩
  ·cases hm
 ·exact h2.h a1Z s σ H D I ⟨π,ρ,μ,fl,ρ',μ',R,E,hm,k⟩⟩
end
noncomputable def wM (d:Addr)(ob:TK)(ps:bL):It:=⟨fun i H=>H d=some (.frz ob (aS d ps))/\i<ps.length,fun i H x H'=>H'=H/\∃ p,ps[i]? = some p/\x=.ref p.2.1,fun i H=>H d=some (.frz ob (aS d ps))/\ps.length<=i⟩
theorem wN {X:Cx}{a1Z:List (Addr×TK)}{σ:St}{H:Hp}{s:RC}{d:Addr}{ob:TK}{ps:bL}(I:Inv X a1Z σ H s)(e:H d=some (.frz ob (aS d ps))) :
  (d == SW)=false/\ps.length<=RL/\∃ es ep,RawD s.heap d es ep/\ob.data=.dict es ep/\es.toList.map (·.key)=ps.map fun p=>RJ p.2.1:=by
 obtain ⟨g0,⟨ws,r,hs,hl,o,es,ep,h1,h2,h3,h4,h5⟩,_⟩:=(show ObjOk X.prog X.w H s.heap d (.frz ob (aS d ps)) from I.hok d _ e)
 rw [g0] at h1
 cases h1
 refine ⟨hs,hl,es,ep,⟨ob,g0,h2,h3⟩,h3,?_⟩
 rw [h4,rP (P:=X.prog) (w:=X.w),RU,<- wG r]
 rfl
theorem Mr {P:R8}{w:Sy}{K:Rn}{tg:RI}{d it:Addr}{ob:TK}{ps:bL}{es:Array SV}{ep:Nat}(hd:ob.data=.dict es ep):Turn P w K tg (wM d ob ps) [it] it (fun i h=>h.IsKeyIter it d i es.size ep) where
 mem:=by simp
 obj:=fun i h st b hb=>by
  have e:b=it:=by simpa using hb
  subst e
  obtain ⟨o,e,c,d⟩:=st
  exact ⟨o,e,fun v z=>by rw [d] at z;cases z⟩
 keep:=fun i h h' st k=>st.at fun o e=>k it (by simp) o e
 item:=by
  intro X hP hw hK hc i a1Z s σ H E I hf st hg
  subst hP hw hK
  obtain ⟨hg1,hg2⟩:=hg
  obtain ⟨lo,hl,es',ep',g,hd',he⟩:=wN I hg1
  rw [hd] at hd'
  cases hd'
  have hs:es.size=ps.length:=by
   have:=congrArg Ss he
   simpa using this
  obtain ⟨f0,f1,f2,f3,f4,f5⟩:=hf it (by simp)
  refine rS (I.ok.hd hc) st g (fun e h' he' j' sb=>?_) fun hn=>by simp at hn;omega
  have I1:Inv X a1Z σ H { s with heap:=h' }:=I.turned (t':=s.toks) (fun b o hb e=>(sb.2 b hb).trans e) f0 f1 f3 f4 f5
  obtain ⟨o,e1,c,d1⟩:=id j'
  have hp:ps[i]? = some ps[i]:=RN hg2
  have ek:e.key=.ref (ps[i]).2.1:=by
   have:=congrArg (·[i]?) he
   simp only [RR,Tp,he',hp,Sb] at this
   exact RY this
  exact ⟨e.key,rfl,oB (s:={ s with heap:=h' }) e1 c d1 (by decide) ⟨.ref (ps[i]).2.1,H,I1,ek,⟨rfl,ps[i],hp,rfl⟩,j',fun b hb=>(hf b hb).1⟩⟩
 done:=by
  intro X hP hw hK hc i a1Z s σ H E I hf st hg
  subst hP hw hK
  obtain ⟨hg1,hg2⟩:=hg
  obtain ⟨lo,hl,es',ep',g,hd',he⟩:=wN I hg1
  rw [hd] at hd'
  cases hd'
  have hs:es.size=ps.length:=by
   have:=congrArg Ss he
   simpa using this
  obtain ⟨f0,f1,f2,f3,f4,f5⟩:=hf it (by simp)
  exact rS (I.ok.hd hc) st g (fun e h' he'=>by
   have:=(X5.mp he').1
   omega) fun _ h' eb=>⟨rfl,I.turned (t':=s.toks) (fun b o hb e=>eb b o hb e) f0 f1 f3 f4 f5⟩
 self:=fun _ _ _ _ _ st h=>Z9 st h
theorem Ms {X:Cx}{l tg:RI}{tl:TE}(hl:PE X l tl):PI X tg l (fun σ H R=>tl σ H fun v H1=>∃ d ob ps,v=.ref d/\H1 d=some (.frz ob (aS d ps))/\R (wM d ob ps) H1):=by
 intro a1Z s σ H R I h
 refine aQ (hl a1Z s σ H _ I h) fun v s1 ⟨y,H1,I1,r1,q1⟩=>?_
 obtain ⟨d,ob,ps,e,hf,q⟩:=q1
 subst e
 obtain rfl:v=RJ d:=r1
 obtain ⟨lo,hl,es,ep,g,hd,he⟩:=wN I1 hf
 refine Cg lo g ⟨s1.heap.objs.size,[s1.heap.objs.size],_,_,H1,rfl,I1.kept (t':=s1.toks) fun b o e=>Rt _ e,Mr hd,⟨_,RK _ rfl,rfl,rfl⟩,fun b hb=>?_,q⟩
 have e:b=s1.heap.objs.size:=by simpa using hb
 subst e
 exact I1.fpOk (RD _) (I1.hok.fresh (RD _))
noncomputable def dP (kvs:List (List Int×D)):List D:=kvs.map fun k=>D.tup (k.1.map D.int)
theorem Mt {K:Rn}{π:Nat->Addr}{n:Nat}{H:Hp}{d:Addr}{ob:TK}{ps:bL}{kvs:List (List Int×D)}(e0:H d=some (.frz ob (aS d ps)))(T:IsTs K π n H ps kvs):Wk K (wM d ob ps) (dU (.tup (dP kvs))) π n H:=by
 have el:ps.length=kvs.length:=by
  have:=congrArg Ss T.to.1
  simpa using this
 refine ⟨fun π' μ H' i e R z=>?_,fun π' μ H' i dd e R z=>?_⟩
 ·have z':(dP kvs)[i]? = none:=RY z
  have:=Su.mp z'
  rw [dP,Ro] at this
  exact ⟨e.frz _ _ _ e0,by omega⟩
 ·have z':(dP kvs)[i]? = some dd:=RY z
  have hi:i<kvs.length:=by
   have:=(Rw.mp z').1
   rwa [dP,Ro] at this
  refine ⟨⟨e.frz _ _ _ e0,by omega⟩,fun v H2 ⟨e1,p,e2,e3⟩=>?_⟩
  subst e1 e3
  obtain ⟨v',h1,h2⟩:=(T.to.2.1.mono e).get z'
  rw [RR,e2] at h1
  cases h1
  exact ⟨.refl,R,h2⟩
noncomputable def eA (m:ME):MI:=fun ρ μ=>(m ρ μ).bind fun p=>match p.1 with
 | .loc a=>match p.2[a]? with
  | some (.dF kvs)=>some (dU (.tup (dP kvs)),kvs.length+1,p.2)
  | _=>none
 | _=>none
theorem wO {X:Cx}{e:RI}{m:ME}(h:QE X e m):QJ X e (eA m):=⟨fun tg a1Z s σ H R I hw=>by
 obtain ⟨π,ρ,μ,src,n,μ',Rr,E,hm,k⟩:=hw
 obtain ⟨⟨x,μ1⟩,h1,hm⟩:=Rl.mp hm
 dsimp only at hm
 split at hm
 ·split at hm
  ·rename_i kvs hc
   cases hm
   refine Ms h.h a1Z s σ H R I ⟨π,ρ,μ,_,_,Rr,E,h1,fun π1 v1 H1 e1 R1 i1=>?_⟩
   cases i1
   obtain ⟨ob,ps,f1,T⟩:=oV R1 hc
   exact ⟨_,ob,ps,rfl,f1,k π1 H1 _ e1 R1 (Mt f1 T)⟩
  ·cases hm
 ·cases hm⟩
end L3
namespace L3
open PySem L2 PySem.W PyProof.Rows
section
variable {P:R8}{w:Sy}{A:Sn}{E:Ru->RC->Prop}{s:RC}
noncomputable def Cy (h:SO)(b:Addr)(k:List Int):Prop:=∃ xs:List Ru,Zt h b xs.toArray/\UJ xs k
theorem Mu {bs:List Addr}{ks:List (List Int)}(h0:0<bs.length)(hl:ks.length=bs.length)(key:∀ (j:Nat)(b:Addr),bs[j]? = some b->Cy s.heap b (ks.getD j [])/\ks.getD j []≠[]):nI P w A (bs.map RJ) (fun i j=>HT.lexLt (ks.getD i []) (ks.getD j [])) s:=by
 have tups:∃ fs:List Ru,fs.length=bs.length/\KatTups s.heap (bs.map RJ) fs/\∀ v∈fs,∃ i t,v=VC i t:=by
  clear h0
  induction bs generalizing ks with
  | nil=>exact ⟨[],rfl,.nil,fun v hv=>nomatch hv⟩
  | cons b bs ih=>
   match ks,hl with
   | k::ks,hl=>
    obtain ⟨fs,g0,g1,g2⟩:=ih (ks:=ks) (by simpa using hl) fun j c hc=>by simpa using key (j+1) c (by simpa using hc)
    obtain ⟨⟨xs,⟨o,e,c,n,d⟩,hi⟩,hne⟩:=key 0 b rfl
    simp only [List.getD_cons_zero] at hi hne
    cases hi with
    | nil=>exact absurd rfl hne
    | @cons i tk xs' ns' hi'=>
     refine ⟨VC i tk::fs,by simp [g0],.cons e c d (by simp) g1,fun v hv=>?_⟩
     rcases Sa.mp hv with rfl|hv
     ·exact ⟨i,tk,rfl⟩
     ·exact g2 v hv
 obtain ⟨fs,g0,g1,g2⟩:=tups
 unfold nI
 refine kat_kind (T:=.type "int") g1 ?_ (fun v hv=>?_) rfl ⟨rfl,fun i j C hi hj hC=>?_⟩
 ·omega
 ·obtain ⟨i,t,rfl⟩:=g2 v hv
  exact .now
 ·rw [Ro] at hi hj
  obtain ⟨⟨xa,⟨oa,ea,ca,na,da⟩,ia⟩,_⟩:=key i bs[i] (RN hi)
  obtain ⟨⟨xb,⟨ob,eb,cb,nb,db⟩,ib⟩,_⟩:=key j bs[j] (RN hj)
  have ga:(bs.map RJ).getD i .none=.ref bs[i]:=by simp [S3,hi]
  have gb:(bs.map RJ).getD j .none=.ref bs[j]:=by simp [S3,hj]
  rw [ga,gb]
  exact kat_lt ea da eb db (vJ 0 ia ib hC)
theorem Mv {d:Addr}{es:Array SV}{ep:Nat}{Q:Ru->RC->Prop}{bs:List Addr}{ks:List (List Int)}(hh:A.handled=none)(lo:(d == SW)=false)(g:RawD s.heap d es ep)(eb:es.toList.map (·.key)=bs.map RJ)(h64:es.size<64)(hl:ks.length=bs.length)
  (key:∀ (j:Nat)(b:Addr),bs[j]? = some b->Cy s.heap b (ks.getD j [])/\ks.getD j []≠[])
  (q:∀ (h' h3:SO)(tk:Nat)(e:Nat),(∀ b o,s.heap.get? b=some o->h'.get? b=some o)->(∀ b o,h'.get? b=some o->h3.get? b=some o)->h3.get? h'.objs.size=some (Th "list" ((b8 (fun i j=>HT.lexLt (ks.getD i []) (ks.getD j [])) es.size).map fun i=>RJ (bs.getD i 0)).toArray e)->Q (.ref h'.objs.size) { s with heap:=h3,toks:=tk }) :
  RQ (R0 P w) A (call (.builtin "sorted") [.ref d]) Q E s:=by
 have hbl:bs.length=es.size:=by
  have:=congrArg Ss eb
  simpa using this.symm
 refine Wb a0e ZA ZD (ZE _) ?_
 unfold W8
 refine Rm (m:=a0A "sorted" 1 1 _) (Ry (Rm (kdu_collect (A:=A.in1) (Ci lo) hh g (by rw [Sh];omega) fun h' tk acc kp hacc=>?_)))
 have ea:acc.toList=bs.map RJ:=by
  rw [<- eb]
  refine Vv fun i=>?_
  rw [RR,Tp,Tp]
  cases hv:acc[i]? with
  | some v=>
   obtain ⟨e,z1,z2⟩:=hacc.2 i v hv
   rw [z1,z2];rfl
  | none=>
   have:acc.size<=i:=by simpa using hv
   rw [WA (by rw [<- hacc.1];exact this)];rfl
 rw [ea]
 have ul:(bs.map RJ).length=es.size:=by rw [Ro,hbl]
 refine Rm (WB ?_ (by rw [ul,Sh];omega))
 have gL:(h'.push (Th "list" (bs.map RJ).toArray 0)).get? h'.objs.size=some (Th "list" (bs.map RJ).toArray 0):=RK _ rfl
 have fin:∀ out:List Ru,out=((b8 (fun i j=>HT.lexLt (ks.getD i []) (ks.getD j [])) es.size).map fun i=>RJ (bs.getD i 0))->Q (.ref h'.objs.size) { s with heap:=XC (h'.push (Th "list" (bs.map RJ).toArray 0)) h'.objs.size (bs.map RJ) out.toArray,toks:=tk }:=by
  rintro out rfl
  obtain ⟨e,he⟩:=sortedHeap_at (h:=h'.push (Th "list" (bs.map RJ).toArray 0)) (out:=((b8 (fun i j=>HT.lexLt (ks.getD i []) (ks.getD j [])) es.size).map fun i=>RJ (bs.getD i 0)).toArray) gL
  refine q h' _ tk e kp (fun b o x=>?_) he
  rw [a1P (RT (RH x)) (by rw [TU];exact Z0 (RH x))]
  exact Rt _ x
 by_cases h2:2<=es.size
 ·refine Rm (SN (SU Ws (s:={ s with heap:=h'.push (Th "list" (bs.map RJ).toArray 0),toks:=tk }) ⟨_,gL,rfl⟩ V9 (Ct (an:=fun i j=>HT.lexLt (ks.getD i []) (ks.getD j [])) (by omega) (by omega) gL (fun h3 k3=>?_) ⟨_,rfl,?_⟩) (Wt _)))
  ·refine Mu (by omega) hl fun j b hj=>?_
   obtain ⟨⟨xs,⟨o,o1,o2⟩,hi⟩,hne⟩:=key j b hj
   have o1':=kp _ _ o1
   exact ⟨⟨xs,⟨o,k3 b o (RT (RH o1')) (Rt _ o1'),o2⟩,hi⟩,hne⟩
  ·refine Ry ⟨_,rfl,fin _ ?_⟩
   rw [ul]
   refine Sg fun i hi=>?_
   have hi:i<bs.length:=by
    have:=S9.mp ((oR _ (n:=es.size) (by omega)).mem_iff.mp hi)
    omega
   simp [S3,hi]
 ·refine Rm (SN (SU Ws (s:={ s with heap:=h'.push (Th "list" (bs.map RJ).toArray 0),toks:=tk }) ⟨_,gL,rfl⟩ V9 (vK (by omega) gL ⟨_,rfl,?_⟩) (Wt _)))
  refine Ry ⟨_,rfl,fin (bs.map RJ) ?_⟩
  match bs,hbl with
  | [],e=>rw [<- e];show []=(b8 _ 0).map _;rw [vO];rfl
  | [b],e=>rw [<- e];show [RJ b]=(b8 _ 1).map _;rw [vL];rfl
  | _::_::_,e=>rw [<- e] at h2;simp at h2
end
end L3
namespace L3
open PySem L2
noncomputable def Cz (K:Rn):List V->Hp->VK->Prop:=fun xs H Q=>∃ a ps,xs=[V.ref a]/\H a=some (aS a ps)/\dE K H ps/\ps.length<64/\(∀ p∈ps,p.1≠[])/\∀ l,H l=none->Q (.ref l) (aI H l (.lst ((j0 ps).map fun p=>V.ref p.2.1)))
section
variable {X:Cx}
theorem Mw (hc:X.calm=true):CallR X (.builtin "sorted") (Cz X.K):=by
 intro a1Z s σ H xs us Q I r h
 obtain ⟨a,ps,rfl,ha,hk,h64,hne,q⟩:=h
 obtain ⟨u,rfl,ru⟩:=fU r
 cases ru
 obtain ⟨lo,hl,es,ep,g,he⟩:=kL I ha hk
 have hs:es.size=ps.length:=by
  have:=congrArg Ss he
  simpa using this
 have gd:∀ {j:Nat}{b:Addr},(ps.map (·.2.1))[j]? = some b->∃ p∈ps,ps[j]? = some p/\p.2.1=b:=fun {j b} hj=>by
  rw [RR] at hj
  obtain ⟨p,g1,g2⟩:=Rv.mp hj
  exact ⟨p,Sf g1,g1,g2⟩
 refine Mv (bs:=ps.map (·.2.1)) (ks:=ps.map (·.1)) (I.ok.hd hc) lo g (by rw [he,RU];rfl) (by omega) (by simp) (fun j b hj=>?_) fun h' h3 tk e k1 k2 k3=>?_
 ·obtain ⟨p,hp,g1,rfl⟩:=gd hj
  have e0:(ps.map (·.1)).getD j []=p.1:=by simp [S3,g1]
  rw [e0]
  obtain ⟨its,rx,t,_⟩:=I.tuple (hk p hp)
  exact ⟨⟨its,t,t7 rx⟩,hne p hp⟩
 ·have I1:Inv X a1Z σ H { s with heap:=h',toks:=tk }:=I.kept (t':=tk) k1
  refine ⟨.ref h'.objs.size,_,I1.laid (t':=tk) (h':=h3) (a:=h'.objs.size) (o:=.lst ((j0 ps).map fun p=>V.ref p.2.1)) k2 (RD _) ?_,rfl,q _ (I1.hok.fresh (RD _))⟩
  have hln:(j0 ps).length=ps.length:=sortT_perm.length_eq
  refine ⟨by rw [Ro,hln];exact hl,_,e,?_,k3⟩
  unfold j0
  rw [hs,RU]
  have:∀ l:List Nat,(∀ i∈l,i<ps.length)->Vals (l.map ((fun p:List Int×Addr×V=>V.ref p.2.1) ∘ fun i=>ps.getD i ([],0,.non))) (l.map fun i=>RJ ((ps.map (·.2.1)).getD i 0)):=fun l hl=>by
   induction l with
   | nil=>exact .nil
   | cons i l ih=>
    refine .cons ?_ (ih fun j hj=>hl j (RP _ hj))
    have hi:=hl i (RX ..)
    show RJ _=RJ _
    simp [S3,hi]
  exact this _ fun i hi=>S9.mp ((iW _ ps.length).mem_iff.mp hi)
end
noncomputable def nK (μ:Hm):D->Bool
 | .loc a=>match μ[a]? with|some (.dT _)=>true|_=>false
 | _=>false
noncomputable def i7 (f:D->List D->Hm->Option (D×Hm))(mo:ME)(ms:MA):ME:=fun ρ μ=>(mo ρ μ).bind fun p=>match nK p.2 p.1 with
 | true=>(ms ρ p.2).bind fun q=>f p.1 q.1 q.2
 | false=>none
noncomputable def oZ (K:Rn)(x:V)(H:Hp):Prop:=∃ a ps,x=.ref a/\H a=some (aS a ps)/\dE K H ps
theorem CA {K:Rn}{π:Nat->Addr}{H:Hp}{μ:Hm}{v:V}{x:D}(R:Rp K π H μ)(h:IsD K π μ.length H v x)(e:nK μ x=true):oZ K v H:=by
 cases h with
 | @loc a ha=>
  simp only [nK] at e
  split at e
  ·rename_i xs hx
   obtain ⟨ps,h1,T⟩:=eY R hx
   exact ⟨_,ps,rfl,h1,T.keys⟩
  ·cases e
 | _=>cases e
section
variable {X:Cx}{e o:RI}{mo:ME}{to:TE}{t:TA}{apos cpos:TC}{es:List RI}{ms:MA}{n:Nat}{r:V->List V->Hp->VK->Prop}{f:D->List D->Hm->Option (D×Hm)}{name:Str}{id:String}
theorem Mx (slot:a0W "dict" name id) (hty:Yg (.builtin id)=pure (.type "method_descriptor")) (hm:fW X id r)(ho:PE X o to)(ha:PA X (e::es) t)(hbase:UH o name X.env (eval o X.env)=eval o X.env)
  (hfew:((Uz cpos (Sj (e::es) X.env)).all (fun x=>!x.1)&&(YV cpos (Xf [] X.env)).all (fun x=>x.1.isSome)&&decide ((e::es).length+([]:List Vh).length+(if ([]:List Vh).isEmpty then 0 else 1)<30))=true)
  (hline:(apos.endLine == cpos.line)=true)(hs:Sj (e::es) X.env=(false,eval e X.env)::Sj es X.env)(hplain:(Uz cpos (Sj es X.env)).any (·.1)=false) :
  PE X (.Call (.Attribute o name apos) (e::es) [] cpos) (fun σ H Q=>to σ H fun x H1=>oZ X.K x H1/\t σ H1 fun vs H2=>r x vs H2 Q):=by
 intro a1Z s σ H Q I h
 refine Zw hbase hfew hline rfl (aQ (ho a1Z s σ H _ I h) fun v s1 ⟨x,H1,I1,r1,ty,q1⟩=>?_)
 obtain ⟨a,ps,rfl,f1,hk⟩:=ty
 obtain rfl:v=RJ a:=r1
 obtain ⟨lo,hl,vs,ep,g,_⟩:=kL I1 f1 hk
 refine ⟨"dict",id,Vg,slot,hty,g.ty,fun b eb=>?_,?_⟩
 ·cases eb
  obtain ⟨z,g1,g2,_⟩:=g
  exact ⟨z,g1,g2.2.1⟩
 have hA:=ha cpos a1Z s1 σ H1 _ I1 q1
 rw [hs] at hA ⊢
 refine Ud (by show (false||(Uz cpos (Sj es X.env)).any (·.1))=false;rw [hplain]<;>rfl) (Y2 ?_)
 exact aQ hA fun us s2 ⟨vs,H2,I2,r2,q2⟩=>hm a1Z s2 σ H2 (.ref a) vs _ us Q I2 rfl r2 q2
theorem My (slot:a0W "dict" name id) (hty:Yg (.builtin id)=pure (.type "method_descriptor")) (hm:fW X id r)(ho:PE X o to)(hbase:UH o name X.env (eval o X.env)=eval o X.env)(hline:(apos.endLine == cpos.line)=true) :
  PE X (.Call (.Attribute o name apos) [] [] cpos) (fun σ H Q=>to σ H fun x H1=>oZ X.K x H1/\r x [] H1 Q):=by
 intro a1Z s σ H Q I h
 refine VB hbase hline (aQ (ho a1Z s σ H _ I h) fun v s1 ⟨x,H1,I1,r1,ty,q1⟩=>?_)
 obtain ⟨a,ps,rfl,f1,hk⟩:=ty
 obtain rfl:v=RJ a:=r1
 obtain ⟨lo,hl,vs,ep,g,_⟩:=kL I1 f1 hk
 refine ⟨"dict",id,Vg,slot,hty,g.ty,fun b eb=>?_,Ud rfl (VQ ?_)⟩
 ·cases eb
  obtain ⟨z,g1,g2,_⟩:=g
  exact ⟨z,g1,g2.2.1⟩
 exact hm a1Z s1 σ H1 (.ref a) [] _ [] Q I1 rfl .nil q1
theorem Mz {K:Rn}(hf:eX K f r):∀ σ H Q,tM K (i7 f mo ms) σ H Q->tM K mo σ H fun x H1=>oZ K x H1/\eU K ms σ H1 fun vs H2=>r x vs H2 Q:=by
 rintro σ H Q ⟨π,ρ,μ,d,μ',R,E,hm,k⟩
 obtain ⟨⟨x,μ1⟩,h1,hm⟩:=Rl.mp hm
 dsimp only at hm
 split at hm
 ·rename_i hl
  obtain ⟨⟨xs,μ2⟩,h2,hm⟩:=Rl.mp hm
  refine ⟨π,ρ,μ,x,μ1,R,E,h1,fun π1 v1 H1 e1 R1 i1=>⟨CA R1 i1 hl,π1,ρ,μ1,xs,μ2,R1,E.mono e1,h2,fun π2 vs H2 e2 R2 i2=>?_⟩⟩
  exact hf π2 H2 μ2 x xs d μ' v1 vs Q R2 (i1.mono e2) i2 hm (k.after (e1.trans e2))
 ·cases hm
theorem MB {K:Rn}(hf:eX K f r):∀ σ H Q,tM K (i7 f mo aD) σ H Q->tM K mo σ H fun x H1=>oZ K x H1/\r x [] H1 Q:=by
 rintro σ H Q ⟨π,ρ,μ,d,μ',R,E,hm,k⟩
 obtain ⟨⟨x,μ1⟩,h1,hm⟩:=Rl.mp hm
 dsimp only at hm
 split at hm
 ·rename_i hl
  obtain ⟨⟨xs,μ2⟩,h2,hm⟩:=Rl.mp hm
  cases h2
  refine ⟨π,ρ,μ,x,μ1,R,E,h1,fun π1 v1 H1 e1 R1 i1=>⟨CA R1 i1 hl,?_⟩⟩
  exact hf π1 H1 μ1 x [] d μ' v1 [] Q R1 i1 .nil hm (k.after e1)
 ·cases hm
theorem CB (slot:a0W "dict" name id) (hty:Yg (.builtin id)=pure (.type "method_descriptor")) (hm:fW X id r)(hf:eX X.K f r)
  (ho:QE X o mo)(ha:QA X (e::es) ms n)(hs:iV o=true)(hl:(apos.endLine == cpos.line)=true)(hn:(e::es).length<30):QE X (.Call (.Attribute o name apos) (e::es) [] cpos) (i7 f mo ms):=by
 have hst:=ha.s
 have hst':=hst
 rw [Sx,RF] at hst'
 exact ⟨cM (Mx slot hty hm ho.h ha.h (jX hs) (BE hst hn) hl (eW hst'.1) (lK hst'.2)) (Mz hf)⟩
theorem MC (slot:a0W "dict" name id) (hty:Yg (.builtin id)=pure (.type "method_descriptor")) (hm:fW X id r)(hf:eX X.K f r)
  (ho:QE X o mo)(hs:iV o=true)(hl:(apos.endLine == cpos.line)=true):QE X (.Call (.Attribute o name apos) [] [] cpos) (i7 f mo aD):=
 ⟨cM (My slot hty hm ho.h (jX hs) hl) (MB hf)⟩
end
noncomputable def kM:D->List D->Hm->Option (D×Hm)
 | .loc a,[y,z],μ=>match μ[a]? with
  | some (.dT kvs)=>(dG y).map fun k=>((bO kvs k).getD z,μ)
  | _=>none
 | _,_,_=>none
noncomputable def CC (K:Rn):V->List V->Hp->VK->Prop:=fun x vs H Q=>∃ a b ps k z,x=.ref a/\vs=[.ref b,z]/\H a=some (aS a ps)/\dE K H ps/\SqT K H b (k.map V.int)/\Q ((dD ps k).getD z) H
theorem MH {K:Rn}:eX K kM (CC K):=by
 intro π H μ x xs d μ' v vs Q R ix ixs hm k
 unfold kM at hm
 split at hm
 ·split at hm
  ·rename_i kvs hc
   obtain ⟨kk,h1,hm⟩:=Rv.mp hm
   cases hm
   cases ix
   cases ixs with
   | cons iy t=>
    cases t with
    | cons iz t=>
     cases t
     obtain ⟨ps,e1,T⟩:=eY R hc
     obtain ⟨b,rfl,hb⟩:=l0 iy h1
     refine ⟨_,b,ps,kk,_,rfl,rfl,e1,T.keys,hb,k π _ H .refl R ?_⟩
     rcases T.val kk with ⟨z1,z2⟩|⟨v,d2,z1,z2,z3⟩
     ·rw [z1,z2];exact iz
     ·rw [z1,z2];exact z3
  ·cases hm
 ·cases hm
theorem MJ {X:Cx}(hu:X.A.units+1<TN):fW X "dict.get" (CC X.K):=by
 intro a1Z s σ H x vs v us Q I rx rv h
 obtain ⟨a,b,ps,k,z,rfl,rfl,e,hk,hb,q⟩:=h
 cases rx
 obtain ⟨u,u2,rfl,ru,ru2⟩:=rv.two
 obtain rfl:u=RJ b:=ru
 obtain ⟨hs,hl,ws,r,d⟩:=iI I (.of e) hk
 refine Wh Yu d.typeIs PySem.F.entry_dict_get (PySem.F.args_dict_get_3 _ _ _) (meetsH_dict_get_default (T6 (Ut X.prog X.w)) a b hs u2) ⟨kK hu,k,_,kH I hb,d,?_⟩
 refine ⟨(dD ps k).getD z,H,I.tok _,?_,q⟩
 have:=kJ r k
 cases h1:dD ps k with
 | none=>
  rw [h1] at this
  cases h2:(VJ (bG ps ws) k).map (·.2) with
  | none=>exact ru2
  | some y=>rw [h2] at this;exact this.elim
 | some w'=>
  rw [h1] at this
  cases h2:(VJ (bG ps ws) k).map (·.2) with
  | none=>rw [h2] at this;exact this.elim
  | some y=>rw [h2] at this;exact this
end L3
namespace L3
open PySem L2
section
variable {P:R8}{w:Sy}{K:Type} [DecidableEq K] {knd:HeapKind P w K}{A:Sn}{E:Ru->RC->Prop}{s:RC}{d a:Addr}{k:K}{xs:List (K×Addr×Ru)}
theorem MK {v:Ru}{Q:Ru->RC->Prop}(hu:knd.room A)(hk:knd.is s.heap k a)(hm:s.heap.DictOfH knd d xs)(hz:xs.length<=RL)
  (h1:∀ p,VJ xs k=some p->Q p.2 { s with toks:=s.toks+knd.draws k })(h2:VJ xs k=none->∀ h',h'.DictOfH knd d (a0J xs k a v)->T1 d s.heap h'->Q v { s with heap:=h',toks:=s.toks+knd.draws k }) :
  RQ (R0 P w) A (YS d (.ref a) v) Q E s:=by
 obtain ⟨o,es,ep,ho,hc,hd,he,his,hn⟩:=id hm
 unfold YS
 refine SN (Rm (knd.pyHash hu hk (Rm (a0o (s:={ s with toks:=s.toks+knd.draws k }) hu hk ho hd he his hn (fun hno=>?_) fun j p hj=>?_))))
 ·have hnk:=a0M hno
  have hnot:k∉xs.map (·.1):=not_mem_keys_of_get hno
  refine Rm (Wr (Rm (Z8 (hz:=by have e:=Yz he;omega) (s:={ s with toks:=s.toks+knd.draws k }) ho hd (Ry (h2 hnk _ ⟨_,_,ep+1,S2 _ ho (W6 (U4 hd _)),hc.mapDictKeys _,U4 hd _,?_,fun x hx=>?_,?_⟩ (SX ..))))))
  ·rw [a0a hnk];simp [he,a0y]
  ·rw [a0a hnk] at hx
   rcases S8.mp hx with hx|hx
   ·exact knd.keeps (his x hx) ho hd (SX ..)
   ·rw [Sk] at hx;subst hx;exact knd.keeps hk ho hd (SX ..)
  ·rw [a0a hnk,Se,Uu]
   exact ⟨hn,by simp,fun x hx y hy e=>by
    simp only [RM,U7,Sk] at hy
    subst hy;exact hnot (e ▸ hx)⟩
 ·refine Rm (SM (s:={ s with toks:=s.toks+knd.draws k }) ho hd ?_)
  rw [a1S he j,hj]
  exact Rm (Wr (Ry (h1 _ (atKey_of_get hn hj))))
theorem ML (knd:HeapKind P w K)(d a:Addr)(hd:(d == SW)=false)(v:Ru):ZQ P w (Builtin.«dict.setdefault» ⟨[.ref d,.ref a,v],[]⟩) (fun A R s=>knd.room A.in1/\∃ k xs,knd.is s.heap k a/\s.heap.DictOfH knd d xs/\xs.length<=RL /\
   (∀ p,VJ xs k=some p->R (.ok (.ret p.2)) { s with toks:=s.toks+knd.draws k })/\(VJ xs k=none->∀ h',h'.DictOfH knd d (a0J xs k a v)->T1 d s.heap h'->R (.ok (.ret v)) { s with heap:=h',toks:=s.toks+knd.draws k })):=
 .of_wp fun A R s ⟨hu,k,xs,hk,hm,hz,h1,h2⟩=>by
  unfold Builtin.«dict.setdefault»
  refine Rm ?_
  unfold a1L
  refine Rm (TJ hm.typeIs (Ry ?_))
  show RQ _ _ (if (d == SW)=true then _ else (YS d (.ref a) v >>= _)) _ _ s
  rw [if_neg (by rw [hd];exact RO)]
  exact Rm (MK hu hk hm hz (fun p hp=>Ry ⟨_,rfl,h1 p hp⟩) fun hn h' hm' hs'=>Ry ⟨v,rfl,h2 hn h' hm' hs'⟩)
end
noncomputable def wQ:D->List D->Hm->Option (D×Hm)
 | .loc a,[y,z],μ=>match μ[a]? with
  | some (.dT kvs)=>(dG y).bind fun k=>match bO kvs k with
   | some d=>some (d,μ)
   | none=>if kvs.length<RL then some (z,μ.set a (.dT (dC kvs k z))) else none
  | _=>none
 | _,_,_=>none
noncomputable def CD (K:Rn):V->List V->Hp->VK->Prop:=fun x vs H Q=>∃ a b ps k z,x=.ref a/\vs=[.ref b,z]/\H a=some (aS a ps)/\dE K H ps/\SqT K H b (k.map V.int)/\((∃ v,dD ps k=some v/\Q v H)\/(dD ps k=none/\ps.length<RL/\Q z (aI H a (aS a (hU ps k b z)))))
theorem MM {K:Rn}:eX K wQ (CD K):=by
 intro π H μ x xs d μ' v vs Q R ix ixs hm k
 unfold wQ at hm
 split at hm
 ·split at hm
  ·rename_i kvs hc
   obtain ⟨kk,h1,hm⟩:=Rl.mp hm
   cases ix with
   | loc hlt=>
    cases ixs with
    | cons iy t=>
     cases t with
     | cons iz t=>
      cases t
      obtain ⟨ps,e1,T⟩:=eY R hc
      obtain ⟨b,rfl,hb⟩:=l0 iy h1
      refine ⟨_,b,ps,kk,_,rfl,rfl,e1,T.keys,hb,?_⟩
      have hpl:ps.length=kvs.length:=by
       have:=congrArg Ss T.to.1
       simpa using this
      rcases T.val kk with ⟨z1,z2⟩|⟨v,d2,z1,z2,z3⟩
      ·rw [z2] at hm
       dsimp only at hm
       split at hm
       ·rename_i hz
        cases hm
        have T':=T.put kk hb iz
        obtain ⟨e4,R4⟩:=R.put (c:=.dT (dC kvs kk d)) (o:=aS _ (hU ps kk b _)) hlt e1 (.inr (.inr ⟨_,rfl⟩)) ⟨_,rfl,T'.to⟩
        exact .inr ⟨z1,by omega,k π _ _ e4 R4 (iz.mono e4)⟩
       ·cases hm
      ·rw [z2] at hm
       cases hm
       exact .inl ⟨v,z1,k π _ H .refl R z3⟩
  ·cases hm
 ·cases hm
theorem MN {X:Cx}(hu:X.A.units+1<TN):fW X "dict.setdefault" (CD X.K):=by
 intro a1Z s σ H x vs v us Q I rx rv h
 obtain ⟨a,b,ps,k,z,rfl,rfl,e,hk,hb,q⟩:=h
 cases rx
 obtain ⟨u,u2,rfl,ru,ru2⟩:=rv.two
 obtain rfl:u=RJ b:=ru
 obtain ⟨hs,hl,ws,r,d⟩:=iI I (.of e) hk
 have hx:(bG ps ws).length<=RL:=by
  have:=congrArg Ss (kI r)
  rw [Ro,Ro] at this
  omega
 have rel:=kJ r k
 refine Wh Xp d.typeIs PySem.F.entry_dict_setdefault (PySem.F.args_dict_setdefault_3 _ _ _) (ML (T6 (Ut X.prog X.w)) a b hs u2) ⟨kK hu,k,_,kH I hb,d,hx,fun p hp=>?_,fun hn h' d' hs'=>?_⟩
 ·rw [hp] at rel
  rcases q with ⟨v',h1,q⟩|⟨h1,_⟩
  ·rw [h1] at rel
   exact ⟨v',H,I.tok _,rel,q⟩
  ·rw [h1] at rel
   exact rel.elim
 ·rw [hn] at rel
  rcases q with ⟨v',h1,q⟩|⟨h1,hz,q⟩
  ·rw [h1] at rel
   exact rel.elim
  ·obtain ⟨ws',r',ex⟩:=Cb r k b ru2
   rw [ex] at d'
   have he:∃ q,h'.get? a=some q:=let ⟨q,_,_,hq,_⟩:=d';⟨q,hq⟩
   exact ⟨z,_,t6 I (by rw [e];exact Uy) hs' he (rQ hs (by have:=B8 ps k b z;omega) r' d'),ru2,q⟩
noncomputable def wR:D->List D->Hm->Option (D×Hm)
 | .loc a,[],μ=>match μ[a]? with
  | some (.dT _)=>some (.non,μ.set a (.dT []))
  | _=>none
 | _,_,_=>none
noncomputable def CF (K:Rn):V->List V->Hp->VK->Prop:=fun x vs H Q=>∃ a ps,x=.ref a/\vs=[]/\H a=some (aS a ps)/\dE K H ps/\Q .non (aI H a (aS a []))
theorem MP {K:Rn}:eX K wR (CF K):=by
 intro π H μ x xs d μ' v vs Q R ix ixs hm k
 unfold wR at hm
 split at hm
 ·split at hm
  ·rename_i kvs hc
   cases hm
   cases ixs
   cases ix with
   | loc hlt=>
    obtain ⟨ps,e1,T⟩:=eY R hc
    obtain ⟨e4,R4⟩:=R.put (c:=.dT []) (o:=aS _ []) hlt e1 (.inr (.inr ⟨_,rfl⟩)) ⟨[],rfl,rfl,.nil,.nil⟩
    exact ⟨_,ps,rfl,rfl,e1,T.keys,k π _ _ e4 R4 .non⟩
  ·cases hm
 ·cases hm
theorem MQ {P:R8}{w:Sy}(d:Addr):ZQ P w (Builtin.«dict.clear» ⟨[.ref d],[]⟩) (fun _ R s=>∃ es ep,RawD s.heap d es ep/\es.size<=RL /\
   ∀ h',(∃ z,h'.get? d=some z/\z.ExactDict/\z.data=.dict #[] (ep+1))->T1 d s.heap h'->R (.ok (.ret .none)) { s with heap:=h' }):=
 .of_wp fun A R s ⟨es,ep,g,hz,h⟩=>by
  obtain ⟨o,ho,hc,hdat⟩:=id g
  unfold Builtin.«dict.clear»
  refine Rm ?_
  unfold VA
  refine Rm (TJ g.ty (Ry (Rm (SM ho hdat (Rm ?_)))))
  unfold bearsInstanceDictMark
  refine Rm (YN ho (Ry (Rm (Z8 (hz:=hz) ho hdat ?_))))
  have new:∃ z,(s.heap.update d (a0r fun _=>#[])).get? d=some z/\z.ExactDict/\z.data=.dict #[] (ep+1):=
   ⟨_,S2 _ ho (W6 (U4 hdat _)),hc.mapDictKeys _,U4 hdat _⟩
  split
  ·exact Rm (Xe (Ry ⟨.none,rfl,h _ new (SX ..)⟩))
  ·exact Rm (Ry (Ry ⟨.none,rfl,h _ new (SX ..)⟩))
theorem MR {X:Cx}:fW X "dict.clear" (CF X.K):=by
 intro a1Z s σ H x vs v us Q I rx rv h
 obtain ⟨a,ps,rfl,rfl,e,hk,q⟩:=h
 cases rx
 cases rv
 obtain ⟨lo,hl,es,ep,g,he⟩:=kL I e hk
 have hs:es.size=ps.length:=by
  have:=congrArg Ss he
  simpa using this
 refine Wh X7 g.ty PySem.F.entry_dict_clear (PySem.F.args_dict_clear_1 _) (MQ a) ⟨es,ep,g,by omega,fun h' ⟨z,z1,z2,z3⟩ hs'=>?_⟩
 refine ⟨.non,_,t6 (t':=s.toks) I (by rw [e];exact Uy) hs' ⟨z,z1⟩ (rQ (ps:=[]) (ws:=[]) lo (SF _) .nil ⟨z,#[],ep+1,z1,z2,z3,rfl,⟨fun x hx=>absurd hx (by simp [bG]),by simp [bG]⟩⟩),rfl,q⟩
end L3
namespace L3
open PySem L2
section
variable {P:R8}{w:Sy}{A:Sn}{E:Ru->RC->Prop}{s:RC}
theorem MU {nm:String}{d:Addr}{es:Array SV}{ep:Nat}{bs:List Addr}{Q:Array SV->RC->Prop}(g:RawD s.heap d es ep)(eb:es.toList.map (·.key)=bs.map RJ)(tt:∀ b∈bs,s.TypeIs (.ref b) "tuple")
  (nd:(es.toList.map (·.hash)).Nodup)(q:Q es s):RQ (R0 P w) A (W2 nm d) Q E s:=by
 obtain ⟨z,g1,g2,g3⟩:=id g
 unfold W2
 refine Rm (SM g1 g3 (Rm ?_))
 rw [<- Array.forIn_toList]
 refine Ye _ (fun bN _ s'=>s'=s/\∀ e∈bN,e∈es.toList) _ (fun e bN b s' ⟨h1,h2⟩=>?_) (fun b s' ⟨h1,_⟩=>?_) _ _ ⟨rfl,fun e he=>he⟩
 ·subst h1
  have he:=h2 e (RX ..)
  have hk:e.key∈bs.map RJ:=by rw [<- eb];exact RG.mpr ⟨e,he,rfl⟩
  obtain ⟨a,ha,ek⟩:=RG.mp hk
  have quiet:∀ {Q:Bool->RC->Prop},Q false s'->RQ (R0 P w) A (XM e.key) Q E s':=fun {Q} q=>by
   rw [<- ek]
   unfold XM
   exact Rm (Vs (tt a ha) PySem.F.slot_tuple_eq.lookup (Ry q))
  refine Rm (quiet ?_)
  have one:((es.filter (·.hash == e.hash)).size>1)=False:=by
   refine eq_false fun z=>?_
   have z':1<(es.toList.filter fun x=>x.hash == e.hash).length:=by
    have e1:(es.filter (·.hash == e.hash)).toList=es.toList.filter fun x=>x.hash == e.hash:=Array.toList_filter ..
    have e2:=congrArg Ss e1
    simp only [Tw] at e2
    omega
   have cnt:(es.toList.filter fun x=>x.hash == e.hash).length=(es.toList.map (·.hash)).count e.hash:=by
    rw [List.count,List.countP_map,<- List.countP_eq_length_filter];rfl
   have:=List.nodup_iff_count.mp nd e.hash
   omega
  simp only [TV,if_true,one,if_false]
  exact Ry ⟨rfl,fun x hx=>h2 x (RP _ hx)⟩
 ·subst h1;exact Ry q
end
theorem CG:∀ (ps:bL)(ws:List Ru),ps.length=ws.length->(VZ oH ps ws).map (·.hash)=ps.map fun p=>Tb.hashT p.1
 | [],_,_=>by simp
 | p::ps,[],h=>by cases h
 | p::ps,u::ws,h=>by
  rw [Sq,RM,RM,CG ps ws (by simpa using h)]
  rfl
theorem MV {es:Array SV}{bs:List Addr}(hne:bs≠[])(he:es.toList.map (·.key)=bs.map RJ):(es.all fun e=>(keyPart e.key).isSome)=false:=by
 rw [<- Array.all_toList]
 generalize es.toList=l at he
 cases bs with
 | nil=>exact absurd rfl hne
 | cons b bs=>
  cases l with
  | nil=>cases he
  | cons e l=>
   rw [RM,RM,Zd] at he
   rw [Sx,he.1]
   rfl
theorem MW {es:Array SV}{bs:List Addr}(hne:bs≠[])(he:es.toList.map (·.key)=bs.map RJ):es.isEmpty=false:=by
 have e1:=congrArg Ss he
 simp only [Ro,Tw] at e1
 have:bs.length≠0:=fun z=>hne (Vn.mp z)
 rw [Array.isEmpty]
 exact decide_eq_false (by omega)
noncomputable def CH (K:Rn):List V->Hp->VK->Prop:=fun xs H Q=>∃ a ps,xs=[V.ref a]/\H a=some (aS a ps)/\dE K H ps/\ps≠[]/\(ps.map fun p=>Tb.hashT p.1).Nodup/\∀ l,H l=none->Q (.ref l) (aI H l (aS l ps))
section
variable {X:Cx}
theorem MX:CallR X (.type "dict") (CH X.K):=by
 intro a1Z s σ H xs us Q I r h
 obtain ⟨a,ps,rfl,ha,hk,hne,nd,q⟩:=h
 obtain ⟨u,rfl,ru⟩:=fU r
 cases ru
 have hn:H s.heap.objs.size=none:=I.hok.fresh (RD _)
 obtain ⟨⟨ws,rv,lo,hl,o,es,ep,h1,h2,h3,h4,h5⟩,_⟩:=(show ObjOk X.prog X.w H s.heap a (aS a ps) from I.hok a _ ha)
 obtain ⟨_,_,es',ep',g,he⟩:=kL I ha hk
 obtain ⟨z,g1,g2,g3⟩:=id g
 rw [h1] at g1
 cases g1
 rw [h3] at g3
 cases g3
 have hsz:es.size=ps.length:=by
  have:=congrArg Ss he
  simpa using this
 have hnd:(es.toList.map (·.hash)).Nodup:=by
  have:es.toList.map (·.hash)=ps.map fun p=>Tb.hashT p.1:=by rw [h4];exact CG ps ws (by rw [<- rv.length,Ro])
  rw [this];exact nd
 refine a1T (Q₁:=fun obj s₁=>obj=.ref s.heap.objs.size/\s₁ = { s with heap:=s.heap.push { cls:=.type "dict",data:=.dict #[] } }) F.kt_called_dict (F.kt_typeCall_dict_1 _) F.entry_dict_init (kt_code_dict_new _ ⟨rfl,rfl⟩) ?_
 rintro obj s₁ ⟨rfl,rfl⟩
 have g0:({ s with heap:=s.heap.push { cls:=.type "dict",data:=.dict #[] } }:RC).heap.get? s.heap.objs.size=some { cls:=.type "dict",data:=.dict #[] }:=RK _ rfl
 have ty:({ s with heap:=s.heap.push { cls:=.type "dict",data:=.dict #[] } }:RC).TypeIs (.ref s.heap.objs.size) "dict":=⟨_,g0,rfl⟩
 have ga:RawD (s.heap.push { cls:=.type "dict",data:=.dict #[] }) a es ep:=g.stay fun o e=>Rt _ e
 refine ⟨ty,F.args_dict_init_2 _ _,?_⟩
 unfold Builtin.«dict.__init__»
 refine Rm ?_
 unfold a1G
 refine Rm (TJ ty (Ry ?_))
 show RQ _ _ (Xu "dict.__init__" s.heap.objs.size (.ref a) [] .none) _ _ _
 unfold Xu
 refine Rm (Zu (T:="dict") ⟨_,Rt _ h1,h2.1⟩ ?_)
 rw [if_neg (by decide)]
 refine Rm ?_
 unfold a1K a1H
 have tya:({ s with heap:=s.heap.push { cls:=.type "dict",data:=.dict #[] } }:RC).TypeIs (.ref a) "dict":=⟨_,Rt _ h1,h2.1⟩
 refine Rm (Rm (Ul tya isSubtype_dict_dict ?_))
 simp only [To,RE,if_false]
 refine Rm (Vs tya F.slot_dict_iter.lookup (Ry ?_))
 simp only [beq_self_eq_true,if_true]
 refine Rm (Ry ?_)
 unfold a1J
 have hda:(s.heap.objs.size == a)=false:=beq_eq_false_iff_ne.mpr (So (RT (RH h1)))
 rw [if_neg (by rw [hda];exact RO)]
 unfold Tt
 rw [if_neg (by rw [lo];exact RO)]
 have h1':=Rt { cls:=.type "dict",data:=.dict #[] } h1
 refine Rm (Ry (Rm (SM h1' h3 ?_)))
 have few:=MV (bs:=ps.map (·.2.1)) (fun z=>hne (Vc.mp z)) (by rw [he,RU];rfl)
 simp only [few,Bool.and_false,TV,if_true]
 refine Rm (SM g0 rfl ?_)
 simp only [Array.isEmpty_empty,if_true]
 have hes:es.size<=RL:=by omega
 have emp:=MW (bs:=ps.map (·.2.1)) (fun z=>hne (Vc.mp z)) (by rw [he,RU];rfl)
 refine Rm (MU (bs:=ps.map (·.2.1)) ga (by rw [he,RU];rfl) (fun b hb=>?_) hnd ?_)
 ·obtain ⟨p,hp,rfl⟩:=RG.mp hb
  obtain ⟨its,rx,⟨ot,e1,e2,_⟩,_⟩:=I.tuple (hk p hp)
  exact ⟨ot,Rt _ e1,e2⟩
 simp only [emp,TV,if_true]
 refine Rm (wpAny_updateDictKeysTo g0 rfl (Ry ?_) (by omega))
 have gN:=S2 (a0r fun _=>es) g0 (W6 (U4 (o:={ cls:=.type "dict",data:=.dict #[] }) rfl _))
 have big:(s.heap.objs.size == SW)=false:=beq_eq_false_iff_ne.mpr (So (RT I.big))
 refine Rm (Ry (Ry ?_))
 refine ⟨rfl,.ref s.heap.objs.size,_,I.laid (t':=s.toks) (a:=s.heap.objs.size) (o:=aS s.heap.objs.size ps) (fun b u e=>?_) (RD _) ⟨⟨ws,rv,big,hl,_,es,1,gN,?_,rfl,h4,h5⟩,⟨_,gN⟩,?_⟩,rfl,q _ hn⟩
 ·rw [Tv _ _ (So (RT (RH e)))]
  exact Rt _ e
 ·exact a1a ⟨rfl,rfl,rfl⟩ _
 ·rintro k1 k2 ⟨ws,r,hs,hl,o,es,ep,h1,h2⟩ hh
  exact ⟨ws,r,hs,hl,o,es,ep,hh o h1,h2⟩
end
end L3
namespace L3
open PySem L2
noncomputable abbrev o3:=List (List Int×Addr×Ru)
inductive Hits (A:Sn)(s:RC)(ys:o3):o3->Bool->Prop
 | nil:Hits A s ys [] true
 | miss {x:List Int×Addr×Ru}{r:o3}:VJ ys x.1=none->Hits A s ys (x::r) false
 | hit {x:List Int×Addr×Ru}{p:Addr×Ru}{r:o3}{e b:Bool}:VJ ys x.1=some p->XX A s x.2.2 p.2 e->Hits A s ys r b->Hits A s ys (x::r) (e&&b)
section
variable {P:R8}{w:Sy}{A:Sn}{E:Ru->RC->Prop}{s:RC}{a b:Addr}{xs ys:o3}{r:Bool}
theorem CI {nm:String}{Q:Bool->RC->Prop}(hu:(T6 (Ut P w)).room A)(la:(a == SW)=false)(lb:(b == SW)=false)(da:s.heap.DictOfH (T6 (Ut P w)) a xs)(db:s.heap.DictOfH (T6 (Ut P w)) b ys)
  (hits:xs.length=ys.length->Hits A s ys xs r)(q:Q (xs.length == ys.length&&r) s):RQ (R0 P w) A (XB nm a b) Q E s:=by
 obtain ⟨oa,es,ep,ga,_,va,ea,isa,na⟩:=da
 obtain ⟨ob,fs,fp,gb,_,vb,eb,isb,nb⟩:=db
 have sa:=Yz ea
 have sb:=Yz eb
 unfold XB Tt
 rw [if_neg (by rw [la];exact RO),if_neg (by rw [lb];exact RO)]
 refine Rm (Ry (Rm (Ry (Rm (SM ga va ?_)))))
 dsimp only
 refine Rm (SM gb vb ?_)
 by_cases hsz:es.size=fs.size
 ·have hl:xs.length=ys.length:=by omega
  have q':Q r s:=by simpa [hl] using q
  have hh:=hits hl
  rw [if_neg (by rw [hsz];simp)]
  refine Rm (UB ga va (Rm ?_))
  rw [a0q]
  simp only [a0p,a1b,Nat.add_sub_cancel,Nat.div_one]
  refine Ye _ (fun bN c s'=>s'=s/\c=(none,())/\∃ i,bN=Wi i (es.size - i)/\i<=es.size/\Hits A s ys (xs.drop i) r) _ ?_ ?_ _ _ ⟨rfl,rfl,0,by simp,SF _,hh⟩
  ·rintro x bN c s' ⟨rfl,rfl,i,hr,hi,hp⟩
   have hlt:i<es.size:=a0h fun z=>by rw [Nat.sub_eq_zero_of_le z] at hr;cases hr
   have e0:es.size - i=(es.size - (i+1))+1:=by omega
   rw [e0,Wv] at hr
   injection hr with hx hrest
   subst hx
   have hlx:x<xs.length:=by omega
   rw [Yl hlx] at hp
   have ex:xs[x]? = some xs[x]:=RN hlx
   refine Rm (SM ga va ?_)
   rw [a1S ea x,ex,Sb]
   dsimp only
   have hk:=isa xs[x] (VF hlx)
   refine Rm (SN (Rm (a0o (k:=xs[x].1) (a:=xs[x].2.1) hu hk gb vb eb isb nb (fun hno=>?_) fun j p hj=>?_)))
   ·have hz:=a0M hno
    have er:r=false:=by
     cases hp with
     | miss _=>rfl
     | hit h1 _ _=>rw [hz] at h1;cases h1
    subst er
    refine Ry ?_
    simp only [TV,if_true]
    exact Ry (Ry q')
   ·have hz:=atKey_of_get nb hj
    refine Rm (SM gb vb ?_)
    rw [a1S eb j,hj,Sb]
    dsimp only
    generalize hxs:xs[x]=y at hp hz
    cases hp with
    | miss h1=>rw [hz] at h1;cases h1
    | @hit _ p' _ e' b' h1 h2 h3=>
     rw [hz] at h1
     cases h1
     refine SN (h2 P w _ _ ?_)
     cases e' with
     | false=>
      simp only [TV,if_true]
      exact Ry (Ry q')
     | true=>
      simp only [To,RE,if_false]
      refine Rm (UB ga va ?_)
      rw [if_neg (by simp)]
      refine Ry ⟨rfl,rfl,x+1,hrest,hlt,?_⟩
      simpa using h3
  ·rintro c s' ⟨rfl,rfl,i,hr,hi,hp⟩
   have hin:i=es.size:=by
    rcases UP i es.size with z|z
    ·rw [show es.size - i=(es.size - (i+1))+1 by omega,Wv] at hr;cases hr
    ·omega
   refine Ry ?_
   rw [hin,sa,List.drop_length] at hp
   cases hp
   exact q'
 ·rw [if_pos (by simpa using hsz)]
  have:(xs.length == ys.length)=false:=by rw [<- sa,<- sb];simpa using hsz
  rw [this,a0v] at q
  exact Rm (Wr (Ry q))
theorem MY {Q:Ru->RC->Prop}(hr:(T6 (Ut P w)).room A.in1)(hu:A.units<TN)(la:(a == SW)=false)(lb:(b == SW)=false)(da:s.heap.DictOfH (T6 (Ut P w)) a xs)(db:s.heap.DictOfH (T6 (Ut P w)) b ys)
  (hits:xs.length=ys.length->Hits A.in1 s ys xs r)(q:Q (.bool (xs.length == ys.length&&r)) s):RQ (R0 P w) A (S4 .Eq (.ref a) (.ref b)) Q E s:=by
 refine YF (op:=.Eq) da.typeIs db.typeIs YB (SU YB da.typeIs PySem.F.entry_dict_eq ?_ (PySem.F.args_dict_eq_2 _ _)) hu
 show RQ _ _ (UU "__eq__" ⟨[.ref a,.ref b],[]⟩ >>= _) _ _ s
 refine Rm ?_
 unfold UU
 refine Rm (TJ da.typeIs (Ry (Rm (Ul (T:="dict") db.typeIs Yt ?_))))
 simp only [To,RE,if_false]
 exact Rm (Ry (Rm (Ry (Rm (CI hr la lb da db hits (Ry ⟨_,rfl,(fun x=>nomatch x),by simpa using q⟩))))))
theorem MZ {Q:Ru->RC->Prop}(hr:(T6 (Ut P w)).room A.in1)(hu:A.units<TN)(la:(a == SW)=false)(lb:(b == SW)=false)(da:s.heap.DictOfH (T6 (Ut P w)) a xs)(db:s.heap.DictOfH (T6 (Ut P w)) b ys)
  (hits:xs.length=ys.length->Hits A.in1 s ys xs r)(q:Q (.bool (!(xs.length == ys.length&&r))) s):RQ (R0 P w) A (S4 .NotEq (.ref a) (.ref b)) Q E s:=by
 refine YF (op:=.NotEq) da.typeIs db.typeIs YA (SU YA da.typeIs PySem.F.entry_dict_ne ?_ (PySem.F.args_dict_ne_2 _ _)) hu
 show RQ _ _ (UU "__ne__" ⟨[.ref a,.ref b],[]⟩ >>= _) _ _ s
 refine Rm ?_
 unfold UU
 refine Rm (TJ da.typeIs (Ry (Rm (Ul (T:="dict") db.typeIs Yt ?_))))
 simp only [To,RE,if_false]
 exact Rm (Ry (Rm (Ry (Rm (CI hr la lb da db hits (Ry ⟨_,rfl,(fun x=>nomatch x),by simpa using q⟩))))))
end
noncomputable def o4 (μ:Hm)(kws:List (List Int×D)):List (List Int×D)->Option Bool
 | []=>some true
 | (k,d)::r=>match bO kws k with
  | none=>some false
  | some y=>(bZ 8 μ d y).bind fun e=>(o4 μ kws r).map fun b=>e&&b
noncomputable def kN (ne:Bool):D->D->Hm->Option (D×Hm)
 | .loc a,.loc b,μ=>match μ[a]?,μ[b]? with
  | some (.dT kvs),some (.dT kws)=>if kvs.length=kws.length then (o4 μ kws kvs).map fun e=>(.bl (if ne then !e else e),μ) else some (.bl ne,μ)
  | _,_=>none
 | _,_,_=>none
noncomputable def CJ (K:Rn)(ne:Bool):R2:=fun x y H Q=>∃ π μ a b ps qs kvs kws e,Rp K π H μ/\x=.ref (π a)/\y=.ref (π b)/\H (π a)=some (aS (π a) ps)/\H (π b)=some (aS (π b) qs)/\IsTs K π μ.length H ps kvs/\IsTs K π μ.length H qs kws /\
 (kvs.length=kws.length->o4 μ kws kvs=some e)/\Q (.bl (if ne then !(kvs.length == kws.length&&e) else (kvs.length == kws.length&&e))) H
theorem rX {K:Rn}{ne:Bool}:cP K (kN ne) (CJ K ne):=by
 intro π H μ x y d μ' vx vy Q R ix iy hm k
 unfold kN at hm
 split at hm
 ·split at hm
  ·rename_i kvs kws hc hc'
   cases ix
   cases iy
   obtain ⟨ps,e1,T⟩:=eY R hc
   obtain ⟨qs,e2,T'⟩:=eY R hc'
   split at hm
   ·rename_i hl
    obtain ⟨e,h1,hm⟩:=Rv.mp hm
    cases hm
    refine ⟨π,μ,_,_,ps,qs,kvs,kws,e,R,rfl,rfl,e1,e2,T,T',fun _=>h1,?_⟩
    rw [hl,beq_self_eq_true,Bool.true_and]
    exact k π _ H .refl R (.bl _)
   ·rename_i hl
    cases hm
    refine ⟨π,μ,_,_,ps,qs,kvs,kws,true,R,rfl,rfl,e1,e2,T,T',fun z=>absurd z hl,?_⟩
    have:(kvs.length == kws.length)=false:=by simpa using hl
    rw [this]
    have e0:(if ne=true then !(false&&true) else (false&&true))=ne:=by cases ne<;>rfl
    rw [e0]
    exact k π _ H .refl R (.bl _)
  ·cases hm
 ·cases hm
theorem CK {X:Cx}{a1Z:List (Addr×TK)}{σ:St}{H:Hp}{s:RC}{π:Nat->Addr}{μ:Hm}{A:Sn}(I:Inv X a1Z σ H s)(R:Rp X.K π H μ)(hu:A.units+8<TN){qs:bL}{kws:List (List Int×D)}{ws':List Ru}(T':IsTs X.K π μ.length H qs kws)(r':Vals (qs.map (·.2.2)) ws') :
  ∀ {ps:bL}{kvs:List (List Int×D)}{ws:List Ru}{e:Bool},IsTs X.K π μ.length H ps kvs->Vals (ps.map (·.2.2)) ws->o4 μ kws kvs=some e->Hits A s (bG qs ws') (bG ps ws) e
 | _,_,_,_,.nil,.nil,h=>by cases h;exact .nil
 | _,_,_,_,.cons (a:=p) (b:=q) h t,.cons (b:=u) ru tu,hm=>by
  obtain ⟨k,d⟩:=q
  have hk:p.1=k:=h.1
  have rel:=kJ r' p.1
  unfold bG
  rw [Sq]
  simp only [o4] at hm
  split at hm
  ·rename_i hv
   cases hm
   refine .miss ?_
   rcases T'.val p.1 with ⟨z1,z2⟩|⟨v,d2,z1,z2,z3⟩
   ·rw [z1] at rel
    cases h2:VJ (bG qs ws') p.1 with
    | none=>exact h2
    | some y=>rw [h2] at rel;exact rel.elim
   ·rw [hk] at z2;rw [hv] at z2;cases z2
  ·rename_i y hv
   obtain ⟨e1,h1,hm⟩:=Rl.mp hm
   obtain ⟨b1,h2,hm⟩:=Rv.mp hm
   subst hm
   rcases T'.val p.1 with ⟨z1,z2⟩|⟨v,d2,z1,z2,z3⟩
   ·rw [hk] at z2;rw [hv] at z2;cases z2
   ·rw [hk] at z2;rw [hv] at z2
    cases z2
    rw [z1] at rel
    cases h3:VJ (bG qs ws') p.1 with
    | none=>rw [h3] at rel;exact rel.elim
    | some y'=>
     rw [h3] at rel
     exact .hit (x:=(p.1,p.2.1,u)) h3 (uN I R 8 hu ru rel h.2.2 z3 h1) (CK I R hu T' r' t tu h2)
section
variable {X:Cx}{a b:RI}{ma mb:ME}{pos:TC}{k:Nat}
theorem rY (ne:Bool)(hu:X.A.units+16<TN):OpR X (S4 (if ne then .NotEq else .Eq)) (CJ X.K ne):=by
 intro a1Z s σ H x y v u Q I rx ry h
 obtain ⟨π,μ,i,j,ps,qs,kvs,kws,e,R,rfl,rfl,e1,e2,T,T',hh,q⟩:=h
 obtain rfl:v=RJ (π i):=rx
 obtain rfl:u=RJ (π j):=ry
 obtain ⟨la,hl,ws,r,da⟩:=iI I (.of e1) T.keys
 obtain ⟨lb,hl',ws',r',db⟩:=iI I (.of e2) T'.keys
 have n1:(bG ps ws).length=kvs.length:=by
  have z1:=congrArg Ss (kI r)
  have z2:=congrArg Ss T.to.1
  simp only [Ro] at z1 z2
  omega
 have n2:(bG qs ws').length=kws.length:=by
  have z1:=congrArg Ss (kI r')
  have z2:=congrArg Ss T'.to.1
  simp only [Ro] at z1 z2
  omega
 have hits:(bG ps ws).length=(bG qs ws').length->Hits X.A.in1 s (bG qs ws') (bG ps ws) e:=fun z=>CK I R (by rw [lF];omega) T' r' T r (hh (by omega))
 cases ne with
 | false=>exact MY (kK (by omega)) (by omega) la lb da db hits ⟨.bl _,H,I,rfl,by rw [n1,n2];exact q⟩
 | true=>exact MZ (kK (by omega)) (by omega) la lb da db hits ⟨.bl _,H,I,rfl,by rw [n1,n2];exact q⟩
theorem M0 (hr:Room k X.A)(ha:QE X a ma)(hb:QE X b mb):QE X (.Compare a [.Eq] [b] pos) (aB (kN false) ma mb):=⟨fF (rY false (by have:=hr.un;omega)) rX ha.h hb.h (dZ _)⟩
theorem M3 (hr:Room k X.A)(ha:QE X a ma)(hb:QE X b mb):QE X (.Compare a [.NotEq] [b] pos) (aB (kN true) ma mb):=⟨fF (rY true (by have:=hr.un;omega)) rX ha.h hb.h (dZ _)⟩
theorem M4 (hr:Room k X.A)(ha:QE X a ma)(hb:QE X b mb):QT X (.Compare a [.Eq] [b] pos) (bD (aB (kN false) ma mb)):=⟨fG (rY false (by have:=hr.un;omega)) rX ha.h hb.h (dZ _)⟩
theorem M5 (hr:Room k X.A)(ha:QE X a ma)(hb:QE X b mb):QT X (.Compare a [.NotEq] [b] pos) (bD (aB (kN true) ma mb)):=⟨fG (rY true (by have:=hr.un;omega)) rX ha.h hb.h (dZ _)⟩
end
end L3
namespace L3
open PySem L2
section
variable {X:Cx}{a1Z:List (Addr×TK)}{σ:St}{H H':Hp}{s:RC}{h':SO}
theorem M6 {t':Nat}(I:Inv X a1Z σ H s)(k:∀ b u,s.heap.get? b=some u->h'.get? b=some u)(old:∀ b,b<s.heap.objs.size->H' b=H b)(new:∀ b o,s.heap.objs.size<=b->H' b=some o->ObjOk X.prog X.w H' h' b o) :
  Inv X a1Z σ H' { s with heap:=h',toks:=t' }:=by
 have lt:∀ b u,H b=some u->b<s.heap.objs.size:=fun b u e=>a0h fun z=>by rw [I.hok.fresh z] at e;cases e
 have same:∀ b u,H b=some u->H' b=some u:=fun b u e=>by rw [old b (lt b u e)];exact e
 refine I.un ⟨fun b u q _ _ _=>k b u q,fun b u q _ _ _=>⟨u.slots,k b u q⟩,fun b u q n _=>by rw [old b (RH q)];exact n,fun b u q _=>⟨u,k b u q⟩,fun b xs q=>same b _ q,fun b u xs q=>same b _ q,fun b ps q=>⟨#[],by rw [same b _ q];simp⟩⟩ fun b u e=>?_
 by_cases hb:b<s.heap.objs.size
 ·rw [old b hb] at e
  exact (I.hok b u e).stay (fun c v _ q=>k c v q) (fun c q=>same c _ q) fun c xs q=>same c _ q
 ·exact new b u (XG hb) e
noncomputable def eL (H:Hp):List Addr->bL->Hp
 | a::as,p::ps=>eL (aI H a (.tup [.ref p.2.1,p.2.2])) as ps
 | _,_=>H
theorem l7:∀ {as:List Addr}{ps:bL}{H:Hp}{b:Addr},b∉as->eL H as ps b=H b
 | [],_,_,_,_=>by simp [eL]
 | a::as,[],_,_,_=>rfl
 | a::as,p::ps,H,b,h=>by
  rw [Sa,not_or] at h
  show eL (aI H a _) as ps b=H b
  rw [l7 h.2,bA h.1]
theorem rZ:∀ {as:List Addr}{ps:bL}{H:Hp}{i:Nat}{a:Addr}{p:List Int×Addr×V},as.Nodup->as[i]? = some a->ps[i]? = some p->eL H as ps a=some (.tup [.ref p.2.1,p.2.2])
 | [],_,_,_,_,_,_,h,_=>by simp at h
 | _::_,[],_,_,_,_,_,_,h=>by simp at h
 | x::as,y::ps,H,0,a,p,nd,h1,h2=>by
  obtain rfl:x=a:=by simpa using h1
  obtain rfl:y=p:=by simpa using h2
  rw [Sv] at nd
  show eL (aI H x _) as ps x=_
  rw [l7 nd.1,cG]
 | x::as,y::ps,H,i+1,a,p,nd,h1,h2=>by
  rw [Sv] at nd
  exact rZ (as:=as) (ps:=ps) (i:=i) nd.2 (by simpa using h1) (by simpa using h2)
noncomputable def o6 (ps:bL):List Nat:=b8 (fun i j=>HT.lexLt ((ps.map (·.1)).getD i []) ((ps.map (·.1)).getD j [])) ps.length
noncomputable def eB (as:List Addr)(ps:bL):List V:=(o6 ps).map fun i=>V.ref (as.getD i 0)
theorem M7 (hc:X.calm=true)(hun:X.A.units+64<TN)(I:Inv X a1Z σ H s){d r:Addr}{ps:bL}{Q:VK}(e:H d=some (aS d ps))(hk:dE X.K H ps)(h64:ps.length<64)(hv:s.heap.IsItemsView r d)
  (k:∀ (as:List Addr)(L l:Addr),as.length=ps.length->(l::L::as).Nodup->(∀ a∈l::L::as,H a=none)->Q (.ref l) (aI (aI (eL H as ps) L (.lst (eB as ps))) l (.tup (eB as ps)))) :
  RQ (R0 X.prog X.w) X.A (call (.builtin "sorted") [.ref r]) (fun v s'=>RQ (R0 X.prog X.w) X.A (call (.type "tuple") [v]) (EP X a1Z σ Q) X.xe s') X.xe s:=by
 obtain ⟨lo,hl,ws,rv,z,es,ep,z1,z2,z3,z4,z5,z6⟩:=iI I (.of e) hk
 have hwl:ws.length=ps.length:=by
  have:=rv.length
  rw [Ro] at this
  exact this.symm
 have hxl:(bG ps ws).length=ps.length:=by unfold bG;rw [List.length_zipWith,hwl,a1c]
 have hes:es.size=ps.length:=by rw [<- Tw,z4,Ro,hxl]
 have nd:(ps.map (·.1)).Nodup:=by rw [kI rv] at z6;exact z6
 have at_:∀ (j:Nat)(en:SV),es[j]? = some en->∃ p u,ps[j]? = some p/\ws[j]? = some u/\en.key=.ref p.2.1/\en.val=u:=fun j en h=>by
  rw [<- Tp,z4,RR] at h
  obtain ⟨x,h1,rfl⟩:=Rv.mp h
  unfold bG at h1
  rw [List.getElem?_zipWith] at h1
  cases hp:ps[j]? with
  | none=>rw [hp] at h1;simp at h1
  | some p=>
   cases hw:ws[j]? with
   | none=>rw [hp,hw] at h1;simp at h1
   | some u=>
    rw [hp,hw] at h1
    have:(p.1,p.2.1,u)=x:=by simpa using h1
    subst this
    exact ⟨p,u,rfl,rfl,rfl,rfl⟩
 refine Mn (an:=fun i j=>HT.lexLt ((ps.map (·.1)).getD i []) ((ps.map (·.1)).getD j [])) (I.ok.hd hc) hv ⟨z,z1,z2,z3⟩ (by omega) (fun h22 h3 tk as kp al pr=>?_) (fun h3 tk as L en kp al pr hL nL gL=>?_)
 ·have I3:Inv X a1Z σ H { s with heap:=h3,toks:=tk }:=I.kept (t':=tk) kp
  refine Mm (A:=X.A.in1.in1) (s:={ s with heap:=h3,toks:=tk }) (bs:=ps.map (·.2.1)) (ks:=ps.map (·.1)) (by show X.A.units+1+1<TN;omega) pr (by omega) al (by rw [Ro,hes]) (by rw [Ro,hes]) (fun j en hj=>?_) nd
  obtain ⟨p,u,p1,p2,p3,p4⟩:=at_ j en hj
  have hjl:j<ps.length:=(Rw.mp p1).1
  have eb:(ps.map (·.2.1)).getD j 0=p.2.1:=by simp [S3,p1]
  have ek:(ps.map (·.1)).getD j []=p.1:=by simp [S3,p1]
  rw [eb,ek]
  have sq:=hk p (Sf p1)
  refine ⟨p3,kH I3 sq,?_⟩
  obtain ⟨xs,rx,t,_⟩:=I3.tuple sq
  exact ⟨xs,t,BL rx⟩
 ·rw [hes] at gL al
  have nda:as.Nodup:=pr.up.imp fun h=>RT h
  have hin:∀ i∈o6 ps,i<ps.length:=fun i hi=>S9.mp ((iW _ _).mem_iff.mp hi)
  have hlen:(o6 ps).length=ps.length:=by
   have:=(iW (fun i j=>HT.lexLt ((ps.map (·.1)).getD i []) ((ps.map (·.1)).getD j [])) ps.length).length_eq
   rw [Vu] at this
   exact this
  have nLa:L∉as:=fun h=>nL L h rfl
  have I1:Inv X a1Z σ (aI (eL H as ps) L (.lst (eB as ps))) { s with heap:=h3,toks:=tk }:=by
   refine M6 (t':=tk) I kp (fun b hb=>?_) fun b o hb eb=>?_
   ·rw [bA (RT (Si hb hL)),l7 fun h=>Nat.lt_asymm hb (pr.over b h)]
   ·by_cases hbL:b=L
    ·subst hbL
     rw [cG] at eb
     cases eb
     refine ⟨by unfold eB;rw [Ro,hlen];exact hl,(o6 ps).map fun i=>RJ (as.getD i 0),en,?_,gL⟩
     unfold eB
     exact wJ fun i _=>rfl
    ·rw [bA hbL] at eb
     by_cases hba:b∈as
     ·obtain ⟨j,hj⟩:=UW.mp hba
      have hjl:j<ps.length:=by
       have:=(Rw.mp hj).1
       omega
      have hp:ps[j]? = some ps[j]:=RN hjl
      rw [rZ nda hj hp] at eb
      cases eb
      obtain ⟨x,x1,x2⟩:=pr.prs j _ hj
      obtain ⟨p,u,p1,p2,p3,p4⟩:=at_ j x x1
      rw [hp] at p1
      cases p1
      obtain ⟨u',g1,g2⟩:=rv.get (i:=j) (x:=ps[j].2.2) (by rw [RR,hp];rfl)
      rw [p2] at g1
      cases g1
      rw [p3,p4] at x2
      exact ⟨by show (2:Nat)<=RL;decide,[.ref ps[j].2.1,u],.cons rfl (.cons g2 .nil),_,x2,rfl,0,rfl,rfl⟩
     ·rw [l7 hba,I.hok.fresh hb] at eb
      cases eb
  refine Aw a1Z _ σ _ [.ref L] [.ref L] Q I1 (.cons rfl .nil) ⟨L,eB as ps,rfl,.inl ⟨.inl (.inl cG),fun l hl'=>?_⟩⟩
  have lL:l≠L:=fun h=>by rw [h,cG] at hl';cases hl'
  rw [bA lL] at hl'
  have la:l∉as:=fun h=>by
   obtain ⟨j,hj⟩:=UW.mp h
   have hjl:j<ps.length:=by
    have:=(Rw.mp hj).1
    omega
   rw [rZ nda hj (RN hjl)] at hl'
   cases hl'
  rw [l7 la] at hl'
  refine k as L l al ?_ fun a ha=>?_
  ·rw [Sv,Sv]
   exact ⟨fun h=>(Sa.mp h).elim lL la,nLa,nda⟩
  ·rcases Sa.mp ha with rfl|ha
   ·exact hl'
   rcases Sa.mp ha with rfl|ha
   ·exact I.hok.fresh hL
   ·exact I.hok.fresh (Va (pr.over a ha))
end
noncomputable def r0 (k:List Int×D):D:=.tup [.tup (k.1.map D.int),k.2]
noncomputable def r6:D->Hm->Option (D×Hm)
 | .loc a,μ=>match μ[a]? with
  | some (.dT kvs)=>if kvs.length<64 then some (.tup ((j4 kvs).map r0),μ) else none
  | _=>none
 | _,_=>none
noncomputable def o7 (m:ME):ME:=fun ρ μ=>(m ρ μ).bind fun r=>r6 r.1 r.2
noncomputable def CL (K:Rn):V->Hp->VK->Prop:=fun x H Q=>∃ a ps,x=.ref a/\H a=some (aS a ps)/\dE K H ps/\ps.length<64 /\
 ∀ (as:List Addr)(L l:Addr),as.length=ps.length->(l::L::as).Nodup->(∀ a∈l::L::as,H a=none)->Q (.ref l) (aI (aI (eL H as ps) L (.lst (eB as ps))) l (.tup (eB as ps)))
section
variable {X:Cx}{o:RI}{to:TE}{apos cpos p p2 pos pos2:TC}
theorem M8 (hc:X.calm=true)(hun:X.A.units+64<TN)(hm1:X.mg "sorted" = none) (hm2:X.mg "tuple" = none) (hg1:Gl X "sorted") (hg2:Gl X "tuple") (ho:PE X o to)
  (hbase:UH o "items" X.env (eval o X.env)=eval o X.env) (hline:(apos.endLine == cpos.line)=true) :
  PE X (.Call (.Name "tuple" p) [.Call (.Name "sorted" p2) [.Call (.Attribute o "items" apos) [] [] cpos] [] pos2] [] pos) (fun σ H Q=>to σ H fun x H1=>CL X.K x H1 Q):=by
 intro a1Z s σ H Q I h
 refine T5 (iE I hg2 hm2 Vq ?_)
 refine Tf ?_ rfl rfl
 refine V2 ?_
 refine T5 (iE I hg1 hm1 Vm ?_)
 refine WQ ?_ rfl rfl
 refine V2 ?_
 refine VB hbase hline (aQ (ho a1Z s σ H _ I h) fun v s1 ⟨x,H1,I1,r1,a,ps,ex,e,hk,h64,q⟩=>?_)
 subst ex
 obtain rfl:v=RJ a:=r1
 obtain ⟨lo,hl,es,ep,g,he⟩:=kL I1 e hk
 refine ⟨"dict","dict.items",Vg,X6,PySem.F.type_dict_items,g.ty,fun b eb=>?_,Ud rfl (VQ ?_)⟩
 ·cases eb
  obtain ⟨z,g1,g2,_⟩:=g
  exact ⟨z,g1,g2.2.1⟩
 refine Wh X6 g.ty PySem.F.entry_dict_items (PySem.F.args_dict_items_1 _) (Mo a lo) ⟨⟨es,ep,g⟩,?_⟩
 refine Wg ?_
 have I2:Inv X a1Z σ H1 { s1 with heap:=s1.heap.push { cls:=.type "dict_items",data:=.fields #[.ref a] } }:=I1.kept (t':=s1.toks) fun b o e=>Rt _ e
 refine aQ (M7 hc hun I2 e hk h64 ⟨_,RK _ rfl,rfl,rfl⟩ q) fun v s' hv=>Wg hv
end
theorem CM {K:Rn}{π:Nat->Addr}{μ:Hm}:∀ {as:List Addr}{ps:bL}{H:Hp},Rp K π H μ->as.Nodup->(∀ a∈as,H a=none)->Ext π μ.length H π μ.length (eL H as ps)/\Rp K π (eL H as ps) μ
 | [],_,H,R,_,_=>by simp only [eL];exact ⟨.refl,R⟩
 | a::as,[],H,R,_,_=>⟨.refl,R⟩
 | a::as,p::ps,H,R,nd,hf=>by
  rw [Sv] at nd
  obtain ⟨e1,R1⟩:=R.fresh (o:=.tup [.ref p.2.1,p.2.2]) (hf a (RX ..))
  obtain ⟨e2,R2⟩:=CM (as:=as) (ps:=ps) R1 nd.2 fun b hb=>by
   rw [bA (fun w:b=a=>nd.1 (w ▸ hb))]
   exact hf b (RP _ hb)
  exact ⟨e1.trans e2,R2⟩
theorem M9 {K:Rn}{mo:ME}:∀ σ H Q,tM K (o7 mo) σ H Q->tM K mo σ H fun x H1=>CL K x H1 Q:=by
 rintro σ H Q ⟨π,ρ,μ,d,μ',R,E,hm,k⟩
 obtain ⟨⟨x,μ1⟩,h1,hm⟩:=Rl.mp hm
 refine ⟨π,ρ,μ,x,μ1,R,E,h1,fun π1 v1 H1 e1 R1 i1=>?_⟩
 have k1:=k.after e1
 dsimp only at hm
 unfold r6 at hm
 split at hm
 ·split at hm
  ·rename_i kvs hc
   split at hm
   ·rename_i hb
    cases hm
    cases i1
    obtain ⟨ps,e2,T⟩:=eY R1 hc
    have el:ps.length=kvs.length:=by
     have:=congrArg Ss T.to.1
     simpa using this
    refine ⟨_,ps,rfl,e2,T.keys,by omega,fun as L l al nd hf=>?_⟩
    rw [Sv,Sv] at nd
    obtain ⟨e3,R3⟩:=CM (ps:=ps) R1 nd.2.2 fun a ha=>hf a (RP _ (RP _ ha))
    have hL:eL H1 as ps L=none:=by rw [l7 nd.2.1];exact hf L (RP _ (RX ..))
    obtain ⟨e4,R4⟩:=R3.fresh (o:=.lst (eB as ps)) hL
    have hl:aI (eL H1 as ps) L (.lst (eB as ps)) l=none:=by
     rw [bA (fun w:l=L=>nd.1 (by rw [w];exact RX ..)),l7 fun w=>nd.1 (RP _ w)]
     exact hf l (RX ..)
    obtain ⟨e5,R5⟩:=R4.fresh (o:=.tup (eB as ps)) hl
    refine k1 π1 _ _ ((e3.trans e4).trans e5) R5 (.tup (.of cG) ?_)
    have hks:ps.map (·.1)=kvs.map (·.1):=T.to.1
    have key:∀ ix:List Nat,(∀ i∈ix,i<kvs.length)->IsDs K π1 μ'.length (aI (aI (eL H1 as ps) L (.lst (eB as ps))) l (.tup (eB as ps))) (ix.map fun i=>V.ref (as.getD i 0)) (ix.map (r0 ∘ fun i=>kvs.getD i ([],.non))):=fun ix hix=>by
     induction ix with
     | nil=>exact .nil
     | cons i ix ih=>
      have hi:=hix i (RX ..)
      have hia:as[i]? = some (as.getD i 0):=by simp [S3,show i<as.length by omega]
      have hip:ps[i]? = some ps[i]:=RN (by omega)
      have hik:kvs[i]? = some kvs[i]:=RN hi
      have ed:kvs.getD i ([],.non)=kvs[i]:=by simp [S3,hi]
      have ep:ps.getD i ([],0,.non)=ps[i]:=by simp [S3,show i<ps.length by omega]
      have pa:=Cu T ([],0,.non) ([],.non) i (by omega)
      rw [ep,ed] at pa
      obtain ⟨q1,q2,q3⟩:=pa
      refine .cons ?_ (ih fun j hj=>hix j (RP _ hj))
      have at_:aI (aI (eL H1 as ps) L (.lst (eB as ps))) l (.tup (eB as ps)) (as.getD i 0)=some (.tup [.ref ps[i].2.1,ps[i].2.2]):=by
       have hm:=Sf hia
       rw [bA (fun w:as.getD i 0=l=>nd.1 (by rw [<- w];exact RP _ hm)),bA (fun w:as.getD i 0=L=>nd.2.1 (by rw [<- w];exact hm))]
       exact rZ nd.2.2 hia hip
      show IsD K π1 μ'.length _ (.ref (as.getD i 0)) (r0 (kvs.getD i ([],.non)))
      rw [ed]
      have ee:=(e3.trans e4).trans e5
      have ik:IsD K π1 μ'.length H1 (.ref ps[i].2.1) (.tup (kvs[i].1.map D.int)):=by
       rw [<- q1]
       exact .tup q2 (rM _)
      exact .tup (.of at_) (.cons (ik.mono ee) (.cons (q3.mono ee) .nil))
    have ey:eB as ps=(b8 (fun i j=>HT.lexLt ((kvs.map (·.1)).getD i []) ((kvs.map (·.1)).getD j [])) kvs.length).map fun i=>V.ref (as.getD i 0):=by
     unfold eB o6
     rw [hks,el]
    have fin:=key (b8 (fun i j=>HT.lexLt ((kvs.map (·.1)).getD i []) ((kvs.map (·.1)).getD j [])) kvs.length) fun i hi=>S9.mp ((iW _ _).mem_iff.mp hi)
    rw [<- ey] at fin
    unfold j4
    rw [RU]
    exact fin
   ·cases hm
  ·cases hm
 ·cases hm
theorem Na {X:Cx}{o:RI}{mo:ME}{apos cpos p p2 pos pos2:TC}(hc:X.calm=true)(hun:X.A.units+64<TN)(hm1:X.mg "sorted" = none) (hm2:X.mg "tuple" = none) (hg1:Gl X "sorted") (hg2:Gl X "tuple") (ho:QE X o mo)(hs:iV o=true)(hl:(apos.endLine == cpos.line)=true) :
  QE X (.Call (.Name "tuple" p) [.Call (.Name "sorted" p2) [.Call (.Attribute o "items" apos) [] [] cpos] [] pos2] [] pos) (o7 mo):=
 ⟨cM (M8 hc hun hm1 hm2 hg1 hg2 ho.h (jX hs) hl) M9⟩
end L3
namespace L3
open PySem L2
section
variable {P:R8}{w:Sy}{A:Sn}{E:Ru->RC->Prop}{s:RC}{d it:Addr}{i ep:Nat}{es:Array SV}
theorem Nb (d:Addr)(hd:(d == SW)=false):ZQ P w (Builtin.«dict.values» ⟨[.ref d],[]⟩) (fun _ R s=>(∃ es ep,RawD s.heap d es ep) /\
   R (.ok (.ret (.ref s.heap.objs.size))) { s with heap:=s.heap.push { cls:=.type "dict_values",data:=.fields #[.ref d] } }):=
 .of_wp fun A R s ⟨⟨es,ep,g⟩,h⟩=>by
  show RQ _ _ (VA "values" _ >>= _) _ _ s
  refine Rm ?_
  unfold VA
  refine Rm (TJ g.ty ?_)
  show RQ _ _ (pure d) _ _ s
  refine Ry ?_
  show RQ _ _ (Tt d >>= _) _ _ s
  unfold Tt
  rw [if_neg (by rw [hd];exact RO)]
  refine Rm (Ry ?_)
  exact Rm (SS (Ry ⟨_,rfl,h⟩))
theorem Nc {v:Addr}{Q:Ru->RC->Prop}(hv:s.heap.IsValuesView v d)(g:RawD s.heap d es ep)
  (q:Q (.ref s.heap.objs.size) { s with heap:=s.heap.push { cls:=.type "dict_valueiterator",data:=.fields #[.ref d,.int 0 0,.int es.size 0,.int ep 0] } }):RQ (R0 P w) A (XD (.ref v)) Q E s:=by
 obtain ⟨ov,hov,hcv,hdv⟩:=id hv
 obtain ⟨z,g1,g2,g3⟩:=id g
 refine XN hv.typeIs F.slot_dict_values_iter (SU F.slot_dict_values_iter hv.typeIs F.entry_dict_values_iter ?_ (F.args_dict_values_iter_1 _))
 unfold Builtin.«dict_values.__iter__»
 refine Rm (Ry (Rm ?_))
 unfold WO
 refine Rm (TM hov hdv (x:=.ref d) rfl (Ry (Rm ?_)))
 unfold Wy
 refine Rm (SM g1 g3 (Rm (UB g1 g3 ?_)))
 simp only [show TY "dict_valueiterator" = false by decide,RE,if_false]
 refine SS (Ry ⟨_,rfl,"dict_valueiterator",_,⟨_,RK _ rfl,rfl⟩,F.slot_dict_valueiterator_next.lookup,?_⟩)
 simpa [Up] using q
theorem CN {Q:Option Ru->RC->Prop}(hh:A.handled=none)(j:s.heap.IsValIter it d i es.size ep)(g:RawD s.heap d es ep)
  (q1:∀ e h',es[i]? = some e->h'.IsValIter it d (i+1) es.size ep->T1 it s.heap h'->Q (some e.val) { s with heap:=h' })
  (q2:es[i]? = none->∀ h',Wj it s.heap h'->Q none { s with heap:=h' }):RQ (R0 P w) A (V8 (.ref it)) Q E s:=by
 obtain ⟨y,j1,j2,j3⟩:=id j
 obtain ⟨z,g1,g2,g3⟩:=id g
 have nm:∀ {Q:String->RC->Prop}{A:Sn}{E:Ru->RC->Prop},Q "dict_valueiterator" s->RQ (R0 P w) A (Yy (.ref it)) Q E s:=fun q=>wpAny_typeNameOfWhole_valiter j.typeIs q
 unfold V8
 refine Rm (Xw (Ug (name:=UM "__next__") j.typeIs F.slot_dict_valueiterator_next (SU F.slot_dict_valueiterator_next j.typeIs F.entry_dict_valueiterator_next ?_ (F.args_dict_valueiterator_next_1 _))))
 refine Rm (Ry (Rm (Rm (Rm (nm (Ry (Rm (YO j1 j3 ?_))))))))
 simp only [show TY "dict_valueiterator" = false by decide,RE,if_false]
 show RQ _ _ (if (RJ d == Sz)=true then _ else _) _ _ _
 rw [if_neg (show ¬ (RJ d == Sz)=true from fun x=>RO x)]
 refine Rm (Ry (Rm (SM g1 g3 ?_)))
 rw [if_neg (fun x=>by simp at x)]
 refine Rm (Ry (Rm (UB g1 g3 ?_)))
 rw [if_neg (fun x=>by simp at x)]
 refine Ry ?_
 simp only [if_neg (show ¬ ((i:Int)<0) by omega),Uw]
 cases he:es[i]? with
 | some e=>
  refine Rm (Rm (nm (Ry (Rm (W3 j.typeIs ?_)))))
  show RQ _ _ (XR (.ref it) 1 (Up ((i:Int)+1)) >>= _) _ _ _
  refine Rm (Ve j1 j3 (by simp) ?_)
  have j':(s.heap.update it (Xc (·.setIfInBounds 1 (Up ((i:Int)+1))))).IsValIter it d (i+1) es.size ep:=
   ⟨_,S2 _ j1 (WN (UO j3 _)),(Xq ..).trans j2,by simp [UO j3,Up]⟩
  generalize hu:s.heap.update it (Xc (·.setIfInBounds 1 (Up ((i:Int)+1))))=u at j'
  refine Rm (SN (Rm (W3 (s:={ s with heap:=u }) j'.typeIs (Rm (W3 (s:={ s with heap:=u }) j'.typeIs ?_)))))
  show RQ _ _ (pure e.val) _ _ _
  exact Ry (Ry ⟨_,rfl,Ry (q1 e u he j' (hu ▸ SX ..))⟩)
 | none=>
  refine Rm (Rm (nm (Ry ?_)))
  show RQ _ _ (XR (.ref it) 0 .none >>= _) _ _ _
  refine Rm (Ve j1 j3 (by simp) ?_)
  show RQ _ _ (Yh (.type "StopIteration") [] >>= _) _ _ _
  simp only [Yh,a0d]
  refine Rm (Rm (SS ?_ (by size_fits)))
  refine Rm (m:=UK _ _) (Yo (a:=Sz) (by first|rfl|(simp only [UK];rfl)) (SS ?_ (by size_fits)))
  simp only [a0c]
  refine Rm (Xv ?_)
  rw [show A.in1.handled=none from hh]
  refine Rm (Ry (Yn ?thrown))
  case thrown=>exact Rm (Ul (T:="StopIteration") (b:=true) ⟨_,RK _ rfl,rfl⟩ Xg (Ry (q2 he _ (((SX ..).extBut.push _).push _))))
end
theorem CO:∀ (ps:bL)(ws:List Ru),ps.length=ws.length->(VZ oH ps ws).map (·.val)=ws
 | [],[],_=>rfl
 | [],_::_,h=>by cases h
 | _::_,[],h=>by cases h
 | p::ps,u::ws,h=>by
  rw [Sq,RM,CO ps ws (by simpa using h)]
  rfl
noncomputable def wU (d:Addr)(ob:TK)(ps:bL):It:=⟨fun i H=>H d=some (.frz ob (aS d ps))/\i<ps.length,fun i H x H'=>H'=H/\∃ p,ps[i]? = some p/\x=p.2.2,fun i H=>H d=some (.frz ob (aS d ps))/\ps.length<=i⟩
theorem r8 {X:Cx}{a1Z:List (Addr×TK)}{σ:St}{H:Hp}{s:RC}{d:Addr}{ob:TK}{ps:bL}(I:Inv X a1Z σ H s)(e:H d=some (.frz ob (aS d ps))) :
  (d == SW)=false/\ps.length<=RL/\∃ es ep,RawD s.heap d es ep/\ob.data=.dict es ep/\Vals (ps.map (·.2.2)) (es.toList.map (·.val)):=by
 obtain ⟨g0,⟨ws,r,hs,hl,o,es,ep,h1,h2,h3,h4,h5⟩,_⟩:=(show ObjOk X.prog X.w H s.heap d (.frz ob (aS d ps)) from I.hok d _ e)
 rw [g0] at h1
 cases h1
 refine ⟨hs,hl,es,ep,⟨ob,g0,h2,h3⟩,h3,?_⟩
 have ew:(VZ oH ps ws).map (·.val)=ws:=CO ps ws (by
  have:=r.length
  rw [Ro] at this
  exact this)
 rw [h4,ew]
 exact r
theorem Nd {P:R8}{w:Sy}{K:Rn}{tg:RI}{d it:Addr}{ob:TK}{ps:bL}{es:Array SV}{ep:Nat}(hd:ob.data=.dict es ep):Turn P w K tg (wU d ob ps) [it] it (fun i h=>h.IsValIter it d i es.size ep) where
 mem:=by simp
 obj:=fun i h st b hb=>by
  have e:b=it:=by simpa using hb
  subst e
  obtain ⟨o,e,c,d⟩:=st
  exact ⟨o,e,fun v z=>by rw [d] at z;cases z⟩
 keep:=fun i h h' st k=>let ⟨o,e,c⟩:=st;⟨o,k it (by simp) o e,c⟩
 item:=by
  intro X hP hw hK hc i a1Z s σ H E I hf st hg
  subst hP hw hK
  obtain ⟨hg1,hg2⟩:=hg
  obtain ⟨lo,hl,es',ep',g,hd',he⟩:=r8 I hg1
  rw [hd] at hd'
  cases hd'
  have hs:es.size=ps.length:=by
   have:=he.length
   rw [Ro,Ro,Tw] at this
   exact this.symm
  obtain ⟨f0,f1,f2,f3,f4,f5⟩:=hf it (by simp)
  refine CN (I.ok.hd hc) st g (fun e h' he' j' sb=>?_) fun hn=>by simp at hn;omega
  have I1:Inv X a1Z σ H { s with heap:=h' }:=I.turned (t':=s.toks) (fun b o hb e=>(sb.2 b hb).trans e) f0 f1 f3 f4 f5
  obtain ⟨o,e1,c,d1⟩:=id j'
  have hp:ps[i]? = some ps[i]:=RN hg2
  obtain ⟨u,u1,u2⟩:=he.get (i:=i) (x:=ps[i].2.2) (by rw [RR,hp];rfl)
  rw [RR,Tp,he'] at u1
  cases u1
  exact ⟨e.val,rfl,oB (s:={ s with heap:=h' }) e1 c d1 (by decide) ⟨ps[i].2.2,H,I1,u2,⟨rfl,ps[i],hp,rfl⟩,j',fun b hb=>(hf b hb).1⟩⟩
 done:=by
  intro X hP hw hK hc i a1Z s σ H E I hf st hg
  subst hP hw hK
  obtain ⟨hg1,hg2⟩:=hg
  obtain ⟨lo,hl,es',ep',g,hd',he⟩:=r8 I hg1
  rw [hd] at hd'
  cases hd'
  have hs:es.size=ps.length:=by
   have:=he.length
   rw [Ro,Ro,Tw] at this
   exact this.symm
  obtain ⟨f0,f1,f2,f3,f4,f5⟩:=hf it (by simp)
  exact CN (I.ok.hd hc) st g (fun e h' he'=>by
   have:=(X5.mp he').1
   omega) fun _ h' eb=>⟨rfl,I.turned (t':=s.toks) (fun b o hb e=>eb b o hb e) f0 f1 f3 f4 f5⟩
 self:=fun _ _ _ _ _ st h=>wpAny_pyIter_valiter st h
theorem Nf {X:Cx}{l tg:RI}{tl:TE}{apos cpos:TC}(hl:PE X l tl)(hbase:UH l "values" X.env (eval l X.env)=eval l X.env) (hline:(apos.endLine == cpos.line)=true) :
  PI X tg (.Call (.Attribute l "values" apos) [] [] cpos) (fun σ H R=>tl σ H fun v H1=>∃ d ob ps,v=.ref d/\H1 d=some (.frz ob (aS d ps))/\R (wU d ob ps) H1):=by
 intro a1Z s σ H R I h
 refine VB hbase hline (aQ (hl a1Z s σ H _ I h) fun v s1 ⟨y,H1,I1,r1,q1⟩=>?_)
 obtain ⟨d,ob,ps,e,hf,q⟩:=q1
 subst e
 obtain rfl:v=RJ d:=r1
 obtain ⟨lo,hl,es,ep,g,hd,he⟩:=r8 I1 hf
 refine ⟨"dict","dict.values",Vg,XZ,PySem.F.type_dict_values,g.ty,fun b eb=>?_,Ud rfl (VQ ?_)⟩
 ·cases eb
  obtain ⟨z,g1,g2,_⟩:=g
  exact ⟨z,g1,g2.2.1⟩
 refine Wh XZ g.ty PySem.F.entry_dict_values (PySem.F.args_dict_values_1 _) (Nb d lo) ⟨⟨es,ep,g⟩,?_⟩
 have I2:Inv X a1Z σ H1 { s1 with heap:=s1.heap.push { cls:=.type "dict_values",data:=.fields #[.ref d] } }:=I1.kept (t':=s1.toks) fun b o e=>Rt _ e
 obtain ⟨lo2,hl2,es2,ep2,g2,hd2,he2⟩:=r8 I2 hf
 show RQ (R0 X.prog X.w) X.A (XD (.ref s1.heap.objs.size)) (oA X a1Z σ tg R) X.xe _
 refine Nc ⟨_,RK _ rfl,rfl,rfl⟩ g2 ⟨_,[_],_,_,H1,rfl,I2.kept (t':=s1.toks) fun b o e=>Rt _ e,Nd hd2,⟨_,RK _ rfl,rfl,rfl⟩,fun b hb=>?_,q⟩
 have e:=Sk.mp hb
 subst e
 exact I2.fpOk (RD _) (I2.hok.fresh (RD _))
noncomputable def iJ (kvs:List (List Int×D)):List D:=kvs.map (·.2)
theorem Ng {K:Rn}{π:Nat->Addr}{n:Nat}{H:Hp}{d:Addr}{ob:TK}{ps:bL}{kvs:List (List Int×D)}(e0:H d=some (.frz ob (aS d ps)))(T:IsTs K π n H ps kvs):Wk K (wU d ob ps) (dU (.tup (iJ kvs))) π n H:=by
 have el:ps.length=kvs.length:=by
  have:=congrArg Ss T.to.1
  simpa using this
 refine ⟨fun π' μ H' i e R z=>?_,fun π' μ H' i dd e R z=>?_⟩
 ·have z':(iJ kvs)[i]? = none:=RY z
  have:=Su.mp z'
  rw [iJ,Ro] at this
  exact ⟨e.frz _ _ _ e0,by omega⟩
 ·have z':(iJ kvs)[i]? = some dd:=RY z
  have hi:i<kvs.length:=by
   have:=(Rw.mp z').1
   rwa [iJ,Ro] at this
  refine ⟨⟨e.frz _ _ _ e0,by omega⟩,fun v H2 ⟨e1,p,e2,e3⟩=>?_⟩
  subst e1 e3
  obtain ⟨v',h1,h2⟩:=(T.to.2.2.mono e).get z'
  rw [RR,e2] at h1
  cases h1
  exact ⟨.refl,R,h2⟩
noncomputable def nM (m:ME):MI:=fun ρ μ=>(m ρ μ).bind fun p=>match p.1 with
 | .loc a=>match p.2[a]? with
  | some (.dF kvs)=>some (dU (.tup (iJ kvs)),kvs.length+1,p.2)
  | _=>none
 | _=>none
theorem Nh {X:Cx}{e:RI}{m:ME}{apos cpos:TC}(h:QE X e m)(hs:iV e=true)(hl:(apos.endLine == cpos.line)=true):QJ X (.Call (.Attribute e "values" apos) [] [] cpos) (nM m):=⟨fun tg a1Z s σ H R I hw=>by
 obtain ⟨π,ρ,μ,src,n,μ',Rr,E,hm,k⟩:=hw
 obtain ⟨⟨x,μ1⟩,h1,hm⟩:=Rl.mp hm
 dsimp only at hm
 split at hm
 ·split at hm
  ·rename_i kvs hc
   cases hm
   refine Nf h.h (jX hs) hl a1Z s σ H R I ⟨π,ρ,μ,_,_,Rr,E,h1,fun π1 v1 H1 e1 R1 i1=>?_⟩
   cases i1
   obtain ⟨ob,ps,f1,T⟩:=oV R1 hc
   exact ⟨_,ob,ps,rfl,f1,k π1 H1 _ e1 R1 (Ng f1 T)⟩
  ·cases hm
 ·cases hm⟩
end L3
namespace L3
open PySem L2
section
variable {prog:R8}{w:Sy}{A:Sn}{E:Ru->RC->Prop}{s:RC}
theorem Ni {it t:Addr}{i:Nat} {items} {x:Ru}{Q:Ru->RC->Prop}(hit:s.heap.IsTupleIter it t i)(ht:s.heap.IsTuple t items)(hx:items[i]? = some x)
  (hQ:∀ h',h'.IsTupleIter it t (i+1)->T1 it s.heap h'->Q x { s with heap:=h' }):RQ (R0 prog w) A (TH (.ref it)) Q E s:=by
 obtain ⟨o,ho,hc,hd⟩:=id hit
 obtain ⟨ol,hol,_,nl,hdl⟩:=ht
 unfold TH
 refine Rm (Ug (name:=UM "__next__") hit.typeIs F.slot_tuple_iterator_next (SU F.slot_tuple_iterator_next hit.typeIs F.entry_tuple_iterator_next ?_ (F.args_tuple_iterator_next_1 _)))
 show RQ _ _ (a0L (.ref it) 0 >>= _) _ _ s
 refine Rm (TM ho hd (x:=.ref t) rfl ?_)
 show RQ _ _ (if (RJ t == Sz)=true then _ else _) _ _ s
 rw [if_neg (show ¬ ((RJ t == Sz)=true) from RO)]
 show RQ _ _ (a0L (.ref it) 1 >>= _) _ _ s
 refine Rm (TM ho hd (x:=.int i 0) rfl ?_)
 show RQ _ _ (seqItems? (.ref t) >>= _) _ _ s
 refine Rm (Vf hol hdl ?_)
 simp only [Uw,hx]
 refine Rm (Ve ho hd (by simp) (Ry ⟨x,rfl,Ry (hQ _ ?_ (SX ..))⟩))
 exact ⟨_,S2 _ ho (WN (UO hd _)),(Xq ..).trans hc,by rw [UO hd];simp [Up]⟩
theorem Nj {it t:Addr}{i:Nat} {items} {Q:Ru->RC->Prop}(hh:A.handled=none)(hit:s.heap.IsTupleIter it t i)(ht:s.heap.IsTuple t items)(hx:items[i]? = none)
  (hE:∀ h' e,Wj it s.heap h'->(∃ o,h'.get? e=some o/\o.cls=.type "StopIteration")->E (.ref e) { s with heap:=h' }):RQ (R0 prog w) A (TH (.ref it)) Q E s:=by
 obtain ⟨o,ho,hc,hd⟩:=id hit
 obtain ⟨ol,hol,_,nl,hdl⟩:=ht
 unfold TH
 refine Rm (Ug (name:=UM "__next__") hit.typeIs F.slot_tuple_iterator_next (SU F.slot_tuple_iterator_next hit.typeIs F.entry_tuple_iterator_next ?_ (F.args_tuple_iterator_next_1 _)))
 show RQ _ _ (a0L (.ref it) 0 >>= _) _ _ s
 refine Rm (TM ho hd (x:=.ref t) rfl ?_)
 show RQ _ _ (if (RJ t == Sz)=true then _ else _) _ _ s
 rw [if_neg (show ¬ ((RJ t == Sz)=true) from RO)]
 show RQ _ _ (a0L (.ref it) 1 >>= _) _ _ s
 refine Rm (TM ho hd (x:=.int i 0) rfl ?_)
 show RQ _ _ (seqItems? (.ref t) >>= _) _ _ s
 refine Rm (Vf hol hdl ?_)
 simp only [Uw,hx]
 refine Rm (Wr (Rm (Ve ho hd (by simp) ?_)))
 show RQ _ _ (Yh (.type "StopIteration") [] >>= _) _ _ _
 refine Rm ?_
 simp only [Yh,a0d]
 refine Rm (SS ?_ (by size_fits))
 refine Rm (m:=UK _ _) (Yo (a:=Sz) (by first|rfl|(simp only [UK];rfl)) ?_)
 refine SS ?_ (by size_fits)
 simp only [a0c]
 refine Rm (Xv ?_)
 first|rw [show A.in1.handled=none from hh]|rw [hh]
 exact Rm (Ry (Yn (hE _ _ (((SX ..).extBut.push _).push _) ⟨_,RK _ rfl,rfl⟩)))
theorem CP {z TI TO i1 i2 l1 l2:Addr}{k1 k2:Nat}{xs ys:Array Ru}{a b:Ru}{Q:Option Ru->RC->Prop}(hh:A.handled=none)(D:a0f z TI TO i1 i2 l1 l2)
  (hz:Xi s.heap z TI TO .none)(hTI:Vz s.heap TI (.ref i1) (.ref i2))(hTO:Vz s.heap TO a b)
  (h1:s.heap.IsTupleIter i1 l1 k1)(h2:s.heap.IsListIter i2 l2 k2)(hl1:s.heap.IsTuple l1 xs)(hl2:s.heap.IsList l2 ys)
  (hQ:∀ x y h',xs[k1]? = some x->ys[k2]? = some y->Xi h' z TI TO (Up s.heap.objs.size)->Vz h' TO x y->h'.IsTupleIter i1 l1 (k1+1)->h'.IsListIter i2 l2 (k2+1)->Vz h' s.heap.objs.size x y->h'.objs.size=s.heap.objs.size+1->
   (∀ c o,c≠z->c≠TO->c≠i1->c≠i2->s.heap.get? c=some o->h'.get? c=some o)->Q (some (.ref s.heap.objs.size)) { s with heap:=h' })
  (hE:∀ h',(xs[k1]? = none\/ys[k2]? = none)->(∀ c o,c≠z->c≠TO->c≠i1->c≠i2->s.heap.get? c=some o->h'.get? c=some o)->Q none { s with heap:=h' }) :
  RQ (R0 prog w) A (V8 (.ref z)) Q E s:=by
 have hT:s.TypeIs (.ref z) "zip":=⟨_,hz,rfl⟩
 have stop:∀ h' e,(xs[k1]? = none\/ys[k2]? = none)->(∀ c o,c≠z->c≠TO->c≠i1->c≠i2->s.heap.get? c=some o->h'.get? c=some o)->(∃ o,h'.get? e=some o/\o.cls=.type "StopIteration")->
   RQ (R0 prog w) A (do if <- isInstance (.ref e) (.type "StopIteration") then pure none else throw (.ref e)) Q E { s with heap:=h' }:=fun h' e hn hk ⟨o,ho,hc⟩=>
  Rm (Ul (T:="StopIteration") (b:=true) ⟨o,ho,hc⟩ Xg (Ry (hE _ hn hk)))
 unfold V8
 refine Rm (Xw (Ug (name:=UM "__next__") hT F.slot_zip_next (SU F.slot_zip_next hT F.entry_zip_next ?_ (F.args_zip_next_1 _))))
 show RQ _ _ (a0L (.ref z) 2 >>= _) _ _ _
 refine Rm (TM hz rfl (x:=.bool false) rfl ?_)
 show RQ _ _ (a0L (.ref z) 3 >>= _) _ _ _
 refine Rm (TM hz rfl (x:=.ref TI) rfl ?_)
 refine Rm (Vf hTI rfl ?_)
 show RQ _ _ (Wc (.ref z) >>= _) _ _ _
 refine Rm ?_
 unfold Wc
 refine Rm (TM hz rfl (x:=.none) rfl (Ry ?_))
 simp only [if_true]
 refine Rm (Wr ?_)
 refine Rm (TM hz rfl (x:=.ref TO) rfl ?_)
 refine Rm (Tg hz (by simp) fun g₁ hz₁ hs₁=>?_)
 replace hz₁:Xi g₁ z TI TO .ellipsis:=hz₁
 refine Rm ?_
 simp only [List.zipIdx_cons,List.zipIdx_nil,a0k,List.forIn_nil]
 refine Rm (Rm (wpAny_onRaise ?_))
 show RQ _ _ (TH (.ref i1) >>= _) _ _ _
 have t1:=h1.extBut hs₁.extBut D.i1z
 have tl:=hl1.extBut hs₁.extBut D.l1z
 cases hx:xs[k1]? with
 | none=>
  refine Rm (Nj hh t1 tl hx fun g₂ e hs₂ he=>?_)
  obtain ⟨oe,hoe,hce⟩:=he
  have hz₂:Xi g₂ z TI TO .ellipsis:=hs₂ _ _ D.i1z.symm hz₁
  have hez:e≠z:=fun x=>by subst x;rw [hz₂] at hoe;cases hoe;simp at hce
  exact Tg hz₂ (by simp) fun g₃ _ hs₃=>stop g₃ e (.inl hx) (fun c o c1 _ c3 _ x=>hs₃.extBut _ _ c1 (hs₂ _ _ c3 (hs₁.extBut _ _ c1 x))) ⟨oe,hs₃.extBut _ _ hez hoe,hce⟩
 | some x=>
  refine Rm (Ni t1 tl hx fun g₂ h1₂ hs₂=>Ry ?_)
  have hTO₂:Vz g₂ TO a b:=hs₂.extBut _ _ D.TOi1 (hs₁.extBut _ _ D.TOz hTO)
  refine Rm (Vf hTO₂ rfl ?_)
  refine Rm (Z7 hTO₂ fun g₃ hTO₃ hs₃=>?_)
  replace hTO₃:Vz g₃ TO x b:=hTO₃
  refine Rm (Xe (Ry ?_))
  refine Rm (Rm (wpAny_onRaise ?_))
  show RQ _ _ (TH (.ref i2) >>= _) _ _ _
  have t2:=((h2.extBut hs₁.extBut D.i2z).extBut hs₂.extBut D.i12.symm).extBut hs₃.extBut D.TOi2.symm
  have t2l:=((hl2.extBut hs₁.extBut D.l2z).extBut hs₂.extBut D.l2i1).extBut hs₃.extBut D.l2TO
  have hz₃:Xi g₃ z TI TO .ellipsis:=hs₃.extBut _ _ D.TOz.symm (hs₂.extBut _ _ D.i1z.symm hz₁)
  have hk₃:∀ c o,c≠z->c≠TO->c≠i1->s.heap.get? c=some o->g₃.get? c=some o:=fun c o c1 c2 c3 e=>hs₃.extBut _ _ c2 (hs₂.extBut _ _ c3 (hs₁.extBut _ _ c1 e))
  cases hy:ys[k2]? with
  | none=>
   refine Rm (wpAny_nextOf_list_end hh t2 t2l hy fun g₄ e hs₄ he=>?_)
   obtain ⟨oe,hoe,hce⟩:=he
   have hz₄:Xi g₄ z TI TO .ellipsis:=hs₄ _ _ D.i2z.symm hz₃
   have hez:e≠z:=fun x=>by subst x;rw [hz₄] at hoe;cases hoe;simp at hce
   exact Tg hz₄ (by simp) fun g₅ _ hs₅=>stop g₅ e (.inr hy) (fun c o c1 c2 c3 c4 x=>hs₅.extBut _ _ c1 (hs₄ _ _ c4 (hk₃ c o c1 c2 c3 x))) ⟨oe,hs₅.extBut _ _ hez hoe,hce⟩
  | some y=>
   refine Rm (wpAny_nextOf_list_item t2 t2l hy fun g₄ h2₄ hs₄=>Ry ?_)
   have hTO₄:Vz g₄ TO x b:=hs₄.extBut _ _ D.TOi2 hTO₃
   refine Rm (Vf hTO₄ rfl ?_)
   refine Rm (Z7 hTO₄ fun g₅ hTO₅ hs₅=>?_)
   replace hTO₅:Vz g₅ TO x y:=hTO₅
   refine Rm (Xe (Ry (Ry ?_)))
   refine Rm (Vf hTO₅ rfl ?_)
   refine Rm (Xd ?_)
   have hsz:g₅.objs.size=s.heap.objs.size:=by rw [hs₅.1,hs₄.1,hs₃.1,hs₂.1,hs₁.1]
   have hz₅:Xi g₅ z TI TO .ellipsis:=hs₅.extBut _ _ D.TOz.symm (hs₄.extBut _ _ D.i2z.symm hz₃)
   have hk₅:∀ c o,c≠z->c≠TO->c≠i1->c≠i2->s.heap.get? c=some o->g₅.get? c=some o:=fun c o c1 c2 c3 c4 e=>hs₅.extBut _ _ c2 (hs₄.extBut _ _ c4 (hk₃ c o c1 c2 c3 e))
   have h1₅:g₅.IsTupleIter i1 l1 (k1+1):=((h1₂.extBut hs₃.extBut D.TOi1.symm).extBut hs₄.extBut D.i12).extBut hs₅.extBut D.TOi1.symm
   have h2₅:g₅.IsListIter i2 l2 (k2+1):=h2₄.extBut hs₅.extBut D.TOi2.symm
   have hzlt:z<g₅.objs.size:=RH hz₅
   show RQ _ _ (V6 (.ref z) (.ref g₅.objs.size) >>= _) _ _ _
   refine Rm ?_
   unfold V6
   have hz₆:Xi (g₅.push { cls:=.type "tuple",data:=.seq #[x,y] }) z TI TO .ellipsis:=Rt _ hz₅
   refine Rm (Tg hz₆ (by simp) fun g₇ hz₇ hs₇=>?_)
   replace hz₇:Xi g₇ z TI TO (Up g₅.objs.size):=hz₇
   refine Tg hz₇ (by simp) fun g₈ hz₈ hs₈=>?_
   replace hz₈:Xi g₈ z TI TO (Up g₅.objs.size):=hz₈
   have up:∀ c o,c≠z->g₅.get? c=some o->g₈.get? c=some o:=fun c o c1 e=>hs₈.extBut _ _ c1 (hs₇.extBut _ _ c1 (Rt _ e))
   have hT₈:Vz g₈ g₅.objs.size x y:=hs₈.extBut _ _ (Te hzlt) (hs₇.extBut _ _ (Te hzlt) (RK _ rfl))
   have hz8:g₈.objs.size=g₅.objs.size+1:=by rw [hs₈.1,hs₇.1,TU]
   rw [hsz] at hz₈ hT₈ hz8
   refine Ry ⟨_,rfl,Ry ?_⟩
   show Q (some (.ref g₅.objs.size)) _
   rw [hsz]
   exact hQ x y g₈ hx hy hz₈ (up _ _ D.TOz hTO₅) (h1₅.at fun o e=>up _ o D.i1z e) (h2₅.at fun o e=>up _ o D.i2z e) hT₈ hz8 fun c o c1 c2 c3 c4 e=>up c o c1 (hk₅ c o c1 c2 c3 c4 e)
noncomputable abbrev r9 (h:SO)(l1:Addr):SO:=h.push { cls:=.type "tuple_iterator",data:=.fields #[.ref l1,.int 0 0] }
noncomputable abbrev sC (h:SO)(l1 l2:Addr):SO:=(r9 h l1).push { cls:=.type "list_iterator",data:=.fields #[.ref l2,.int 0 0] }
noncomputable abbrev sD (h:SO)(l1 l2:Addr):SO:=(sC h l1 l2).push { cls:=.type "tuple",data:=.seq #[.ref h.objs.size,.ref (r9 h l1).objs.size] }
noncomputable abbrev sE (h:SO)(l1 l2:Addr):SO:=(sD h l1 l2).push { cls:=.type "tuple",data:=.seq #[.none,.none] }
noncomputable abbrev nN (h:SO)(l1 l2:Addr):SO:=(sE h l1 l2).push { cls:=.type "zip",data:=.fields #[.none,.bool false,.bool false,.ref (sC h l1 l2).objs.size,.ref (sD h l1 l2).objs.size] }
theorem Nk (l1 l2:Addr)(xs ys:Array Ru) :
  Meets (Builtin.«zip.__new__» ⟨[.type "zip",.ref l1,.ref l2],[]⟩) (fun _ R s=>s.heap.IsTuple l1 xs/\s.heap.IsList l2 ys /\
   R (.ok (.ret (.ref (sE s.heap l1 l2).objs.size))) { s with heap:=nN s.heap l1 l2 }):=
 .of_wp fun prog w A R s h=>by
  obtain ⟨hp,g,d,tk,os⟩:=s;obtain ⟨hl1,hl2,h⟩:=h
  have hsub:=sub_zip
  have hL1:Heap.IsTuple (a0C ⟨hp,g,d,tk,os⟩) l1 xs:=hl1
  have hL2:Heap.IsList (a0C ⟨hp.push { cls:=.type "tuple_iterator",data:=.fields #[.ref l1,.int 0 0] },g,d,tk,os⟩) l2 ys:=a1X hl2 _
  wp_walk using a0w hL1,XO hL2
  exact ⟨_,rfl,h⟩
theorem Nl {l1 l2:Addr}{xs ys:Array Ru}{Q:Ru->RC->Prop}(hl1:s.heap.IsTuple l1 xs)(hl2:s.heap.IsList l2 ys)
  (h:∀ h',Xi h' (s.heap.objs.size+4) (s.heap.objs.size+2) (s.heap.objs.size+3) .none->Vz h' (s.heap.objs.size+2) (.ref s.heap.objs.size) (.ref (s.heap.objs.size+1))->
   Vz h' (s.heap.objs.size+3) .none .none->h'.IsTupleIter s.heap.objs.size l1 0->h'.IsListIter (s.heap.objs.size+1) l2 0->
   (∀ c o,s.heap.get? c=some o->h'.get? c=some o)->Q (.ref (s.heap.objs.size+4)) { s with heap:=h' }) :
  RQ (R0 prog w) A (call (.type "zip") [.ref l1,.ref l2]) Q E s:=by
 refine callType_new F.called_zip (by decide) (F.typeCall_zip_2 _ _) (F.newCall_zip_2 _ _) (fun obj=>F.args_object_init_3 obj _ _) F.entry_zip_new (Nk l1 l2 xs ys) ⟨hl1,hl2,?_⟩
 have z1:(r9 s.heap l1).objs.size=s.heap.objs.size+1:=TU ..
 have z2:(sC s.heap l1 l2).objs.size=s.heap.objs.size+2:=by rw [TU,z1]
 have z3:(sD s.heap l1 l2).objs.size=s.heap.objs.size+3:=by rw [TU,z2]
 have z4:(sE s.heap l1 l2).objs.size=s.heap.objs.size+4:=by rw [TU,z3]
 have g5:(nN s.heap l1 l2).get? (sE s.heap l1 l2).objs.size=some _:=RK _ rfl
 have g4:(nN s.heap l1 l2).get? (sD s.heap l1 l2).objs.size=some _:=Rt _ (RK _ rfl)
 have g3:(nN s.heap l1 l2).get? (sC s.heap l1 l2).objs.size=some _:=Rt _ (Rt _ (RK _ rfl))
 have g2:(nN s.heap l1 l2).get? (r9 s.heap l1).objs.size=some _:=Rt _ (Rt _ (Rt _ (RK _ rfl)))
 have g1:(nN s.heap l1 l2).get? s.heap.objs.size=some _:=Rt _ (Rt _ (Rt _ (Rt _ (RK _ rfl))))
 show _/\_
 rw [z2,z3,z4] at g5
 rw [z1,z2] at g3
 rw [z3] at g4
 rw [z1] at g2
 rw [z4]
 exact ⟨⟨_,g5,rfl⟩,h _ g5 g3 g4 ⟨_,g1,rfl,rfl⟩ ⟨_,g2,rfl,rfl⟩ fun c o x=>Rt _ (Rt _ (Rt _ (Rt _ (Rt _ x))))⟩
end
noncomputable def wV (K:Rn)(a b:Addr):It:=
 ⟨fun i H=>∃ xs ys x y,SqT K H a xs/\SqL K H b ys/\xs[i]? = some x/\ys[i]? = some y,
   fun i H z H'=>∃ p v u,z=.ref p/\H p=none/\H'=aI H p (.tup [v,u])/\(∀ xs,SqT K H a xs->xs[i]? = some v)/\∀ ys,SqL K H b ys->ys[i]? = some u,
   fun i H=>∃ xs ys,SqT K H a xs/\SqL K H b ys/\(xs.length<=i\/ys.length<=i)⟩
theorem Nm {P:R8}{w:Sy}{K:Rn}{es:List RI}{kx:Nat}{pt:TC}{a b z ti to j1 j2:Addr}(A0:a0f z ti to j1 j2 a b) :
  Turn P w K (.Tuple es kx pt) (wV K a b) [z,ti,to,j1,j2] z (fun i h=>Xi h z ti to .none/\Vz h ti (.ref j1) (.ref j2)/\(∃ u v,Vz h to u v)/\h.IsTupleIter j1 a i/\h.IsListIter j2 b i) where
 mem:=by simp
 obj:=fun i h ⟨g1,g2,⟨u,v,g3⟩,g4,g5⟩ c hc=>by
  have hc':c=z\/c=ti\/c=to\/c=j1\/c=j2:=by simpa using hc
  rcases hc' with rfl|rfl|rfl|rfl|rfl
  ·exact ⟨_,g1,fun q e=>by
    have e':WU _=V1 q:=e
    cases e'⟩
  ·exact ⟨_,g2,fun q e=>by
    have e':Xl _ _=V1 q:=e
    cases e'⟩
  ·exact ⟨_,g3,fun q e=>by
    have e':Xl _ _=V1 q:=e
    cases e'⟩
  ·obtain ⟨o,e1,c,d⟩:=g4
   exact ⟨o,e1,fun v e=>by rw [d] at e;cases e⟩
  ·obtain ⟨o,e1,c,d⟩:=g5
   exact ⟨o,e1,fun v e=>by rw [d] at e;cases e⟩
 keep:=fun i h h' ⟨g1,g2,⟨u,v,g3⟩,g4,g5⟩ k=>⟨k z (by simp) _ g1,k ti (by simp) _ g2,⟨u,v,k to (by simp) _ g3⟩,g4.at fun o e=>k j1 (by simp) o e,g5.at fun o e=>k j2 (by simp) o e⟩
 item:=by
  intro X hP hw hK hc i a1Z s σ H E I hf ⟨g1,g2,⟨u,v,g3⟩,g4,g5⟩ hg
  subst hP hw hK
  obtain ⟨xs,ys,x,y,hq,hq2,hx,hy⟩:=hg
  obtain ⟨its,rv,p,hz⟩:=I.tuple hq
  obtain ⟨its2,rv2,p2,hz2⟩:=I.list hq2
  obtain ⟨u1,gE,ru1⟩:=rv.get hx
  obtain ⟨u2,hu2,ru2⟩:=rv2.get hy
  refine CP (I.ok.hd hc) A0 g1 g2 g3 g4 g5 (show s.heap.IsTuple a its.toArray from p) p2.isList (fun w1 w2 h1 e1 e2 a1 a2 a3 a4 a5 a6 hk=>⟨_,rfl,Y3 a1 fun h2 b1 hs2=>?_⟩) fun h' hn _=>?_
  ·have f1:w1=u1:=by
    have:its[i]? = some w1:=by simpa using e1
    rw [gE] at this
    exact (RY this).symm
   have f2:w2=u2:=by
    have:its2[i]? = some w2:=by simpa using e2
    rw [hu2] at this
    exact (RY this).symm
   subst f1 f2
   have ne:∀ {c o},s.heap.get? c=some o->s.heap.objs.size≠c:=fun e=>Te (RH e)
   have l4:∃ o,s.heap.get? j1=some o:=let ⟨o,e,_⟩:=g4;⟨o,e⟩
   have l5:∃ o,s.heap.get? j2=some o:=let ⟨o,e,_⟩:=g5;⟨o,e⟩
   have ht2:h2.get? s.heap.objs.size=some { cls:=.type "tuple",data:=.seq #[w1,w2] }:=(hs2.2 _ (ne g1)).trans a5
   have hfr:H s.heap.objs.size=none:=I.hok.fresh (RD _)
   have g2':Vz h2 ti (.ref j1) (.ref j2):=(hs2.2 _ A0.TIz).trans (hk _ _ A0.TIz A0.TITO A0.TIi1 A0.TIi2 g2)
   refine ⟨.ref s.heap.objs.size,aI H s.heap.objs.size (.tup [x,y]),?_,rfl,⟨s.heap.objs.size,x,y,rfl,hfr,rfl,fun ws hw=>by rw [I.tuple_inj hw hq];exact hx,fun ws hw=>by rw [I.list_inj hw hq2];exact hy⟩,
    ⟨b1,g2',⟨_,_,(hs2.2 _ A0.TOz).trans a2⟩,a3.extBut hs2.extBut A0.i1z,a4.extBut hs2.extBut A0.i2z⟩,fun c hb=>?_⟩
   ·refine v7 (s:=s) (h':=h2) (t':=s.toks) (ch:=[z,ti,to,j1,j2]) I (fun c oc hb ec=>?_) hf (RD _) ?_
    ·have hb':c≠z/\c≠ti/\c≠to/\c≠j1/\c≠j2:=by simpa using hb
     exact (hs2.2 c hb'.1).trans (hk c oc hb'.1 hb'.2.2.1 hb'.2.2.2.1 hb'.2.2.2.2 ec)
    ·exact ⟨by show (2:Nat)<=RL;decide,[w1,w2],.cons ru1 (.cons ru2 .nil),_,ht2,rfl,0,rfl,rfl⟩
   ·have hb':c=z\/c=ti\/c=to\/c=j1\/c=j2:=by simpa using hb
    have hn:=(hf c hb).1
    rw [bA]
    ·exact hn
    ·rcases hb' with rfl|rfl|rfl|rfl|rfl
     ·exact (ne g1).symm
     ·exact (ne g2).symm
     ·exact (ne g3).symm
     ·exact (ne l4.choose_spec).symm
     ·exact (ne l5.choose_spec).symm
  ·exfalso
   have e1:its.toArray[i]? = some u1:=by simpa using gE
   have e2:its2.toArray[i]? = some u2:=by simpa using hu2
   rcases hn with hn|hn
   ·rw [e1] at hn;cases hn
   ·rw [e2] at hn;cases hn
 done:=by
  intro X hP hw hK hc i a1Z s σ H E I hf ⟨g1,g2,⟨u,v,g3⟩,g4,g5⟩ hg
  subst hP hw hK
  obtain ⟨xs,ys,hq,hq2,hx⟩:=hg
  obtain ⟨its,rv,p,hz⟩:=I.tuple hq
  obtain ⟨its2,rv2,p2,hz2⟩:=I.list hq2
  have hl:=rv.length
  have hl2:=rv2.length
  refine CP (I.ok.hd hc) A0 g1 g2 g3 g4 g5 (show s.heap.IsTuple a its.toArray from p) p2.isList (fun w1 w2 h1 e1 e2 _ _ _ _ _ _ _=>?_) fun h' _ eb=>⟨rfl,v8 (t':=s.toks) (ch:=[z,ti,to,j1,j2]) I (fun c o hb e=>?_) hf⟩
  ·exfalso
   have m1:i<its.length:=by
    have:its[i]? = some w1:=by simpa using e1
    exact (Rw.mp this).1
   have m2:i<its2.length:=by
    have:its2[i]? = some w2:=by simpa using e2
    exact (Rw.mp this).1
   omega
  ·have hb':c≠z/\c≠ti/\c≠to/\c≠j1/\c≠j2:=by simpa using hb
   exact eb c o hb'.1 hb'.2.2.1 hb'.2.2.2.1 hb'.2.2.2.2 e
 self:=fun _ _ _ _ _ ⟨g1,_⟩ h=>WK g1 h
noncomputable def o8 (ms:MA):MI:=fun ρ μ=>(ms ρ μ).bind fun p=>match p.1 with
 | [.tup xs,y]=>(dO p.2 y).map fun ys=>(l6 (.tup xs) y,min xs.length ys.length+1,p.2)
 | [x,y]=>(dO p.2 x).bind fun xs=>(dO p.2 y).map fun ys=>(l6 x y,min xs.length ys.length+1,p.2)
 | _=>none
theorem Nn {K:Rn}{π:Nat->Addr}{μ:Hm}{H:Hp}{v v':V}{y:D}{xs ys:List D}(R:Rp K π H μ)(h:IsD K π μ.length H v (.tup xs))(h':IsD K π μ.length H v' y)(hs':dO μ y=some ys) :
  ∃ a b,v=.ref a/\v'=.ref b/\(∃ vs,SqT K H a vs)/\(∃ vs,SqL K H b vs)/\Wk K (wV K a b) (l6 (.tup xs) y) π μ.length H:=by
 obtain ⟨b,rfl,qb,lb⟩:=wI R h' hs'
 cases h with
 | @tup a vs ds q t=>
 refine ⟨a,b,rfl,rfl,⟨vs,q⟩,qb,fun π' μ' H' i e R' z=>?_,fun π' μ' H' i d e R' z=>?_⟩
 ·obtain ⟨as,h1,z⟩:=Rl.mp z
  cases h1
  obtain ⟨bs,h2,z⟩:=Rv.mp z
  obtain ⟨us,q2,d2⟩:=lb π' μ' H' e R' bs h2
  refine ⟨vs,us,e.sqT q,q2,?_⟩
  rw [t.length,d2.length]
  cases e1:xs[i]? with
  | none=>exact .inl (Su.mp e1)
  | some d=>
   cases e2:bs[i]? with
   | none=>exact .inr (Su.mp e2)
   | some d'=>rw [e1,e2] at z;cases z
 ·obtain ⟨as,h1,z⟩:=Rl.mp z
  cases h1
  obtain ⟨bs,h2,z⟩:=Rv.mp z
  obtain ⟨d1',h3,z⟩:=Rl.mp z
  obtain ⟨d2',h4,h5⟩:=Rv.mp z
  subst h5
  obtain ⟨us,q2,d2⟩:=lb π' μ' H' e R' bs h2
  obtain ⟨w1,f1,k1⟩:=t.get h3
  obtain ⟨w2,f2,k2⟩:=d2.get h4
  refine ⟨⟨vs,us,w1,w2,e.sqT q,q2,f1,f2⟩,?_⟩
  rintro y H2 ⟨t,v1,v2,rfl,hn,rfl,hv1,hv2⟩
  have m1:=hv1 vs (e.sqT q)
  have m2:=hv2 us q2
  rw [f1] at m1
  rw [f2] at m2
  cases m1
  cases m2
  obtain ⟨e2,R2⟩:=R'.fresh (o:=.tup [w1,w2]) hn
  exact ⟨e2,R2,.tup (.of cG) (.cons ((k1.mono e).mono e2) (.cons (k2.mono e2) .nil))⟩
noncomputable def Np (K:Rn)(ta:TA):TI:=fun σ H R=>ta σ H fun vs H1=>∃ a b,vs=[.ref a,.ref b]/\(∃ ys,SqL K H1 b ys)/\(((∃ xs,SqL K H1 a xs)/\R (wH K a b) H1)\/((∃ xs,SqT K H1 a xs)/\R (wV K a b) H1))
open PyProof.Rows in
theorem Nq {X:Cx}{a b:RI}{ta:TA}{p pos pt:TC}{es:List RI}{kx:Nat}(hg:Gl X "zip") (hm:X.mg "zip" = none) (ha:PA X [a,b] ta)(hs:Sj [a,b] X.env=(false,eval a X.env)::Sj [b] X.env)(hs2:(Uz pos (Sj [b] X.env)).any (·.1)=false) :
  PI X (.Tuple es kx pt) (.Call (.Name "zip" p) [a,b] [] pos) (Np X.K ta):=by
 intro a1Z s σ H R I h
 refine Call_ (iE I hg hm Boot.«zip» (Tf (aQ (ha pos a1Z s σ H _ I h) fun us s1 ⟨vs,H1,I1,r1,q1⟩=>?_) hs hs2))
 obtain ⟨a0,b0,rfl,⟨ws2,hq2⟩,q⟩:=q1
 cases r1 with
 | cons ru rr=>
  cases rr with
  | cons ru2 rr=>
   cases rr
   cases ru
   cases ru2
   obtain ⟨its2,rv2,pl2,hz2⟩:=I1.list hq2
   have lb:b0<s1.heap.objs.size:=let ⟨_,e,_⟩:=pl2.isList;RH e
   have ap:∀ a0:Addr,a0<s1.heap.objs.size->a0f (s1.heap.objs.size+4) (s1.heap.objs.size+2) (s1.heap.objs.size+3) s1.heap.objs.size (s1.heap.objs.size+1) a0 b0:=fun a0 la=>by
    have la':@LT.lt Nat _ a0 s1.heap.objs.size:=la
    have lb':@LT.lt Nat _ b0 s1.heap.objs.size:=lb
    constructor<;>(show @Ne Nat _ _;omega)
   have fp:∀ c∈[s1.heap.objs.size+4,s1.heap.objs.size+2,s1.heap.objs.size+3,s1.heap.objs.size,s1.heap.objs.size+1],s1.heap.objs.size<=c:=fun c hc=>by
    simp only [Sa,Z3,or_false] at hc
    rcases hc with rfl|rfl|rfl|rfl|rfl<;>first|exact Nat.le_add_right _ _|exact RD _
   rcases q with ⟨⟨ws,hq⟩,q⟩|⟨⟨ws,hq⟩,q⟩
   ·obtain ⟨its,rv,pl,hz⟩:=I1.list hq
    have la:a0<s1.heap.objs.size:=let ⟨_,e,_⟩:=pl.isList;RH e
    refine call_zip_2 pl.isList pl2.isList fun h' g1 g2 g3 g4 g5 hsz hk=>WK g1 ?_
    have I2:Inv X a1Z σ H1 { s1 with heap:=h' }:=I1.kept (t':=s1.toks) hk
    exact ⟨s1.heap.objs.size+4,[s1.heap.objs.size+4,s1.heap.objs.size+2,s1.heap.objs.size+3,s1.heap.objs.size,s1.heap.objs.size+1],_,_,H1,rfl,I2,Md (ap a0 la),⟨g1,g2,⟨_,_,g3⟩,g4,g5⟩,fun c hc=>I1.fpOk (fp c hc) (I1.hok.fresh (fp c hc)),q⟩
   ·obtain ⟨its,rv,pl,hz⟩:=I1.tuple hq
    have pt:s1.heap.IsTuple a0 its.toArray:=pl
    have la:a0<s1.heap.objs.size:=let ⟨_,e,_⟩:=pt;RH e
    refine Nl pt pl2.isList fun h' g1 g2 g3 g4 g5 hk=>WK g1 ?_
    have I2:Inv X a1Z σ H1 { s1 with heap:=h' }:=I1.kept (t':=s1.toks) hk
    exact ⟨s1.heap.objs.size+4,[s1.heap.objs.size+4,s1.heap.objs.size+2,s1.heap.objs.size+3,s1.heap.objs.size,s1.heap.objs.size+1],_,_,H1,rfl,I2,Nm (ap a0 la),⟨g1,g2,⟨_,_,g3⟩,g4,g5⟩,fun c hc=>I1.fpOk (fp c hc) (I1.hok.fresh (fp c hc)),q⟩
theorem Nr {X:Cx}{a b:RI}{ms:MA}{n:Nat}{p pos:TC}(hgl:Gl X "zip") (hmg:X.mg "zip" = none) (ha:QA X [a,b] ms n):QJT X (.Call (.Name "zip" p) [a,b] [] pos) (o8 ms):=⟨fun es kx pt a1Z s σ H R I hw=>by
 have hs:=ha.s
 rw [Sx,RF,Sx,RF] at hs
 obtain ⟨π,ρ,μ,src,n',μ',Rr,E,hm,k⟩:=hw
 obtain ⟨⟨x,μ1⟩,h1,hm⟩:=Rl.mp hm
 refine Nq hgl hmg ha.h (eW hs.1) (by rw [eW hs.2.1];rfl) a1Z s σ H R I ⟨π,ρ,μ,x,μ1,Rr,E,h1,fun π1 vs H1 e1 R1 i1=>?_⟩
 dsimp only at hm
 split at hm
 ·rename_i xs y
  obtain ⟨ys,h3,hm⟩:=Rv.mp hm
  cases hm
  cases i1 with
  | cons i1 t1=>
   cases t1 with
   | cons i2 t2=>
    cases t2
    obtain ⟨a0,b0,rfl,rfl,qa,qb,W⟩:=Nn R1 i1 i2 h3
    exact ⟨a0,b0,rfl,qb,.inr ⟨qa,k π1 H1 _ e1 R1 W⟩⟩
 ·rename_i x y _
  obtain ⟨xs,h2,hm⟩:=Rl.mp hm
  obtain ⟨ys,h3,hm⟩:=Rv.mp hm
  cases hm
  cases i1 with
  | cons i1 t1=>
   cases t1 with
   | cons i2 t2=>
    cases t2
    obtain ⟨a0,b0,rfl,rfl,qa,qb,W⟩:=Me R1 i1 i2 h2 h3
    exact ⟨a0,b0,rfl,qb,.inl ⟨qa,k π1 H1 _ e1 R1 W⟩⟩
 ·cases hm⟩
end L3
namespace L3
open PySem L2
structure Sig where
 fn:List (Str×Nat)
 con:List (Str×D)
 tab:List (Str×List (a9×D))
 no:List Str
 dIt:List Str
 dEq:List Str
 dMe:List Str
structure Cs where
 N:List Str
 ks:List (Str×UC)
noncomputable def kP (x:Str):List Str->Option Nat
 | []=>none
 | y::r=>if x=y then some 0 else (kP x r).map (·+1)
theorem o9 {x:Str}:∀ {N:List Str}{i:Nat},kP x N=some i->N[i]? = some x
 | [],_,h=>by cases h
 | y::r,i,h=>by
  unfold kP at h
  split at h
  ·rename_i e;cases h;subst e;rfl
  ·obtain ⟨j,h1,h2⟩:=Rv.mp h
   subst h2
   have:=o9 h1
   simpa using this
noncomputable def glob (c:Cs)(x:Str):Bool:=decide (c.ks.lookup x=some .globalImplicit)&&!(x == ("__debug__":Str))
noncomputable def mN (c:Cs)(x:Str):Bool:=(decide (c.ks.lookup x=some .local)||decide (c.ks.lookup x=some .cell)||decide (c.ks.lookup x=some .free))&&!(x == ("__debug__":Str))&&!(x == ("__classdict__":Str))
noncomputable def l8 (c:Cs)(x:Str):Bool:=decide (c.ks.lookup x=some .local)||decide (c.ks.lookup x=some .cell)
noncomputable def wW (x:Str):Option String:=
 if x = "int" then some "int" else if x = "bool" then some "bool" else if x = "str" then some "str" else if x = "list" then some "list" else if x = "tuple" then some "tuple" else if x = "dict" then some "dict" else none
theorem Nt {x:Str}{n:String}(h:wW x=some n):Tz x=some (.type n)/\x ≠ "__name__":=by
 unfold wW at h
 split at h
 ·rename_i e;subst e;cases h;exact ⟨ZN,by decide⟩
 split at h
 ·rename_i e;subst e;cases h;exact ⟨ZO,by decide⟩
 split at h
 ·rename_i e;subst e;cases h;exact ⟨ZH,by decide⟩
 split at h
 ·rename_i e;subst e;cases h;exact ⟨Vx,by decide⟩
 split at h
 ·rename_i e;subst e;cases h;exact ⟨Vq,by decide⟩
 split at h
 ·rename_i e;subst e;cases h;exact ⟨WM,by decide⟩
 ·cases h
noncomputable def wX (S:Sig)(c:Cs)(x:Str):ME:=
 if mN c x=true then (match kP x c.N with|some i=>aA i|none=>bW)
 else if glob c x=true then (match S.con.lookup x with
  | some d=>mC d
  | none=>if S.no.contains x=true then (match wW x with|some n=>mC (.ty n)|none=>bW) else bW)
 else bW
noncomputable def eZ (r:RI->ME):List RI->MA
 | []=>aD
 | e::es=>aC (r e) (eZ r es)
noncomputable def sF (op:BoolOp):List ME->ME
 | []=>bW
 | [m]=>m
 | m::r=>match op with
  | .And=>eJ m (sF op r)
  | .Or=>uG m (sF op r)
noncomputable def sG (op:BoolOp):List MT->MT
 | []=>lN
 | [m]=>m
 | m::r=>match op with
  | .And=>iF m (sG op r)
  | .Or=>iT m (sG op r)
noncomputable def CQ (op:YY)(a b:ME):ME:=match op with
 | .Add=>aB bK a b
 | .Sub=>aB fI a b
 | .Mult=>aB bT a b
 | .FloorDiv=>aB d8 a b
 | .Mod=>aB bH a b
 | .Pow=>aB uO a b
 | _=>bW
noncomputable def kQ (op:Vr)(ns:Bool)(a b:ME):ME:=match op with
 | .Eq=>aB (aW false) a b
 | .NotEq=>aB (aW true) a b
 | .Lt=>aB hG a b
 | .LtE=>aB mX a b
 | .Gt=>aB fK a b
 | .GtE=>aB uU a b
 | .In=>if ns=true then aB (cX false) a b else bW
 | .NotIn=>if ns=true then aB (cX true) a b else bW
 | _=>bW
noncomputable def nO (r:RI->ME):Option RI->MO
 | none=>mS
 | some e=>mT (r e)
noncomputable def fP:MF:=fun ds μ=>match ds with
 | [.loc a]=>match μ[a]? with
  | some (.lst xs)=>some (.int xs.length,μ)
  | some (.st ks)=>some (.int ks.length,μ)
  | some (.dT kvs)=>some (.int kvs.length,μ)
  | _=>none
 | _=>oN ds μ
noncomputable def wY:MF:=fun ds μ=>match ds with
 | [x]=>(bJ μ x).map fun xs=>(.tup xs,μ)
 | _=>none
theorem Nu {K:Rn}:dA K wY (fun xs H Q=>∃ p ys,xs=[.ref p]/\((SqL K H p ys/\∀ l,H l=none->Q (.ref l) (aI H l (.tup ys)))\/(SqT K H p ys/\Q (.ref p) H))):=by
 intro π H μ xs d μ' vs Q R i hm k
 unfold wY at hm
 split at hm
 ·obtain ⟨ys,h1,h2⟩:=Rv.mp hm
  cases h2
  cases i with
  | cons i t=>
   cases t
   obtain ⟨p,ws,rfl,q,hd⟩:=oO R i h1
   refine ⟨p,ws,rfl,?_⟩
   rcases q with q|q
   ·refine .inl ⟨q,fun l hl=>?_⟩
    obtain ⟨e2,R2⟩:=R.fresh (o:=.tup ws) hl
    exact k π _ _ e2 R2 (.tup (.of cG) (hd.mono e2))
   ·exact .inr ⟨q,k π _ H .refl R (.tup q hd)⟩
 ·cases hm
noncomputable def nP:MF:=fun ds μ=>match ds with
 | [.loc a]=>match μ[a]? with
  | some (.dT kvs)=>some (.loc μ.length,μ++[.lst (kvs.map fun k=>D.tup (k.1.map D.int))])
  | _=>oP [.loc a] μ
 | ds=>oP ds μ
theorem Nv {K:Rn}:dA K nP (fun xs H Q=>(∃ p ys,xs=[.ref p]/\(SqL K H p ys\/SqT K H p ys)/\∀ l,H l=none->Q (.ref l) (aI H l (.lst ys)))\/Cm K xs H Q):=by
 intro π H μ xs d μ' vs Q R i hm k
 unfold nP at hm
 split at hm
 ·rename_i a
  split at hm
  ·rename_i kvs hy
   cases hm
   cases i with
   | cons i t=>
    cases t
    cases i
    obtain ⟨ps,h1,T⟩:=eY R hy
    refine .inr ⟨_,ps,rfl,h1,T.keys,fun l hl=>?_⟩
    obtain ⟨e2,R2,_⟩:=R.alloc (c:=.lst (kvs.map fun k:List Int×D=>D.tup (k.1.map D.int))) (o:=.lst (ps.map fun p:List Int×Addr×V=>V.ref p.2.1)) hl T.to.2.1
    exact k _ _ _ e2 R2 gW
  ·exact .inl (Bg π H μ _ d μ' vs Q R i hm k)
 ·exact .inl (Bg π H μ _ d μ' vs Q R i hm k)
noncomputable def wZ (x:Str):Option MF:=
 if x = "len" then some fP
 else if x = "isinstance" then some dR
 else if x = "list" then some nP
 else if x = "tuple" then some wY
 else if x = "sorted" then some wC
 else if x = "min" then some LI else if x = "max" then some wD
 else none
noncomputable def Nw (K:Rn):List V->Hp->VK->Prop:=fun xs H Q=>uZ K xs H Q\/(∃ a L,xs=[V.ref a]/\H a=some (qO a L)/\Q (.int L.length) H)\/Ck K xs H Q
theorem Nx {K:Rn}:dA K fP (Nw K):=by
 intro π H μ xs d μ' vs Q R i hm k
 unfold fP at hm
 split at hm
 ·rename_i a
  split at hm
  ·rename_i ys hy
   refine .inl (Bf π H μ _ d μ' vs Q R i ?_ k)
   simp only [oN,bJ,hy]
   exact hm
  ·rename_i ks hy
   cases hm
   cases i with
   | cons i t=>
    cases t
    cases i
    obtain ⟨L,h1,h2,_⟩:=R.st a ks hy
    have:=congrArg Ss h2
    rw [Ro] at this
    refine .inr (.inl ⟨_,L,rfl,h1,?_⟩)
    rw [this]
    exact k π _ H .refl R (.int _)
  ·rename_i kvs hy
   cases hm
   cases i with
   | cons i t=>
    cases t
    cases i
    obtain ⟨ps,h1,T⟩:=eY R hy
    have:=congrArg Ss T.to.1
    rw [Ro,Ro] at this
    refine .inr (.inr ⟨_,ps,rfl,h1,T.keys,?_⟩)
    rw [this]
    exact k π _ H .refl R (.int _)
  ·cases hm
 ·exact .inl (Bf π H μ _ d μ' vs Q R i hm k)
theorem Ny {X:Cx}{x:Str}{f:MF}(hcalm:X.calm=true)(hun:X.A.units+64<TN)(h:wZ x=some f):∃ v r,Tz x=some v/\((∃ id,v=.builtin id)\/∃ T,v=.type T)/\CallR X v r/\dA X.K f r/\x ≠ "__name__":=by
 unfold wZ at h
 split at h
 ·rename_i e;subst e;cases h;exact ⟨_,_,ZL,.inl ⟨_,rfl⟩,call_lenM.or (call_lenT.or L5),Nx,by decide⟩
 split at h
 ·rename_i e;subst e;cases h;exact ⟨_,_,ZM,.inl ⟨_,rfl⟩,Jj,Ji,by decide⟩
 split at h
 ·rename_i e;subst e;cases h;exact ⟨_,_,Vx,.inr ⟨_,rfl⟩,call_list_of.or (L6 hcalm),Nv,by decide⟩
 split at h
 ·rename_i e;subst e;cases h;exact ⟨_,_,Vq,.inr ⟨_,rfl⟩,Aw,Nu,by decide⟩
 split at h
 ·rename_i e;subst e;cases h;exact ⟨_,_,Vm,.inl ⟨_,rfl⟩,call_sortI.or K1,Lu,by decide⟩
 split at h
 ·rename_i e;subst e;cases h;exact ⟨_,_,ZJ,.inl ⟨_,rfl⟩,Gw hcalm,La,by decide⟩
 split at h
 ·rename_i e;subst e;cases h;exact ⟨_,_,ZK,.inl ⟨_,rfl⟩,Gv hcalm,Lb,by decide⟩
 ·cases h
noncomputable def w4 (x:Str):Option MF:=
 wZ x
theorem Nz {X:Cx}{x:Str}{f:MF}(hcalm:X.calm=true)(hun:X.A.units+64<TN)(h:w4 x=some f):∃ v r,Tz x=some v/\((∃ id,v=.builtin id)\/∃ T,v=.type T)/\CallR X v r/\dA X.K f r/\x ≠ "__name__":=by
 unfold w4 at h
 exact Ny hcalm hun h
noncomputable def CS (m:Str)(n:Nat):Option (D->List D->Hm->Option (D×Hm)):=
 if n=1 then (if m = "append" then some fN
  else none)
 else if n=0 then (if m = "clear" then some vC else if m = "pop" then some vD else if m = "reverse" then some lP else none)
 else none
noncomputable def i8:MF:=fun ds μ=>match ds with
 | [.loc a]=>match μ[a]? with
  | some (.dT kvs)=>if kvs.length<64/\(∀ p∈kvs,p.1≠[]) then some (.loc μ.length,μ++[.lst ((j4 kvs).map fun k=>D.tup (k.1.map D.int))]) else none
  | _=>none
 | _=>none
theorem NA {K:Rn}:dA K i8 (Cz K):=by
 intro π H μ xs d μ' vs Q R i hm k
 unfold i8 at hm
 split at hm
 ·split at hm
  ·rename_i kvs hy
   split at hm
   ·rename_i hb
    cases hm
    cases i with
    | cons i t=>
     cases t
     cases i
     obtain ⟨ps,h1,T⟩:=eY R hy
     obtain ⟨el,T2⟩:=Mp T
     refine ⟨_,ps,rfl,h1,T.keys,by omega,fun p hp z=>?_,fun l hl=>?_⟩
     ·have:p.1∈kvs.map (·.1):=by rw [<- T.to.1];exact RG.mpr ⟨p,hp,rfl⟩
      obtain ⟨q,hq,e⟩:=RG.mp this
      exact hb.2 q hq (e.trans z)
     ·obtain ⟨e2,R2,_⟩:=R.alloc (c:=.lst ((j4 kvs).map fun k:List Int×D=>D.tup (k.1.map D.int))) (o:=.lst ((j0 ps).map fun p:List Int×Addr×V=>V.ref p.2.1)) hl T2.to.2.1
      exact k _ _ _ e2 R2 gW
   ·cases hm
  ·cases hm
 ·cases hm
noncomputable def w5:MF:=fun ds μ=>match ds with
 | [.loc a]=>match μ[a]? with
  | some (.dT kvs)=>if kvs≠[]/\(kvs.map fun p=>Tb.hashT p.1).Nodup then some (.loc μ.length,μ++[.dT kvs]) else none
  | _=>none
 | _=>none
theorem NB {K:Rn}:dA K w5 (CH K):=by
 intro π H μ xs d μ' vs Q R i hm k
 unfold w5 at hm
 split at hm
 ·split at hm
  ·rename_i kvs hy
   split at hm
   ·rename_i hb
    cases hm
    cases i with
    | cons i t=>
     cases t
     cases i
     obtain ⟨ps,h1,T⟩:=eY R hy
     have ek:=T.to.1
     refine ⟨_,ps,rfl,h1,T.keys,fun z=>?_,?_,fun l hl=>?_⟩
     ·rw [z] at ek
      exact hb.1 (Vc.mp ek.symm)
     ·have:(ps.map fun p=>Tb.hashT p.1)=kvs.map fun p=>Tb.hashT p.1:=by
       have:=congrArg (a0u Tb.hashT) ek
       simpa [RU,Function.comp_def] using this
      rw [this];exact hb.2
     ·obtain ⟨e2,R2,_⟩:=R.alloc (c:=.dT kvs) (o:=aS l ps) hl ⟨ps,rfl,T.to⟩
      exact k _ _ _ e2 R2 gW
   ·cases hm
  ·cases hm
 ·cases hm
noncomputable def w6 (S:Sig):RI->List RI->Option (Bool×RI)
 | .Name x _,[.Name y p]=>if S.dMe.contains y=true then (if x = "sorted" then some (true,.Name y p) else if x = "dict" then some (false,.Name y p) else none) else none
 | _,_=>none
noncomputable def CT (S:Sig)(o:RI)(m:Str)(n:Nat):Option (D->List D->Hm->Option (D×Hm)):=
 if m = "setdefault"/\n=2 then some wQ else if m = "get"/\n=2 then some kM else if m = "clear"/\n=0 then (match o with|.Name x _=>if S.dMe.contains x=true then some wR else none|_=>none) else none
noncomputable def CU (S:Sig):RI->Bool
 | .Name x _=>S.dEq.contains x
 | .Dict [] [] _=>S.dEq.contains "{}"
 | _=>false
noncomputable def nQ (op:Vr)(a b:ME):ME:=match op with
 | .Eq=>aB (kN false) a b
 | .NotEq=>aB (kN true) a b
 | _=>bW
noncomputable def sH (S:Sig)(c:Cs)(tg:RI):RI->Option Nat
 | .Name x _=>match tg with
  | .Name _ _=>if S.dIt.contains x=true then kP x c.N else none
  | _=>none
 | _=>none
noncomputable def w8 (S:Sig)(F:Str->MF)(r:RI->ME)(c:Cs)(f:RI)(args:List RI)(cpos:TC):ME:=match f with
 | .Name x _=>if glob c x&&args.all cW then (match S.fn.lookup x with
   | some n=>if args.length=n then aK (F x) (eZ r args) else bW
   | none=>if S.no.contains x&&!args.isEmpty then (match w4 x with|some g=>aK g (eZ r args)|none=>bW) else bW)
  else bW
 | .Attribute o m apos=>if iV o&&(apos.endLine == cpos.line)&&args.all cW then (
   match CT S o m args.length with
   | some g=>i7 g (r o) (eZ r args)
   | none=>
   match CS m args.length with
   | some g=>d9 g (r o) (eZ r args)
   | none=>
    bW)
  else bW
 | _=>bW
noncomputable def w9:RI->Option (RI×List RI)
 | .Call f as [] _=>some (f,as)
 | _=>none
theorem NC {e f:RI}{as:List RI}(h:w9 e=some (f,as)):∃ pos,e=.Call f as [] pos:=by
 unfold w9 at h
 split at h
 ·cases h;exact ⟨_,rfl⟩
 ·cases h
noncomputable def sI:RI->Option Str
 | .Name x _=>some x
 | _=>none
theorem CV {e:RI}{x:Str}(h:sI e=some x):∃ p,e=.Name x p:=by
 unfold sI at h
 split at h
 ·cases h;exact ⟨_,rfl⟩
 ·cases h
noncomputable def o1:List RI->Option RI
 | [e]=>some e
 | _=>none
theorem CW {l:List RI}{e:RI}(h:o1 l=some e):l=[e]:=by
 unfold o1 at h
 split at h
 ·cases h;rfl
 ·cases h
noncomputable def xA (f:RI)(args:List RI):Option (Str×Str×RI):=(sI f).bind fun x=>(o1 args).bind fun a=>(w9 a).bind fun g=>(sI g.1).bind fun y=>(o1 g.2).map fun e=>(x,y,e)
theorem CY {f:RI}{args:List RI}{x y:Str}{e:RI}(h:xA f args=some (x,y,e)):∃ p p2 pos,f=.Name x p/\args=[.Call (.Name y p2) [e] [] pos]:=by
 obtain ⟨x',h1,h⟩:=Rl.mp h
 obtain ⟨a,h2,h⟩:=Rl.mp h
 obtain ⟨g,h3,h⟩:=Rl.mp h
 obtain ⟨y',h4,h⟩:=Rl.mp h
 obtain ⟨e',h5,h⟩:=Rv.mp h
 cases h
 obtain ⟨p,rfl⟩:=CV h1
 obtain ⟨pos,rfl⟩:=NC h3
 obtain ⟨p2,h4⟩:=CV h4
 exact ⟨p,p2,pos,rfl,by rw [CW h2,h4,CW h5]⟩
noncomputable def ND (f:RI)(args:List RI):Option (Bool×RI):=(xA f args).bind fun t=>
 if t.1 = "list"/\t.2.1 = "reversed" then some (true,t.2.2) else
 none
noncomputable def CZ:Bool->Str
 | false=>"range"
 | true=>"reversed"
noncomputable def lstM:Bool->MF
 | true=>iH
 | false=>iH
noncomputable def xB (S:Sig)(F:Str->MF)(r:RI->ME)(c:Cs)(f:RI)(args:List RI)(cpos:TC):ME:=
 match ND f args with
 | some (b,e)=>if glob c "list" && glob c (CZ b)&&S.no.contains "list" && S.no.contains (CZ b)&&cW e then aK (lstM b) (eZ r [e]) else bW
 | none=>w8 S F r c f args cpos
noncomputable def xC:RI->Option (RI×TC×TC)
 | .Call g [] [] cpos=>match g with
  | .Attribute o m apos=>if m = "items" then some (o,apos,cpos) else none
  | _=>none
 | _=>none
theorem NF {e o:RI}{apos cpos:TC}(h:xC e=some (o,apos,cpos)):e=.Call (.Attribute o "items" apos) [] [] cpos:=by
 unfold xC at h
 split at h
 ·split at h
  ·split at h
   ·rename_i e1;cases h;rw [e1]
   ·cases h
  ·cases h
 ·cases h
noncomputable def NG (f:RI)(args:List RI):Option (RI×TC×TC):=(xA f args).bind fun t=>if t.1 = "tuple"/\t.2.1 = "sorted" then xC t.2.2 else none
noncomputable def xD (S:Sig)(F:Str->MF)(r:RI->ME)(c:Cs)(f:RI)(args:List RI)(cpos:TC):ME:=
 match NG f args with
 | some q=>if glob c "sorted" && glob c "tuple" && S.no.contains "sorted" && S.no.contains "tuple" && iV q.1&&(q.2.1.endLine == q.2.2.line) then o7 (r q.1) else bW
 | none=>
 match w6 S f args with
 | some (true,e)=>if glob c "sorted" && S.no.contains "sorted" then aK i8 (eZ r [e]) else bW
 | some (false,e)=>if glob c "dict" && S.no.contains "dict" then aK w5 (eZ r [e]) else bW
 | none=>
 xB S F r c f args cpos
noncomputable def pI (c:Cs)(scope:UN)(xs:List Str):Bool:=
 (scope.names.all fun y=>decide (y.2≠.cell))&&decide (scope.kind=.function)&&(scope.names.all fun y=>decide (y.2≠.local)||decide (scope.names.lookup y.1=some .local)) &&
 (xs.all fun x=>decide (scope.names.lookup x=some .local))&&decide xs.Nodup&&(scope.names.all fun y=>decide (y.2≠.free)||decide (c.ks.lookup y.1=some .cell)||decide (c.ks.lookup y.1=some .free)) &&
 (scope.names.all fun y=>decide (y.2≠.local)||!(bM xs c.N).contains y.1)&&decide (bM xs c.N).Nodup&&(c.N.all fun y=>!xs.contains y||decide (scope.names.lookup (m3 y)=none))
noncomputable def pJ (c:Cs)(scope:UN)(xs:List Str):Cs:=
 ⟨bM xs c.N++xs,scope.names.map fun (n,k)=>if (k == Uc&&c.ks.lookup n == some .cell) then (n,Uo) else (n,k)⟩
noncomputable def C0 (r:RI->MT):List RI->MT
 | []=>lI
 | [t]=>r t
 | _=>lN
noncomputable def xE (S:Sig)(c:Cs):RI->Option (List RI)
 | .Call (.Name x _) args [] _=>if x = "range" then (if glob c x&&S.no.contains x&&args.all cW then some args else none) else none
 | _=>none
noncomputable def sJ (S:Sig)(r:RI->ME)(c:Cs)(e:RI):MI:=match xE S c e with
 | some [a]=>lM (eZ r [a])
 | some [a,b]=>kC (eZ r [a,b])
 | some _=>Bq
 | none=>dJ (r e)
noncomputable def xF (S:Sig)(c:Cs):RI->Option RI
 | .Call (.Name x _) [a] [] _=>if x = "enumerate" then (if glob c x&&S.no.contains x&&cW a then some a else none) else none
 | _=>none
noncomputable def xG (S:Sig)(r:RI->ME)(c:Cs)(e:RI):MI:=match xF S c e with
 | some a=>lW (eZ r [a])
 | none=>sJ S r c e
noncomputable def xH (S:Sig)(c:Cs):RI->Option (RI×RI)
 | .Call (.Name x _) [a,b] [] _=>if x = "zip" then (if glob c x&&S.no.contains x&&cW a&&cW b then some (a,b) else none) else none
 | _=>none
noncomputable def xI (S:Sig)(r:RI->ME)(c:Cs)(e:RI):MI:=match xH S c e with
 | some (a,b)=>o8 (eZ r [a,b])
 | none=>xG S r c e
noncomputable def xJ:RI->Option (List Str)
 | .Name x _=>some [x]
 | .Tuple es _ _=>es.mapM fun e=>match e with|.Name x _=>some x|_=>none
 | _=>none
noncomputable def xK:RI->Nat->BD
 | .Tuple ..,n=>uX n
 | _,_=>oM
noncomputable def kR (S:Sig)(r:RI->ME)(c:Cs)(tg e:RI):MI:=match tg with
 | .Tuple ..=>xI S r c e
 | _=>sJ S r c e
noncomputable def i9 (mi:MI)(rE:Cs->RI->ME)(rT:Cs->RI->MT)(c:Cs)(elt tg iter:RI)(ifs:List RI)(scope:UN):ME:=match xJ tg with
 | some xs=>if pI c scope xs&&fM iter then jV (xK tg xs.length) mi (C0 (rT (pJ c scope xs)) ifs) (rE (pJ c scope xs) elt) else bW
 | none=>bW
noncomputable def xM (S:Sig)(rE:Cs->RI->ME)(rT:Cs->RI->MT)(c:Cs)(elt tg iter:RI)(ifs:List RI)(scope:UN):ME:=
 match sH S c tg iter with
 | some i=>wK i (i9 (eA (rE c iter)) rE rT c elt tg iter ifs scope) (i9 (kR S (rE c) c tg iter) rE rT c elt tg iter ifs scope)
 | none=>
 i9 (kR S (rE c) c tg iter) rE rT c elt tg iter ifs scope
noncomputable def C1:Const->ME
 | .int i=>mC (.int i)
 | .bool b=>mC (.bl b)
 | .str s=>mC (.str s)
 | .none=>mC .non
 | _=>bW
noncomputable def C2 (m:ME):UnaryOp->ME
 | .USub=>iU m
 | .Not=>mR m
 | _=>bW
noncomputable def xN (S:Sig)(r:RI->ME)(a:RI):List Vr->List RI->ME
 | [op],[b]=>if CU S b then nQ op (r a) (r b) else kQ op (fM b) (r a) (r b)
 | [op,op'],[b,b']=>(match jY op,jY op' with
  | some p,some q=>iY (fJ p) (fJ q) (r a) (r b) (r b')
  | _,_=>bW)
 | _,_=>bW
noncomputable def xO (r:RI->ME):List (Option RI)->List RI->ME
 | [],[]=>gM
 | _,_=>bW
noncomputable def xP (S:Sig)(r:RI->ME)(c:Cs)(a b:RI):ME:=match b with
 | .Slice lo hi none _=>uI (r a) (nO r lo) (nO r hi)
 | .Slice lo hi (some st) _=>nF (r a) (nO r lo) (nO r hi) (nO r (some st))
 | b=>if m9 b then aB aL (r a) (r b) else bW
noncomputable def xQ (r:RI->ME)(es:List RI):ME:=if es.all cW then bV (eZ r es) else bW
noncomputable def xR (r:RI->ME)(es:List RI):ME:=if es.all cW then cK (eZ r es) else bW
noncomputable def xS (S:Sig)(F:Str->MF)(r:RI->ME)(c:Cs)(f:RI)(args:List RI)(cpos:TC):List Vh->ME
 | []=>xD S F r c f args cpos
 | _=>bW
noncomputable def xT (S:Sig)(rE:Cs->RI->ME)(rT:Cs->RI->MT)(c:Cs)(elt:RI)(scope:UN):List Comprehension->ME
 | [⟨tg,iter,ifs,0⟩]=>xM S rE rT c elt tg iter ifs scope
 | _=>bW
noncomputable def C3 (S:Sig)(F:Str->MF)(rE:Cs->RI->ME)(rT:Cs->RI->MT)(c:Cs):RI->ME
 | .Name x _=>wX S c x
 | .Constant v _ _=>C1 v
 | .BinOp a op b _=>CQ op (rE c a) (rE c b)
 | .UnaryOp op a _=>C2 (rE c a) op
 | .Compare a ops bs _=>xN S (rE c) a ops bs
 | .BoolOp op vs _=>sF op (vs.map (rE c))
 | .IfExp t a b _=>fY (rT c t) (rE c a) (rE c b)
 | .Tuple es _ _=>xQ (rE c) es
 | .List es _=>xR (rE c) es
 | .Dict keys values _=>xO (rE c) keys values
 | .Subscript a b _=>xP S (rE c) c a b
 | .Call f args kws cpos=>xS S F (rE c) c f args cpos kws
 | .ListComp elt gs scope _=>xT S rE rT c elt scope gs
 | _=>bW
noncomputable def pK (r:RI->ME)(e:RI):MT:=if u3 e then dN (r e) else lN
noncomputable def xU (S:Sig)(r:RI->ME)(a:RI)(ops:List Vr)(bs:List RI)(p:TC):MT:=match ops,bs with
 | [op],[b]=>if CU S b then bD (nQ op (r a) (r b)) else bD (kQ op (fM b) (r a) (r b))
 | [op,op'],[b,b']=>(match jY op,jY op' with
  | some p,some q=>bD (iY (fJ p) (fJ q) (r a) (r b) (r b'))
  | _,_=>lN)
 | ops,bs=>pK r (.Compare a ops bs p)
noncomputable def NH (r:RI->ME)(t:MT)(a:RI)(p:TC):UnaryOp->MT
 | .Not=>t
 | op=>pK r (.UnaryOp op a p)
noncomputable def C4 (S:Sig)(rE:Cs->RI->ME)(rT:Cs->RI->MT)(c:Cs):RI->MT
 | .BoolOp op vs _=>sG op (vs.map (rT c))
 | .UnaryOp op a p=>NH (rE c) (iG (rT c a)) a p op
 | .Compare a ops bs p=>xU S (rE c) a ops bs p
 | e=>pK (rE c) e
noncomputable def tr (S:Sig)(F:Str->MF):Nat->(Cs->RI->ME)×(Cs->RI->MT)
 | 0=>(fun _ _=>bW,fun _ _=>lN)
 | n+1=>(C3 S F (tr S F n).1 (tr S F n).2,C4 S (tr S F n).1 (tr S F n).2)
structure Okx (S:Sig)(F:Str->MF)(k:Nat)(c:Cs)(X:Cx):Prop where
 N:X.N=c.N
 nd:X.N.Nodup
 ks:X.env.scope.names=c.ks
 kind:X.env.scope.kind=.function
 calm:X.calm=true
 room:Room k X.A
 never:a0Z (R0 X.prog X.w) X.A X.env X.xe
 fn:∀ x n,S.fn.lookup x=some n->∃ (f:Addr)(fd:Uq)(ps:List Str),FnOk X.prog X.w X.K X.mg X.base fE k f fd ps (iR X.K n (F x))/\X.mg x=some (.ref f)/\TL X.K (.ref f)=true/\Binds X.K fd ps []
 con:∀ x d,S.con.lookup x=some d->∃ v u,X.mg x=some u/\RelV v u/\∀ π n H,IsD X.K π n H v d
 tab:∀ x kvs,S.tab.lookup x=some kvs->TabOk X x kvs
 no:∀ x,S.no.contains x=true->X.mg x=none
section
variable {S:Sig}{F:Str->MF}{k:Nat}{c:Cs}{X:Cx}
theorem Okx.gl (O:Okx S F k c X){x:Str}(h:glob c x=true):Gl X x/\(x == ("__debug__":Str))=false:=by
 unfold glob at h
 rw [RF] at h
 refine ⟨?_,by simpa using h.2⟩
 show X.env.scope.names.lookup x=_
 rw [O.ks]
 exact of_decide_eq_true h.1
theorem Okx.vis (O:Okx S F k c X){x:Str}(h:mN c x=true):n5 X.env.scope x/\(x == ("__debug__":Str))=false/\(x == ("__classdict__":Str))=false:=by
 unfold mN at h
 rw [RF,RF,UT,UT] at h
 obtain ⟨⟨h1,h2⟩,h3⟩:=h
 refine ⟨?_,by simpa using h2,by simpa using h3⟩
 unfold n5
 rw [O.ks]
 rcases h1 with (h1|h1)|h1
 ·exact .inl (of_decide_eq_true h1)
 ·exact .inr (.inl (of_decide_eq_true h1))
 ·exact .inr (.inr (of_decide_eq_true h1))
theorem NI (O:Okx S F k c X)(x:Str)(pos:TC):QE X (.Name x pos) (wX S c x):=by
 unfold wX
 split
 ·rename_i h
  obtain ⟨h1,h2,h3⟩:=O.vis h
  split
  ·rename_i i hi
   exact Jm i (by rw [O.N];exact o9 hi) h1 h2 h3
  ·exact b7
 split
 ·rename_i h
  obtain ⟨h1,h2⟩:=O.gl h
  split
  ·rename_i d hd
   obtain ⟨v,u,m,r,i⟩:=O.con x d hd
   exact ⟨mQ (Fh h1 m r h2) i⟩
  ·split
   ·rename_i hn
    split
    ·rename_i n ht
     obtain ⟨b1,b2⟩:=Nt ht
     exact JU (O.no x hn) b1 h1 b2 h2
    ·exact b7
   ·exact b7
 ·exact b7
theorem hV {r:RI->ME}(hr:∀ e,QE X e (r e)):∀ (es:List RI),es.all cW=true->QA X es (eZ r es) es.length
 | [],_=>JL
 | e::es,h=>by
  rw [Sx,RF] at h
  exact JM (hr e) (hV hr es h.2) h.1
theorem C5 {r:RI->ME}(hr:∀ e,QE X e (r e))(op:BoolOp)(pos:TC):∀ (vs:List RI),QE X (.BoolOp op vs pos) (sF op (vs.map r))
 | []=>b7
 | [e]=>JH (hr e)
 | e::e2::es=>by
  have ih:=C5 hr op pos (e2::es)
  cases op with
  | And=>exact JI (hr e) ih
  | Or=>exact JJ (hr e) ih
theorem C6 {r:RI->MT}(hr:∀ e,QT X e (r e))(op:BoolOp)(pos:TC):∀ (vs:List RI),QW X (.BoolOp op vs pos) (sG op (vs.map r))
 | []=>KA
 | [e]=>by
  cases op with
  | And=>exact J7 (hr e)
  | Or=>exact J8 (hr e)
 | e::e2::es=>by
  have ih:=C6 hr op pos (e2::es)
  cases op with
  | And=>exact J9 (hr e) ih
  | Or=>exact Ka (hr e) ih
theorem NJ {a b:RI}{ma mb:ME}(ha:QE X a ma)(hb:QE X b mb)(op:YY)(pos:TC):QE X (.BinOp a op b pos) (CQ op ma mb):=by
 cases op with
 | Add=>exact Jr ha hb
 | Sub=>exact Js ha hb
 | Mult=>exact Jt ha hb
 | FloorDiv=>exact Ju ha hb
 | Mod=>exact Jv ha hb
 | Pow=>exact Jw ha hb
 | _=>exact b7
theorem NK (O:Okx S F k c X){a b:RI}{ma mb:ME}(ha:QE X a ma)(hb:QE X b mb)(op:Vr)(pos:TC):QE X (.Compare a [op] [b] pos) (kQ op (fM b) ma mb):=by
 cases op with
 | Eq=>exact Jz O.room ha hb
 | NotEq=>exact JA O.room ha hb
 | Lt=>exact JB ha hb
 | LtE=>exact JC ha hb
 | Gt=>exact JD ha hb
 | GtE=>exact JG ha hb
 | In=>
  simp only [kQ]
  split
  ·rename_i h;exact L8 O.room ha hb h
  ·exact b7
 | NotIn=>
  simp only [kQ]
  split
  ·rename_i h;exact L9 O.room ha hb h
  ·exact b7
 | _=>exact b7
theorem xV {e:RI}:QT X e (bD bW):=⟨fun a1Z s σ H Q I h=>by
 obtain ⟨π,ρ,μ,d,μ',R,E,hm,k⟩:=h
 cases hm⟩
theorem NL (O:Okx S F k c X){a b:RI}{ma mb:ME}(ha:QE X a ma)(hb:QE X b mb)(op:Vr)(pos:TC):QT X (.Compare a [op] [b] pos) (bD (kQ op (fM b) ma mb)):=by
 cases op with
 | Eq=>exact JV O.room ha hb
 | NotEq=>exact JW O.room ha hb
 | Lt=>exact JX ha hb
 | LtE=>exact JY ha hb
 | Gt=>exact JZ ha hb
 | GtE=>exact J4 ha hb
 | In=>
  simp only [kQ]
  split
  ·rename_i h;exact Ma O.room ha hb h
  ·exact xV
 | NotIn=>
  simp only [kQ]
  split
  ·rename_i h;exact Mb O.room ha hb h
  ·exact xV
 | _=>exact xV
theorem pL {r:RI->ME}(hr:∀ e,QE X e (r e)):∀ o:Option RI,QO X o (nO r o)
 | none=>JQ
 | some e=>JR (hr e)
theorem NM (O:Okx S F k c X){r:RI->ME}(hr:∀ e,QE X e (r e))(f:RI)(args:List RI)(cpos:TC):QE X (.Call f args [] cpos) (w8 S F r c f args cpos):=by
 unfold w8
 split
 ·rename_i x p
  split
  ·rename_i hg
   rw [RF] at hg
   obtain ⟨g1,g2⟩:=O.gl hg.1
   have ha:=hV hr args hg.2
   split
   ·rename_i n hn
    split
    ·rename_i hl
     obtain ⟨fa,fd,ps,FO,hm,hk,hb⟩:=O.fn x n hn
     subst hl
     cases args with
     | nil=>exact KS FO O.room hm hk hb g1 g2
     | cons e es=>exact JT FO O.room hm hk hb ha g1 g2
    ·exact b7
   ·split
    ·rename_i hno
     rw [RF] at hno
     split
     ·rename_i g hb
      obtain ⟨v,rr,b1,b2,b3,b4,b5⟩:=Nz (X:=X) O.calm O.room.units hb
      cases args with
      | nil=>exact absurd hno.2 (by simp)
      | cons e es=>
       rcases b2 with ⟨id,rfl⟩|⟨T,rfl⟩
       ·exact Bm b3 b4 (O.no x hno.1) b1 ha g1 b5 g2
       ·exact Bn b3 b4 (O.no x hno.1) b1 ha g1 b5 g2
     ·exact b7
    ·exact b7
  ·exact b7
 ·rename_i o m apos
  split
  ·rename_i hg
   rw [RF,RF] at hg
   obtain ⟨⟨h1,h2⟩,h3⟩:=hg
   have ha:=hV hr args h3
   split
   ·rename_i g hm
    unfold CT at hm
    split at hm
    ·rename_i hl
     obtain ⟨rfl,hl⟩:=hl
     cases hm
     cases args with
     | nil=>cases hl
     | cons e es=>exact CB Xp PySem.F.type_dict_setdefault (MN (by have:=O.room.units;omega)) MM (hr o) ha h1 h2 (by rw [hl];decide)
    split at hm
    ·rename_i hl
     obtain ⟨rfl,hl⟩:=hl
     cases hm
     cases args with
     | nil=>cases hl
     | cons e es=>exact CB Yu PySem.F.type_dict_get (MJ (by have:=O.room.units;omega)) MH (hr o) ha h1 h2 (by rw [hl];decide)
    split at hm
    ·rename_i hl
     obtain ⟨rfl,hl⟩:=hl
     split at hm
     ·split at hm
      ·cases hm
       cases args with
       | cons e es=>cases hl
       | nil=>exact MC X7 PySem.F.type_dict_clear MR MP (hr _) h1 h2
      ·cases hm
     ·cases hm
    ·cases hm
   split
   ·rename_i g hm
    unfold CS at hm
    split at hm
    ·rename_i hl
     cases args with
     | nil=>cases hl
     | cons e es=>
      have hn:(e::es).length<30:=by rw [hl];decide
      split at hm
      ·rename_i e1;subst e1;cases hm
       exact KI PySem.F.slot_list_append PySem.F.type_list_append AB KL (hr o) ha h1 h2 hn
      ·cases hm
    split at hm
    ·rename_i hl
     cases args with
     | cons e es=>cases hl
     | nil=>
      split at hm
      ·rename_i e1;subst e1;cases hm
       exact vB PySem.F.slot_list_clear PySem.F.type_list_clear Hl KN (hr o) h1 h2
      split at hm
      ·rename_i e1;subst e1;cases hm
       exact vB PySem.F.slot_list_pop PySem.F.type_list_pop Hj KP (hr o) h1 h2
      split at hm
      ·rename_i e1;subst e1;cases hm
       exact vB PySem.F.slot_list_reverse PySem.F.type_list_reverse Hk KO (hr o) h1 h2
      ·cases hm
    ·cases hm
   ·skip
    ·exact b7
  ·exact b7
 ·exact b7
theorem NN (O:Okx S F k c X){r:RI->ME}(hr:∀ e,QE X e (r e))(f:RI)(args:List RI)(cpos:TC):QE X (.Call f args [] cpos) (xB S F r c f args cpos):=by
 unfold xB
 split
 ·rename_i b e h
  split
  ·rename_i hg
   rw [RF,RF,RF,RF] at hg
   obtain ⟨⟨⟨⟨g1,g2⟩,n1⟩,n2⟩,st⟩:=hg
   have ha:=hV hr [e] (by rw [Sx,st];rfl)
   obtain ⟨t,h1,h2⟩:=Rl.mp h
   obtain ⟨p,p2,pos,rfl,rfl⟩:=CY h1
   split at h2
   ·rename_i hxy
    cases h2
    rw [hxy.1,hxy.2]
    exact LH O.calm (O.no _ n1) (O.no _ n2) ha (O.gl g1).1 (O.gl g2).1
   ·cases h2
  ·exact b7
 ·exact NM O hr f args cpos
theorem sL (O:Okx S F k c X){scope:UN}{xs:List Str}(h:pI c scope xs=true):CompSt X.env.scope X.N scope xs/\xs.Nodup:=by
 unfold pI at h
 rw [RF,RF] at h
 obtain ⟨⟨h,h8⟩,h9⟩:=h
 have h8:=of_decide_eq_true h8
 have h9':∀ y∈c.N,xs.contains y=true->scope.names.lookup (m3 y)=none:=fun y hy hc=>by
  have:=UG.mp h9 y hy
  rw [hc] at this
  simpa using this
 simp only [RF,UG,decide_eq_true_eq,UT,Wl,List.contains_eq_mem,decide_eq_false_iff_not] at h
 obtain ⟨⟨⟨⟨⟨⟨h1,h2⟩,h3⟩,h4⟩,h7⟩,h5⟩,h6⟩:=h
 refine ⟨⟨h1,h2,fun y hy hl=>(h3 y hy).resolve_left (fun z=>z hl),h4,fun y hy hf=>?_,fun y hy hl=>?_,O.nd,by rw [O.N];exact h8,by rw [O.N];exact h9'⟩,h7⟩
 ·rw [O.ks]
  rcases h5 y hy with (z|z)|z
  ·exact absurd hf z
  ·exact .inl z
  ·exact .inr z
 ·rw [O.N]
  have:=(h6 y hy).resolve_left (fun z=>z hl)
  exact this
theorem C7 {N xs:List Str}(h:N.Nodup)(h2:xs.Nodup)(h3:∀ x∈xs,x∉N):(N++xs).Nodup:=by
 rw [Uu]
 exact ⟨h,h2,fun a ha b hb e=>by subst e;exact h3 _ hb ha⟩
theorem Okx.comp (O:Okx S F k c X){scope:UN}{xs:List Str}(h:pI c scope xs=true){cl:List (Str×Addr)}{C:Addr}{s₀:RC}{H₀:Hp}{fp:List Addr}:Okx S F k (pJ c scope xs) (cQ X scope cl C (bM xs X.N++xs) s₀ H₀ fp):=by
 obtain ⟨St,hnd⟩:=sL O h
 refine ⟨show bM xs X.N++xs=bM xs c.N++xs by rw [O.N],?_,?_,?_,O.calm,O.room,Y7,O.fn,O.con,fun y kvs q=>⟨(O.tab y kvs q).ex⟩,O.no⟩
 ·show (bM xs X.N++xs).Nodup
  exact C7 St.hnd hnd fun x hx=>St.own (x,.local) (S6 (St.here x hx)) rfl
 ·show (a0K scope X.env).names=(pJ c scope xs).ks
  unfold a0K pJ
  dsimp only
  refine Sg fun y _=>?_
  obtain ⟨n,kk⟩:=y
  dsimp only
  have:(X.env.scope.kind == ScopeKind.function)=true:=by rw [O.kind];rfl
  rw [this,Bool.and_true]
  show (if (kk == Uc&&X.env.scope.names.lookup n == some Uo)=true then _ else _)=_
  rw [O.ks]
 ·show (a0K scope X.env).kind=.function
  exact St.kind
theorem C8 {r:RI->MT}(hr:∀ e,QT X e (r e)):∀ es:List RI,QI X es (C0 r es)
 | []=>Kc
 | [t]=>Kd (hr t)
 | a::b::es=>⟨fun a1Z s σ H Q I h=>by
   obtain ⟨π,ρ,μ,d,μ',R,E,hm,k⟩:=h
   cases hm⟩
theorem C9 (O:Okx S F k c X){e:RI}{args:List RI}(h:xE S c e=some args):∃ p pos,e=.Call (.Name "range" p) args [] pos/\Gl X "range"/\X.mg "range" = none/\args.all cW=true:=by
 unfold xE at h
 split at h
 ·split at h
  ·rename_i e1
   subst e1
   split at h
   ·rename_i hg
    cases h
    rw [RF,RF] at hg
    exact ⟨_,_,rfl,(O.gl hg.1.1).1,O.no _ hg.1.2,hg.2⟩
   ·cases h
  ·cases h
 ·cases h
theorem Dd (O:Okx S F k c X){r:RI->ME}(hr:∀ e,QE X e (r e))(e:RI):QJ X e (sJ S r c e):=by
 unfold sJ
 split
 ·rename_i a h
  obtain ⟨p,pos,rfl,h1,h2,h3⟩:=C9 O h
  exact Ks h1 h2 (hV hr [a] h3)
 ·rename_i a b h
  obtain ⟨p,pos,rfl,h1,h2,h3⟩:=C9 O h
  exact Kt h1 h2 (hV hr [a,b] h3)
 ·exact Kq
 ·exact Kr (hr e)
theorem NO (O:Okx S F k c X){e a:RI}(h:xF S c e=some a):∃ p pos,e=.Call (.Name "enumerate" p) [a] [] pos/\Gl X "enumerate"/\X.mg "enumerate" = none/\cW a=true:=by
 unfold xF at h
 split at h
 ·split at h
  ·rename_i e1
   subst e1
   split at h
   ·rename_i hg
    cases h
    rw [RF,RF] at hg
    exact ⟨_,_,rfl,(O.gl hg.1.1).1,O.no _ hg.1.2,hg.2⟩
   ·cases h
  ·cases h
 ·cases h
theorem NP (O:Okx S F k c X){r:RI->ME}(hr:∀ e,QE X e (r e))(e:RI):QJT X e (xG S r c e):=by
 unfold xG
 split
 ·rename_i a h
  obtain ⟨p,pos,rfl,h1,h2,h3⟩:=NO O h
  exact Ll h1 h2 (hV hr [a] (by rw [Sx,h3];rfl))
 ·exact (Dd O hr e).t
theorem NQ (O:Okx S F k c X){e a b:RI}(h:xH S c e=some (a,b)):∃ p pos,e=.Call (.Name "zip" p) [a,b] [] pos/\Gl X "zip"/\X.mg "zip" = none/\cW a=true/\cW b=true:=by
 unfold xH at h
 split at h
 ·split at h
  ·rename_i e1
   subst e1
   split at h
   ·rename_i hg
    cases h
    rw [RF,RF,RF] at hg
    exact ⟨_,_,rfl,(O.gl hg.1.1.1).1,O.no _ hg.1.1.2,hg.1.2,hg.2⟩
   ·cases h
  ·cases h
 ·cases h
theorem NR (O:Okx S F k c X){r:RI->ME}(hr:∀ e,QE X e (r e))(e:RI):QJT X e (xI S r c e):=by
 unfold xI
 split
 ·rename_i a b h
  obtain ⟨p,pos,rfl,h1,h2,h3,h4⟩:=NQ O h
  exact Nr h1 h2 (hV hr [a,b] (by rw [Sx,Sx,h3,h4];rfl))
 ·exact NP O hr e
theorem nR (O:Okx S F k c X){r:RI->ME}(hr:∀ e,QE X e (r e))(tg e:RI):PI X tg e (jT X.K (kR S r c tg e)):=by
 unfold kR
 split
 ·exact (NR O hr e).h _ _ _
 ·exact (Dd O hr e).h _
theorem De {iter:RI}{env:Xk}(h:fM iter=true):∀ x,VH iter env x=pure x:=by
 intro z
 cases iter<;>first|rfl|cases h
end
theorem Df {X:Cx}(hN:X.N.Nodup):∀ (es:List RI)(xs:List Str)(n:Nat),(es.mapM fun e=>match e with|.Name x _=>some x|_=>none)=some xs->(∀ j x,xs[j]? = some x->X.N[n+j]? = some x/\X.env.scope.names.lookup x=some .local)->QGs X es (Wi n xs.length)
 | [],xs,n,h,hx=>by
  cases h
  exact Bo
 | e::es,xs,n,h,hx=>by
  rw [List.mapM_cons] at h
  obtain ⟨x,h1,h⟩:=Rl.mp h
  obtain ⟨ys,h2,h⟩:=Rl.mp h
  cases h
  cases e with
  | Name y p=>
   cases h1
   rw [SD,Wv]
   have h0:=hx 0 x rfl
   refine Bp n hN (Df hN es ys (n+1) h2 fun j z hz=>?_) (by simpa using h0.1) (.inl h0.2) (.inr h0.2)
   have:=hx (j+1) z (by simpa using hz)
   rw [show n+1+j=n+(j+1) by omega]
   exact this
  | _=>cases h1
theorem sM {S:Sig}{F:Str->MF}{k:Nat}{c:Cs}{X:Cx}(O:Okx S F k c X){scope:UN}{tg:RI}{xs:List Str}(hx:xJ tg=some xs)(h:pI c scope xs=true)(cl:List (Str×Addr))(C:Addr)(s₀:RC)(H₀:Hp)(fp:List Addr) :
  PG (cQ X scope cl C (bM xs X.N++xs) s₀ H₀ fp) tg (f7 X.K (gB X.N.length (xK tg xs.length)))/\∀ d μ z,xK tg xs.length d μ=some z->z.length=xs.length:=by
 obtain ⟨St,hnd⟩:=sL O h
 have hN:(bM xs X.N++xs).Nodup:=C7 St.hnd hnd fun x hx=>St.own (x,.local) (S6 (St.here x hx)) rfl
 have hloc:∀ x∈xs,(a0K scope X.env).names.lookup x=some .local:=fun x hx=>lookup_relabel_local (St.here x hx)
 unfold xJ at hx
 split at hx
 ·rename_i x p
  cases hx
  refine ⟨Ku (X:=cQ X scope cl C (bM [x] X.N++[x]) s₀ H₀ fp) (by show (bM [x] X.N++[x]).length=_;rw [RV,lH];rfl) (Bb (X:=cQ X scope cl C (bM [x] X.N++[x]) s₀ H₀ fp) hN (by show (bM [x] X.N++[x])[X.N.length]? = _;rw [<- lH [x] X.N];simp) (.inl (hloc x (by simp))) (.inr (hloc x (by simp)))),fun d μ z hz=>?_⟩
  cases hz
  rfl
 ·rename_i es kk pt
  refine ⟨Kv (X:=cQ X scope cl C (bM xs X.N++xs) s₀ H₀ fp) (by show (bM xs X.N++xs).length=_;rw [RV,lH]) (u4 (X:=cQ X scope cl C (bM xs X.N++xs) s₀ H₀ fp) (Df (X:=cQ X scope cl C (bM xs X.N++xs) s₀ H₀ fp) hN es xs X.N.length hx fun j x hj=>⟨?_,hloc x (Sf hj)⟩) O.calm).h,fun d μ z hz=>?_⟩
  ·show (bM xs X.N++xs)[X.N.length+j]? = some x
   rw [TR (by rw [lH];omega),lH,show X.N.length+j - X.N.length=j by omega]
   exact hj
  ·obtain ⟨ys,h1,h2⟩:=Rl.mp hz
   split at h2
   ·rename_i hl
    cases h2
    rw [Ro];exact hl
   ·cases h2
 ·cases hx
theorem NS (O:Okx S F k c X){r:RI->ME}(hr:∀ e,QE X e (r e))(f:RI)(args:List RI)(cpos:TC):QE X (.Call f args [] cpos) (xD S F r c f args cpos):=by
 unfold xD
 split
 ·rename_i q h
  split
  ·rename_i hg
   rw [RF,RF,RF,RF,RF] at hg
   obtain ⟨⟨⟨⟨⟨g1,g2⟩,n1⟩,n2⟩,st⟩,ln⟩:=hg
   obtain ⟨t,h1,h2⟩:=Rl.mp h
   split at h2
   ·rename_i hxy
    obtain ⟨p,p2,pos,rfl,rfl⟩:=CY h1
    rw [hxy.1,hxy.2,NF h2]
    exact Na O.calm O.room.units (O.no _ n1) (O.no _ n2) (O.gl g1).1 (O.gl g2).1 (hr _) st ln
   ·cases h2
  ·exact b7
 split
 ·rename_i e h
  split
  ·rename_i hg
   rw [RF] at hg
   unfold w6 at h
   split at h
   ·split at h
    ·split at h
     ·rename_i e1;subst e1
      cases h
      exact Bm (Mw O.calm) NA (O.no _ hg.2) Vm (hV hr _ rfl) (O.gl hg.1).1 (by decide) (O.gl hg.1).2
     ·split at h
      ·cases h
      ·cases h
    ·cases h
   ·cases h
  ·exact b7
 ·rename_i e h
  split
  ·rename_i hg
   rw [RF] at hg
   unfold w6 at h
   split at h
   ·split at h
    ·split at h
     ·cases h
     ·split at h
      ·rename_i e1;subst e1
       cases h
       exact Bn MX NB (O.no _ hg.2) WM (hV hr _ rfl) (O.gl hg.1).1 (by decide) (O.gl hg.1).2
      ·cases h
    ·cases h
   ·cases h
  ·exact b7
 exact NN O hr _ _ _
theorem sN {S:Sig}{F:Str->MF}{k:Nat}{rE:Cs->RI->ME}{rT:Cs->RI->MT}(hE:∀ c X,Okx S F k c X->∀ e,QE X e (rE c e))(hT:∀ c X,Okx S F k c X->∀ e,QT X e (rT c e))(c:Cs)(X:Cx)(O:Okx S F k c X)
  (elt tg iter:RI)(ifs:List RI)(scope:UN)(pos:TC){mi:MI}(hi:PI X tg iter (jT X.K mi)):QE X (.ListComp elt [⟨tg,iter,ifs,0⟩] scope pos) (i9 mi rE rT c elt tg iter ifs scope):=by
 unfold i9
 split
 ·rename_i xs hx
  split
  ·rename_i h
   rw [RF] at h
   refine ⟨fun a1Z s σ H Q I q=>?_⟩
   exact Ky ((sL O h.1).1.ok I.ok) O.calm hi (fun d μ z=>(sM O hx h.1 [] 0 s H []).2 d μ z) (fun C s₀ H₀ fp=>(sM O hx h.1 _ C s₀ H₀ fp).1) (fun C s₀ H₀ fp=>(C8 (hT _ _ (O.comp h.1)) _).h) (fun C s₀ H₀ fp=>(hE _ _ (O.comp h.1) _).h) (De h.2) a1Z s σ H Q I q
  ·exact b7
 ·exact b7
theorem NT {S:Sig}{F:Str->MF}{k:Nat}{rE:Cs->RI->ME}{rT:Cs->RI->MT}(hE:∀ c X,Okx S F k c X->∀ e,QE X e (rE c e))(hT:∀ c X,Okx S F k c X->∀ e,QT X e (rT c e))(c:Cs)(X:Cx)(O:Okx S F k c X)
  (elt tg iter:RI)(ifs:List RI)(scope:UN)(pos:TC):QE X (.ListComp elt [⟨tg,iter,ifs,0⟩] scope pos) (xM S rE rT c elt tg iter ifs scope):=by
 unfold xM
 split
 ·exact Mq (sN hE hT c X O elt tg iter ifs scope pos ((wO (hE c X O iter)).h tg)) (sN hE hT c X O elt tg iter ifs scope pos (nR O (hE c X O) tg iter))
 exact sN hE hT c X O elt tg iter ifs scope pos (nR O (hE c X O) tg iter)
theorem NU {S:Sig}{F:Str->MF}{k:Nat}{c:Cs}{X:Cx}(O:Okx S F k c X){a b:RI}{ma mb:ME}(ha:QE X a ma)(hb:QE X b mb)(op:Vr)(pos:TC):QE X (.Compare a [op] [b] pos) (nQ op ma mb):=by
 unfold nQ
 split
 ·exact M0 O.room ha hb
 ·exact M3 O.room ha hb
 ·exact b7
theorem NV {S:Sig}{F:Str->MF}{k:Nat}{c:Cs}{X:Cx}(O:Okx S F k c X){a b:RI}{ma mb:ME}(ha:QE X a ma)(hb:QE X b mb)(op:Vr)(pos:TC):QT X (.Compare a [op] [b] pos) (bD (nQ op ma mb)):=by
 unfold nQ
 split
 ·exact M4 O.room ha hb
 ·exact M5 O.room ha hb
 ·exact ⟨fun a1Z s σ H Q I q=>by
   obtain ⟨π,ρ,μ,b,μ',R,E,hm,k⟩:=q
   cases hm⟩
section
variable {S:Sig}{F:Str->MF}{k:Nat}{c:Cs}{X:Cx}{r:RI->ME}
theorem NW (v:Const)(n:Nat)(p:TC):QE X (.Constant v n p) (C1 v):=by
 cases v<;>first|exact Jn|exact Jo|exact Jp|exact Jq|exact b7
theorem NX (hr:∀ e,QE X e (r e))(op:UnaryOp)(a:RI)(p:TC):QE X (.UnaryOp op a p) (C2 (r a) op):=by
 cases op<;>first|exact Jx (hr _)|exact Jy (hr _)|exact b7
theorem NY (O:Okx S F k c X)(hr:∀ e,QE X e (r e))(a:RI)(ops:List Vr)(bs:List RI)(p:TC):QE X (.Compare a ops bs p) (xN S r a ops bs):=by
 unfold xN
 split
 ·split
  ·exact NU O (hr _) (hr _) _ _
  ·exact NK O (hr _) (hr _) _ _
 ·split
  ·rename_i h1 h2
   exact K8 h1 h2 (hr _) (hr _) (hr _)
  ·exact b7
 ·exact b7
theorem NZ (O:Okx S F k c X)(hr:∀ e,QE X e (r e))(ks:List (Option RI))(vs:List RI)(p:TC):QE X (.Dict ks vs p) (xO r ks vs):=by
 unfold xO
 try split
 ·exact LS
 ·exact b7
theorem N0 (O:Okx S F k c X)(hr:∀ e,QE X e (r e))(a b:RI)(p:TC):QE X (.Subscript a b p) (xP S r c a b):=by
 unfold xP
 split
 ·exact JS (hr _) (pL hr _) (pL hr _)
 ·exact Lg (hr _) (pL hr _) (pL hr _) (pL hr _)
 ·split
  ·rename_i h
   ·exact L7 O.room (hr _) (hr _) h
  ·exact b7
theorem xW (hr:∀ e,QE X e (r e))(e:RI):QT X e (pK r e):=by
 unfold pK
 split
 ·rename_i h;exact KR (hr _) h
 ·exact u6
theorem N1 (O:Okx S F k c X)(hr:∀ e,QE X e (r e))(a:RI)(ops:List Vr)(bs:List RI)(p:TC):QT X (.Compare a ops bs p) (xU S r a ops bs p):=by
 unfold xU
 split
 ·split
  ·exact NV O (hr _) (hr _) _ _
  ·exact NL O (hr _) (hr _) _ _
 ·split
  ·rename_i h1 h2
   exact K9 h1 h2 (hr _) (hr _) (hr _)
  ·exact u6
 ·exact xW hr _
theorem N2 (hr:∀ e,QE X e (r e))(es:List RI)(n:Nat)(p:TC):QE X (.Tuple es n p) (xQ r es):=by
 unfold xQ
 split
 ·rename_i h;exact JN (hV hr _ h)
 ·exact b7
theorem N3 (hr:∀ e,QE X e (r e))(es:List RI)(p:TC):QE X (.List es p) (xR r es):=by
 unfold xR
 split
 ·rename_i h;exact JO (hV hr _ h)
 ·exact b7
theorem N4 (O:Okx S F k c X)(hr:∀ e,QE X e (r e))(f:RI)(args:List RI)(kws:List Vh)(p:TC):QE X (.Call f args kws p) (xS S F r c f args p kws):=by
 unfold xS
 split
 ·exact NS O hr _ _ _
 ·exact b7
end
theorem Dg {S:Sig}{F:Str->MF}{k:Nat}{rE:Cs->RI->ME}{rT:Cs->RI->MT}(hE:∀ c X,Okx S F k c X->∀ e,QE X e (rE c e))(hT:∀ c X,Okx S F k c X->∀ e,QT X e (rT c e))(c:Cs)(X:Cx)(O:Okx S F k c X) :
  (∀ e,QE X e (C3 S F rE rT c e))/\∀ e,QT X e (C4 S rE rT c e):=by
 have hr:=hE c X O
 have ht:=hT c X O
 constructor
 ·intro e
  cases e with
  | Name x p=>exact NI O _ _
  | Constant v n p=>exact NW v n p
  | BinOp a op b p=>exact NJ (hr _) (hr _) _ _
  | UnaryOp op a p=>exact NX hr op a p
  | Compare a ops bs p=>exact NY O hr a ops bs p
  | BoolOp op vs p=>exact C5 hr _ _ _
  | IfExp t a b p=>exact JK (ht _) (hr _) (hr _)
  | Tuple es n p=>exact N2 hr es n p
  | List es p=>exact N3 hr es p
  | Dict ks vs p=>exact NZ O hr ks vs p
  | Subscript a b p=>exact N0 O hr a b p
  | Call f args kws cpos=>exact N4 O hr f args kws cpos
  | ListComp elt gs scope p=>
   show QE X _ (xT S rE rT c elt scope gs)
   unfold xT
   split
   ·exact NT hE hT c X O _ _ _ _ _ _
   ·exact b7
  | _=>exact b7
 ·intro e
  cases e with
  | BoolOp op vs p=>exact Kb (C6 ht _ _ _)
  | UnaryOp op a p=>
   cases op
   case Not=>exact J6 (ht _)
   all_goals exact xW hr _
  | Compare a ops bs p=>exact N1 O hr a ops bs p
  | _=>exact xW hr _
theorem xX {S:Sig}{F:Str->MF}{k:Nat}:∀ (n:Nat),(∀ c X,Okx S F k c X->∀ e,QE X e ((tr S F n).1 c e))/\∀ c X,Okx S F k c X->∀ e,QT X e ((tr S F n).2 c e)
 | 0=>⟨fun c X O e=>b7,fun c X O e=>u6⟩
 | n+1=>by
  have ih:=xX (S:=S) (F:=F) (k:=k) n
  exact ⟨fun c X O e=>(Dg ih.1 ih.2 c X O).1 e,fun c X O e=>(Dg ih.1 ih.2 c X O).2 e⟩
end L3
namespace L3
open PySem L2
noncomputable def sO:MG:=fun _ _ _=>none
noncomputable def pM (c:Cs):List RI->Option (List Nat)
 | []=>some []
 | .Name x _::r=>if l8 c x then (kP x c.N).bind fun i=>(pM c r).map (i::·) else none
 | _=>none
noncomputable def nS (c:Cs):RI->MG
 | .Name x _=>if l8 c x then (match kP x c.N with|some i=>cA i|none=>sO) else sO
 | .Tuple es _ _=>match pM c es with|some is=>cL is|none=>sO
 | _=>sO
noncomputable def j5 (r:Stmt->MS):List Stmt->MS
 | []=>bY
 | [s]=>r s
 | s::t=>aG (r s) (j5 r t)
noncomputable def xY (S:Sig)(E:Cs->RI->ME)(T:Cs->RI->MT)(c:Cs)(i:Nat):RI->MS
 | .ListComp elt [⟨tg,iter,ifs,0⟩] scope _=>match sH S c tg iter with
  | some j=>dW j (aZ i (i9 (eA (E c iter)) E T c elt tg iter ifs scope)) (aZ i (i9 (kR S (E c) c tg iter) E T c elt tg iter ifs scope))
  | none=>aZ i (i9 (kR S (E c) c tg iter) E T c elt tg iter ifs scope)
 | _=>dM
noncomputable def xZ (S:Sig)(E:Cs->RI->ME)(T:Cs->RI->MT)(c:Cs)(tg e:RI):MS:=match tg with
 | .Name y _=>if l8 c y then (match kP y c.N with
   | some i=>if jS e then aZ i (E c e) else xY S E T c i e
   | none=>dM) else dM
 | .Tuple es _ _=>if u5 e then (match pM c es with|some is=>eK (E c e) (cL is)|none=>dM)
   else dM
 | .Subscript o i _=>if jS e&&m9 i then cB (E c o) (E c i) (E c e) else dM
 | _=>dM
noncomputable def yA (S:Sig)(c:Cs)(tg:RI):RI->Option (Nat×RI×TC×TC)
 | .Call g [] [] cpos=>match g with
  | .Attribute o m apos=>if m = "values" then (sH S c tg o).map fun j=>(j,o,apos,cpos) else none
  | _=>none
 | _=>none
theorem N5 {S:Sig}{c:Cs}{tg e:RI}{q:Nat×RI×TC×TC}(h:yA S c tg e=some q):e=.Call (.Attribute q.2.1 "values" q.2.2.1) [] [] q.2.2.2:=by
 unfold yA at h
 split at h
 ·split at h
  ·split at h
   ·rename_i e1
    obtain ⟨j,_,rfl⟩:=Rv.mp h
    rw [e1]
   ·cases h
  ·cases h
 ·cases h
noncomputable def yB (S:Sig)(E:Cs->RI->ME)(T:Cs->RI->MT)(c:Cs)(r:Stmt->MS):Stmt->MS
 | .Return (some e) _=>bE (E c e)
 | .Return none _=>bE (mC .non)
 | .If t a b _=>bS (T c t) (j5 r a) (j5 r b)
 | .Assign [tg] e _=>xZ S E T c tg e
 | .Expr e _=>if jS e then eV (E c e) else dM
 | .For tg iter body [] _=>if fM iter then
  (match yA S c tg iter with
  | some q=>if iV q.2.1&&(q.2.2.1.endLine == q.2.2.2.line) then dW q.1 (bX (nM (E c q.2.1)) (nS c tg) (j5 r body)) dM else dM
  | none=>
  (match sH S c tg iter with
  | some j=>dW j (bX (eA (E c iter)) (nS c tg) (j5 r body)) (bX (kR S (E c) c tg iter) (nS c tg) (j5 r body))
  | none=>bX (kR S (E c) c tg iter) (nS c tg) (j5 r body))
  )
  else dM
 | .Pass _=>bY
 | _=>dM
noncomputable def yC (S:Sig)(F:Str->MF)(m:Nat)(c:Cs):Nat->Stmt->MS
 | 0=>fun _=>dM
 | n+1=>yB S (tr S F m).1 (tr S F m).2 c (yC S F m c n)
section
variable {S:Sig}{F:Str->MF}{k:Nat}{c:Cs}{X:Cx}
theorem Okx.own (O:Okx S F k c X){x:Str}(h:l8 c x=true):L2.Loc X.env.scope x:=by
 unfold l8 at h
 rw [UT] at h
 unfold L2.Loc
 rw [O.ks]
 exact h.imp of_decide_eq_true of_decide_eq_true
theorem yD (O:Okx S F k c X)(hf:∀ x,X.fn x=true):∀ (es:List RI)(is:List Nat),pM c es=some is->QGs X es is
 | [],is,h=>by cases h;exact Bo
 | e::es,is,h=>by
  cases e with
  | Name x p=>
   unfold pM at h
   split at h
   ·rename_i ho
    obtain ⟨i,h1,h⟩:=Rl.mp h
    obtain ⟨js,h2,h⟩:=Rv.mp h
    subst h
    exact Bp i O.nd (yD O hf es js h2) (by rw [O.N];exact o9 h1) (O.own ho) (.inl (hf x))
   ·cases h
  | _=>cases h
theorem sP (O:Okx S F k c X)(hf:∀ x,X.fn x=true)(e:RI):QG X e (nS c e):=by
 unfold nS
 split
 ·split
  ·rename_i ho
   split
   ·rename_i i hi
    exact Km i O.nd (by rw [O.N];exact o9 hi) (O.own ho) (.inl (hf _))
   ·exact rB fun _ _ _=>rfl
  ·exact rB fun _ _ _=>rfl
 ·split
  ·rename_i is hi
   exact u4 (yD O hf _ is hi) O.calm
  ·exact rB fun _ _ _=>rfl
 ·exact rB fun _ _ _=>rfl
theorem kS {r:Stmt->MS}(hr:∀ s,QS X s (r s)):∀ ss:List Stmt,QB X ss (j5 r ss)
 | []=>Ke
 | [s]=>Kg (hr s)
 | s::t::ts=>Kf (hr s) (kS hr (t::ts))
theorem N6 {elt tg iter:RI}{ifs:List RI}{scope:UN}{pos py:TC}{y:Str}{n:Nat}{env:Xk} :
  ∃ b:Bool,VR (.ListComp elt [⟨tg,iter,ifs,0⟩] scope pos) (some (.Name y py)) n env=pure b/\(b=true->env.kindOf y=some .local):=by
 refine ⟨env.blockKind == .function&&env.kindOf y == some .local&&py.line == pos.line&&!(scope.names.any fun (n,k)=>n == y&&(k == .local||k == .cell)),rfl,fun h=>?_⟩
 simp only [RF,beq_iff_eq] at h
 exact h.1.1.2
theorem yE (O:Okx S F k c X)(hf:∀ x,X.fn x=true){E:Cs->RI->ME}{T:Cs->RI->MT}(hE:∀ c X,Okx S F k c X->∀ e,QE X e (E c e))(hT:∀ c X,Okx S F k c X->∀ e,QT X e (T c e))
  {i:Nat}{y:Str}{py spos:TC}(hi:X.N[i]? = some y)(hy:l8 c y=true)(elt tg iter:RI)(ifs:List RI)(scope:UN)(pos:TC){mi:MI}(hmi:PI X tg iter (jT X.K mi)):QS X (.Assign [.Name y py] (.ListComp elt [⟨tg,iter,ifs,0⟩] scope pos) spos) (aZ i (i9 mi E T c elt tg iter ifs scope)):=by
  obtain ⟨b,hb1,hb2⟩:=N6 (elt:=elt) (tg:=tg) (iter:=iter) (ifs:=ifs) (scope:=scope) (pos:=pos) (py:=py) (y:=y) (n:=spos.line) (env:=X.env)
  cases b with
  | false=>exact ⟨AX O.nd hi (O.own hy) (sN hE hT c X O elt tg iter ifs scope pos hmi).h hb1 (.inl (hf y))⟩
  | true=>
   unfold i9
   split
   ·rename_i xs hx
    split
    ·rename_i h
     rw [RF] at h
     refine ⟨fun a1Z s σ H D I q=>?_⟩
     exact Kz ((sL O h.1).1.ok I.ok) O.nd O.calm hmi (fun d μ z=>(sM O hx h.1 [] 0 s H []).2 d μ z) (fun C s₀ H₀ fp=>(sM O hx h.1 _ C s₀ H₀ fp).1) (fun C s₀ H₀ fp=>(C8 (hT _ _ (O.comp h.1)) _).h) (fun C s₀ H₀ fp=>(hE _ _ (O.comp h.1) _).h) (De h.2) hi (hb2 rfl) hb1 a1Z s σ H D I q
    ·exact B3
   ·exact B3
theorem N7 (O:Okx S F k c X)(hf:∀ x,X.fn x=true){E:Cs->RI->ME}{T:Cs->RI->MT}(hE:∀ c X,Okx S F k c X->∀ e,QE X e (E c e))(hT:∀ c X,Okx S F k c X->∀ e,QT X e (T c e))
  {i:Nat}{y:Str}{py spos:TC}(hi:X.N[i]? = some y)(hy:l8 c y=true)(e:RI):QS X (.Assign [.Name y py] e spos) (xY S E T c i e):=by
 unfold xY
 split
 ·split
  ·exact wL (yE O hf hE hT hi hy _ _ _ _ _ _ ((wO (hE c X O _)).h _)) (yE O hf hE hT hi hy _ _ _ _ _ _ (nR O (hE c X O) _ _))
  ·exact yE O hf hE hT hi hy _ _ _ _ _ _ (nR O (hE c X O) _ _)
 ·exact gJ
theorem N8 (O:Okx S F k c X)(hf:∀ x,X.fn x=true){E:Cs->RI->ME}{T:Cs->RI->MT}(hE:∀ c X,Okx S F k c X->∀ e,QE X e (E c e))(hT:∀ c X,Okx S F k c X->∀ e,QT X e (T c e))(tg e:RI)(pos:TC) :
  QS X (.Assign [tg] e pos) (xZ S E T c tg e):=by
 unfold xZ
 split
 ·split
  ·rename_i ho
   split
   ·rename_i i hi
    have hi':=o9 hi
    rw [<- O.N] at hi'
    split
    ·rename_i hn
     exact Kl i O.nd (hE c X O e) hn hi' (O.own ho) (.inl (hf _))
    ·exact N7 O hf hE hT hi' ho e
   ·exact gJ
  ·exact gJ
 ·split
  ·rename_i hn
   split
   ·rename_i is hi
    exact Ko (hE c X O e) (u4 (yD O hf _ is hi) O.calm) hn
   ·exact gJ
  ·exact gJ
 ·split
  ·rename_i h
   rw [RF] at h
   exact Mc O.room (hE c X O _) (hE c X O _) (hE c X O _) h.1
  ·exact gJ
 ·exact gJ
theorem N9 (O:Okx S F k c X)(hf:∀ x,X.fn x=true){E:Cs->RI->ME}{T:Cs->RI->MT}(hE:∀ c X,Okx S F k c X->∀ e,QE X e (E c e))(hT:∀ c X,Okx S F k c X->∀ e,QT X e (T c e)){r:Stmt->MS}(hr:∀ s,QS X s (r s))(st:Stmt) :
  QS X st (yB S E T c r st):=by
 unfold yB
 split
 ·exact Ki (hE c X O _)
 ·exact KU
 ·exact Kk (hT c X O _) (kS hr _) (kS hr _)
 ·exact N8 O hf hE hT _ _ _
 ·split
  ·rename_i h;exact Kj (hE c X O _) h
  ·exact gJ
 ·split
  ·rename_i h
   split
   ·rename_i q hq
    split
    ·rename_i hg
     rw [RF] at hg
     have e:=N5 hq
     rw [e] at h ⊢
     exact wL (rO ((Nh (hE c X O _) hg.1 hg.2).h _) (sP O hf _) (kS hr _) O.never O.calm h) gJ
    ·exact gJ
   split
   ·exact wL (rO ((wO (hE c X O _)).h _) (sP O hf _) (kS hr _) O.never O.calm h) (rO (nR O (hE c X O) _ _) (sP O hf _) (kS hr _) O.never O.calm h)
   exact rO (nR O (hE c X O) _ _) (sP O hf _) (kS hr _) O.never O.calm h
  ·exact gJ
 ·exact Kh
 ·exact gJ
theorem Dh (O:Okx S F k c X)(hf:∀ x,X.fn x=true)(m:Nat):∀ (n:Nat)(st:Stmt),QS X st (yC S F m c n st)
 | 0,_=>gJ
 | n+1,st=>N9 O hf (xX m).1 (xX m).2 (Dh O hf m n) st
end
noncomputable def dH (st:Stmt):List Str:=(jO st).args.map (·.arg)
noncomputable def kU (st:Stmt):List Str:=dH st++(cJ st).names.filterMap fun y=>if (y.2 == NameKind.local||y.2 == Uo)&&!(dH st).contains y.1 then some y.1 else none
noncomputable def l9 (st:Stmt):Bool:=
 decide ((cJ st).kind=.function)&&!(cJ st).isCoroutine&&!(cJ st).isGenerator&&decide (kU st).Nodup &&
 ((dH st).all fun x=>decide ((cJ st).names.lookup x=some .local)||decide ((cJ st).names.lookup x=some .cell))&&((cJ st).names.all fun y=>decide (y.2≠.free))
theorem Oa {st:Stmt}(h:l9 st=true):FnScope (kU st) (dH st) (cJ st):=by
 unfold l9 at h
 simp only [RF,decide_eq_true_eq,Wl,UG,UT] at h
 obtain ⟨⟨⟨⟨⟨h1,h2⟩,h3⟩,h4⟩,h5⟩,h6⟩:=h
 exact ⟨h1,h2,h3,h4,by unfold kU;simp,h5,h6⟩
noncomputable def Di:Nat:=40
noncomputable def Dj:Nat:=40
noncomputable def yF (S:Sig)(F:Str->MF)(st:Stmt):MF:=uJ (kU st).length (j5 (yC S F Di ⟨kU st,(cJ st).names⟩ Dj) (fX st))
noncomputable def jA (S:Sig)(ds:List (Str×Stmt)):Nat->Str->MF
 | 0,_=>fun _ _=>none
 | k+1,x=>match ds.lookup x with
  | none=>fun _ _=>none
  | some st=>yF S (jA S ds k) st
structure DefAt (K:Rn)(mg:Str->Option Ru)(x:Str)(st:Stmt):Prop where
 ex:∃ f fd,Fun K x x st f fd/\mg x=some (.ref f)/\Binds K fd (dH st) []
structure TxtOk (P:R8)(w:Sy)(K:Rn)(mg:Str->Option Ru)(S:Sig)(ds:List (Str×Stmt)):Prop where
 fns:∀ x n,S.fn.lookup x=some n->∃ st,ds.lookup x=some st/\(dH st).length=n
 defs:∀ x st,ds.lookup x=some st->DefAt K mg x st/\l9 st=true
 con:∀ x d,S.con.lookup x=some d->∃ v u,mg x=some u/\RelV v u/\∀ π n H,IsD K π n H v d
 tab:∀ x kvs,S.tab.lookup x=some kvs->∃ (p:Addr)(vs:List (a9×V))(ws:List (a9×Ru)),mg x=some (.ref p)/\(∀ h:SO,K.In h->h.DictOf (k9 P w) p ws)/\KV vs ws/\∀ π n H,IsKs K π n H vs kvs
 no:∀ x,S.no.contains x=true->mg x=none
theorem Dk {P:R8}{w:Sy}{K:Rn}{mg:Str->Option Ru}{base:SO}{S:Sig}{ds:List (Str×Stmt)}(T:TxtOk P w K mg S ds):∀ (k:Nat)(x:Str)(st:Stmt)(f:Addr)(fd:Uq),ds.lookup x=some st->Fun K x x st f fd->
  FnOk P w K mg base fE k f fd (dH st) (iR K (dH st).length (jA S ds k x))
 | 0,x,st,f,fd,hl,hF=>⟨fun vs H Q E h=>h.1,fun A outer s H args us vs Q E hr he hb hv hs=>by
   obtain ⟨_,π,ds',μ,d,μ',R,i,hm,kc⟩:=hs
   cases hm⟩
 | k+1,x,st,f,fd,hl,hF=>by
  have ih:=Dk (base:=base) T k
  have e:jA S ds (k+1) x=yF S (jA S ds k) st:=by
   show (match ds.lookup x with|none=>fun _ _=>none|some st=>yF S (jA S ds k) st)=_
   rw [hl]
  rw [e]
  have Sc:=Oa (T.defs x st hl).2
  refine Kp hF Sc (by unfold kU;simp) rfl fun cdv A outer s H E hr=>?_
  have O:Okx S (jA S ds k) k ⟨kU st,(cJ st).names⟩ (jN fE P w K mg base (kU st) x (cJ st) f cdv A outer s H E).nox:=by
   refine ⟨rfl,Sc.nd,rfl,Sc.kind,rfl,hr,Y7,fun y n hy=>?_,T.con,fun y kvs q=>⟨T.tab y kvs q⟩,T.no⟩
   obtain ⟨st',h1,h2⟩:=T.fns y n hy
   obtain ⟨f',fd',F',m',b'⟩:=(T.defs y st' h1).1.ex
   subst h2
   exact ⟨f',fd',dH st',ih y st' f' fd' h1 F',m',F'.kp,b'⟩
  exact kS (Dh O (fun _=>rfl) Di Dj) (fX st)
theorem Dl:∀ {ns:List Int}{b:Nat},VT (ns.map VN)<=b->∀ n∈ns,Sm n<=b
 | [],_,_,n,hn=>nomatch hn
 | m::ns,b,h,n,hn=>by
  have e:VT ((m::ns).map VN)=XF (.int m)+1+VT (ns.map VN):=rfl
  have e2:XF (.int m)=Sm m:=rfl
  rw [e,e2] at h
  rcases Sa.mp hn with rfl|hn
  ·omega
  ·exact Dl (b:=b) (by omega) n hn
section
open PySem PySem.W PySem.Calls PyProof.Rows
theorem Ob {l:Zo}{n:Nat}{q:R8}{loose:List Str}{XP:(Str->Option Ru)->SO->Prop}{YP:Sy->SO->Prop}{d:DefRec}
  (hn:l.most=some n)(hdf:d.params.defaults=[])
  (call:∀ (w:Sy)(s₀ s₁:RC)(mg mb:Str->Option Ru)(fa:Addr)(o:TK)(pm cd doc:Ru)(a:Addr)(vs:List Ru)(ns:List Int),
   Ground q loose [] XP w s₀ mg mb s₁.heap->YP w s₁.heap->
   s₁.heap.get? fa=some o->o.data=.func (docDef d.name d.params d.body d.scope pm cd doc)->s₁.heap.CodeRec cd d.name->mg d.name=some (.ref fa)->
   s₁.heap.get? a=some { cls:=.type "list",data:=.seq vs.toArray }->UJ vs ns->ns.length<=n->(∀ m∈ns,Sm m<=2 ^ 20)->s₁.gens = #[]->
   VY (R0 l.prog w) XW (.call (.ref fa) ⟨[.ref a],[]⟩) (fun r s'=>r=.ok (.ret (.bool true))/\OldK s₁.heap s'.heap/\s'.os=s₁.os/\Xm s'.gens) s₁) :
  ZY q loose XP YP l.row.toRowW d [] (fun f vs=>a0X f vs):=by
 intro w s₀ s₁ mg mb G Y fa o pm cd doc dV kV ho hd hcd hD hmg hg args vals as hpre hlay hrd hwl hlo
 obtain rfl:dV=.none:=Dflts.none hD hdf
 obtain rfl:kV=.none:=Dflts.noKw hD
 obtain ⟨a,vs,ns,rfl,rfl,hobj,hints,hlen⟩:=Att.script_of hn hpre hwl
 have hb:∀ m∈ns,Sm m<=2 ^ 20:=by
  have h1:Xz (.list (ns.map VN))=true:=by
   have:=hlay
   unfold a0Y at this
   simpa using this
  unfold Xz at h1
  rw [RF] at h1
  exact Dl (of_decide_eq_true h1.2)
 refine enter_call (XU (call w s₀ s₁ mg mb fa o pm cd doc a vs ns G Y ho (fd_plain hd) hcd hmg hobj hints hlen hb hg) fun r s' hq=>?_)
 obtain ⟨rfl,h2,h3,h4⟩:=hq
 exact ⟨.inl ⟨.bool true,.bool true,[],rfl,fun _=>rfl,.bool true,Att.post_true l _,fun _=>⟨Yc,fun _ hm=>(nomatch hm)⟩⟩,h2,h3,h4⟩
end
theorem walkM {l:Zo}{q:R8}{loose:List Str}{XP:(Str->Option Ru)->SO->Prop}{YP:Sy->SO->Prop}{d:DefRec}{K:Params->Rn}{S:Sig}{ds:List (Str×Stmt)}{k:Nat}{st:Stmt}{x:Str}(hn:l.most=some 63)(hdf:d.params.defaults=[])
  (hr:Room k XW)(hY:∀ (w:Sy)(h:SO),YP w h->(K w.params).In h)(hl:ds.lookup d.name=some st)(hx:dH st=[x])
  (T:∀ (w:Sy)(mg:Str->Option Ru)(h:SO),(K w.params).In h->h.Ns TF mg->TxtOk l.prog w (K w.params) mg S ds/\∃ f fd,Fun (K w.params) d.name d.name st f fd/\mg d.name=some (.ref f)/\∀ (s:RC)(u:Ru),X4 s fd ⟨[u],[]⟩ [(x,u)])
  (M:∀ ns:List Int,ns.length<=63->(∀ m∈ns,Sm m<=2 ^ 20)->∃ μ',jA S ds k d.name [.rol (ns.map D.int)] []=some (.bl true,μ')) :
  ZY q loose XP YP l.row.toRowW d [] (fun f vs=>a0X f vs):=by
 refine Ob hn hdf fun w s₀ s₁ mg mb fa o pm cd doc a vs ns G Y ho hd hcd hmg hobj hints hlen hbd hg=>?_
 have KX:=hY w _ Y
 obtain ⟨hT,f,fd,hF,hm,hb⟩:=T w mg _ KX G.T.g
 rw [hmg] at hm
 cases hm
 refine L2.law_call (CX:=fE) (sp:=iR (K w.params) 1 (jA S ds k d.name)) KX G.T.g G.T.b G.T.builtins G.T.nolimit hg hobj hints (SQ hlen (by decide)) hr (fun base hb1 hb2=>?_) hb (fun H hO hS=>?_) fun H e s' z=>z
 ·have:=Dk (base:=base) hT k d.name st fa fd hl hF
  rw [hx] at this
  exact this
 ·refine ⟨rfl,fun _=>0,[.rol (ns.map D.int)],[],.bl true,?_⟩
  obtain ⟨μ',hM⟩:=M ns hlen hbd
  have hro:RoL (K w.params) H a (ns.map V.int):=by
   rcases hS with (h|h)|h
   ·rcases hO a with z|⟨o,xs,z⟩
    ·rw [z] at h;cases h
    ·rw [z] at h;cases h
   ·exact .inl h
   ·exact .inr h
  refine ⟨μ',⟨fun i j hi=>absurd hi (VW _),fun i hi=>absurd hi (VW _),fun i xs h=>(by cases h),fun i xs h=>(by cases h),fun i xs h=>(by cases h)
   ,fun i xs h=>(by cases h)
   ,fun i xs h=>(by cases h)
   ⟩,.cons (.rol hro ?_) .nil,hM,fun π' v H' _ _ hv=>?_⟩
  ·have:∀ ns:List Int,IsDs (K w.params) (fun _=>0) ([]:Hm).length H (ns.map V.int) (ns.map D.int):=fun ns=>by
    induction ns with
    | nil=>exact .nil
    | cons n r ih=>exact .cons (.int n) ih
   exact this ns
  ·cases hv
   rfl
end L3
namespace L3
open PySem L2
theorem sQ {β:Type}:∀ {l:List (Str×β)}{x:Str}{b:β},l.lookup x=some b->(x,b)∈l:=fun h=>S6 h
theorem Oc {S:Sig}{ds:List (Str×Stmt)}(h:(S.fn.all fun p=>match ds.lookup p.1 with|some st=>decide ((dH st).length=p.2)|none=>false)=true):∀ x n,S.fn.lookup x=some n->∃ st,ds.lookup x=some st/\(dH st).length=n:=by
 intro x n e
 have:=UG.mp h (x,n) (sQ e)
 dsimp only at this
 split at this
 ·rename_i st hs
  exact ⟨st,hs,of_decide_eq_true this⟩
 ·cases this
theorem Od {K:Rn}{mg:Str->Option Ru}{ds:List (Str×Stmt)}(h:∀ p∈ds,DefAt K mg p.1 p.2/\l9 p.2=true):∀ x st,ds.lookup x=some st->DefAt K mg x st/\l9 st=true:=fun x st e=>h (x,st) (sQ e)
theorem Oe {K:Rn}{mg:Str->Option Ru}{cs:List (Str×D)}(h:∀ p∈cs,∃ v u,mg p.1=some u/\RelV v u/\∀ π n H,IsD K π n H v p.2):∀ x d,cs.lookup x=some d->∃ v u,mg x=some u/\RelV v u/\∀ π n H,IsD K π n H v d:=fun x d e=>h (x,d) (sQ e)
inductive EntsOf (w:Sy):List SV->List (a9×Ru)->Prop where
 | nil:EntsOf w [] []
 | cons {e:SV}{k:a9}{v:Ru}{es:List SV}{kvs:List (a9×Ru)}(h:tK k e.key=true)(hh:e.hash=zM w k)(hv:e.val=v)(t:EntsOf w es kvs):EntsOf w (e::es) ((k,v)::kvs)
theorem EntsOf.keys {P:R8}{w:Sy}{es:List SV}{kvs:List (a9×Ru)}(x:EntsOf w es kvs):∀ e∈es,∃ k,(k9 P w).is k e.key=true/\e.hash=(k9 P w).hash k:=by
 induction x with
 | nil=>intro e he;exact nomatch he
 | @cons e k v es kvs h hh hv _ ih=>
  intro e' he
  rcases Sa.mp he with rfl|he
  ·exact ⟨k,h,hh⟩
  ·exact ih e' he
theorem Of {mg:Str->Option Ru}{ns:List Str}(h:∀ x∈ns,mg x=none):∀ x,ns.contains x=true->mg x=none:=fun x e=>h x (by simpa using e)
noncomputable def sR:Nat->(Nat->Ru)->List Ru
 | 0,_=>[]
 | n+1,u=>u 0::sR n fun i=>u (i+1)
theorem Dm:∀ us:List Ru,∃ u,us=sR us.length u
 | []=>⟨fun _=>.none,rfl⟩
 | v::us=>let ⟨u,hu⟩:=Dm us;⟨fun i=>match i with|0=>v|i+1=>u i,congrArg (v::·) hu⟩
noncomputable abbrev Dn:Type:=Ru->Ru->Ru->Option Addr->Ru->Ru->(Nat->Ru)->a1n (List (Str×Ru))
noncomputable def Og (x:Str)(st:Stmt)(m:Ru)(c:Addr):TK:=⟨T8 "function",none,.func (Um x x (jO st) (fX st) (cJ st) .none .none .none m none (.ref c) .none),#[]⟩
noncomputable def Dp (K:Rn)(d:(Str×Stmt)×Ru×Addr×Addr):Option (Option Ru)×Option TK×Bool×Bool×Bool×Dn:=(Wu K TF d.1.1,K.lookup d.2.2.2,WD K (.ref d.2.2.1) d.1.1,TL K (.ref d.2.2.2),l9 d.1.2,fun kV doc pm an cdv ct u=>YU (Um d.1.1 d.1.1 (jO d.1.2) (fX d.1.2) (cJ d.1.2) .none kV doc pm an cdv ct) ⟨sR (dH d.1.2).length u,[]⟩)
noncomputable def Dq (d:(Str×Stmt)×Ru×Addr×Addr):Option (Option Ru)×Option TK×Bool×Bool×Bool×Dn:=(some (some (.ref d.2.2.2)),some (Og d.1.1 d.1.2 d.2.1 d.2.2.1),true,true,true,fun _ _ _ _ _ _ u=>pure ((dH d.1.2).zip (sR (dH d.1.2).length u)))
noncomputable def sS (K:Rn)(d:Str×Stmt):(Str×Stmt)×Ru×Addr×Addr:=(d,match Wu K TF d.1 with
 | some (some (.ref f))=>(match K.lookup f with
  | some ⟨_,_,.func fd,_⟩=>(match fd.code with
   | .ref c=>(fd.pyModule,c,f)
   | _=>(.none,0,0))
  | _=>(.none,0,0))
 | _=>(.none,0,0))
noncomputable def sT (K:Rn)(ds:List (Str×Stmt)):Prop:=ds.map (fun d=>Dp K (sS K d))=ds.map fun d=>Dq (sS K d)
theorem Dr {K:Rn}{h:SO}{mg:Str->Option Ru}(X:K.In h)(G:h.Ns TF mg){ds:List (Str×Stmt)}(q:sT K ds):∀ p∈ds,(DefAt K mg p.1 p.2/\l9 p.2=true)/\∃ f fd,Fun K p.1 p.1 p.2 f fd/\mg p.1=some (.ref f)/\∀ us:List Ru,us.length=(dH p.2).length->YU fd ⟨us,[]⟩=pure ((dH p.2).zip us):=by
 intro p0 hp
 have t:=ZR.mp q p0 hp
 have e:(sS K p0).1=p0:=rfl
 generalize sS K p0=d at t e
 obtain ⟨p,m,c,f⟩:=d
 cases e
 unfold Dp Dq at t
 obtain ⟨a,t⟩:=WE t
 obtain ⟨l,t⟩:=WE t
 obtain ⟨c,t⟩:=WE t
 obtain ⟨k,t⟩:=WE t
 obtain ⟨s,b⟩:=WE t
 have F:=Hq (st:=p.2) l c k
 have D:=fun kV doc pm an cdv ct (us:List Ru)(hl:us.length=(dH p.2).length)=>(by
  obtain ⟨u,hu⟩:=Dm us
  rw [hl] at hu
  rw [hu]
  exact congrFun (congrFun (congrFun (congrFun (congrFun (congrFun (congrFun b kV) doc) pm) an) cdv) ct) u:YU (Um p.1 p.1 (jO p.2) (fX p.2) (cJ p.2) .none kV doc pm an cdv ct) ⟨us,[]⟩=pure ((dH p.2).zip us))
 exact ⟨⟨⟨_,_,F,XY X G a,F.binds D⟩,s⟩,_,_,F,XY X G a,D _ _ _ _ _ _⟩
theorem Oh {K:Rn}{h:SO}{mg:Str->Option Ru}(X:K.In h)(G:h.Ns TF mg){ds:List (Str×Stmt)}(q:sT K ds){x y:Str}{st:Stmt}(hl:ds.lookup x=some st)(hp:dH st=[y]):∃ f fd,Fun K x x st f fd/\mg x=some (.ref f)/\∀ (s:RC)(u:Ru),X4 s fd ⟨[u],[]⟩ [(y,u)]:=by
 obtain ⟨f,fd,F,m,b⟩:=(Dr X G q (x,st) (sQ hl)).2
 dsimp only at b
 rw [hp] at b
 exact ⟨f,fd,F,m,fun s u=>.of_eq (b [u] rfl)⟩
theorem Oi {K:Rn}{h:SO}{mg:Str->Option Ru}(X:K.In h)(G:h.Ns TF mg){ns:List Str}(q:ns.map (Wu K TF)=ns.map fun _=>some none):∀ x∈ns,mg x=none:=fun x hx=>PySem.W.mg_none_of X G (ZR.mp q x hx)
noncomputable def pN {α β:Type}(f:α->β->Bool):List α->List β->Bool
 | [],[]=>true
 | a::as,b::bs=>f a b&&pN f as bs
 | _,_=>false
noncomputable def pO (K:Rn):Nat->Ru->D->Bool
 | 0,_,_=>false
 | k+1,u,d=>match d with
  | .non=>(match u with|.none=>true|_=>false)
  | .bl b=>(match u with|.bool c=>decide (b=c)|_=>false)
  | .int i=>(match u with|.int j _=>decide (i=j)|_=>false)
  | .str x=>(match u with|.str y _=>decide (x=y)|_=>false)
  | .tup ds=>(match u with
   | .ref p=>(match K.lookup p with
    | some ⟨.type t,none,.seq its _,_⟩=>decide (t = "tuple")&&decide (its.size<=1000)&&pN (pO K k) its.toList ds
    | _=>false)
   | _=>false)
  | .rol ds=>(match u with
   | .ref p=>(match K.lookup p with
    | some ⟨.type t,none,.seq its _,_⟩=>decide (t = "list")&&decide (its.size<=1000)&&pN (pO K k) its.toList ds
    | _=>false)
   | _=>false)
  | _=>false
theorem Ds {K:Rn}{f:Ru->D->Bool}(h:∀ u d,f u d=true->∃ v,RelV v u/\∀ π n H,IsD K π n H v d):∀ us ds,pN f us ds=true->∃ vs,Vals vs us/\∀ π n H,IsDs K π n H vs ds
 | [],[],_=>⟨[],.nil,fun _ _ _=>.nil⟩
 | u::us,d::ds,e=>by
  obtain ⟨a,b⟩:=U3.mp e
  obtain ⟨v,r,q⟩:=h u d a
  obtain ⟨vs,rs,qs⟩:=Ds h us ds b
  exact ⟨v::vs,.cons r rs,fun _ _ _=>.cons (q _ _ _) (qs _ _ _)⟩
 | [],_::_,e=>nomatch e
 | _::_,[],e=>nomatch e
theorem Dt {K:Rn}:∀ (k:Nat)(u:Ru)(d:D),pO K k u d=true->∃ v,RelV v u/\∀ π n H,IsD K π n H v d
 | 0,_,_,e=>nomatch e
 | k+1,u,d,e=>by
  have seq:∀ {p:Addr}{ds:List D}{c:String},(match K.lookup p with|some ⟨.type t,none,.seq its _,_⟩=>decide (t=c)&&decide (its.size<=1000)&&pN (pO K k) its.toList ds|_=>false)=true->∃ vs its n sl,K.lookup p=some ⟨.type c,none,.seq its n,sl⟩/\its.size<=RL/\Vals vs its.toList/\∀ π n H,IsDs K π n H vs ds:=fun {p ds c} e=>by
   split at e
   ·rename_i t its n sl hk
    obtain ⟨e,q⟩:=U3.mp e
    obtain ⟨a,b⟩:=U3.mp e
    cases of_decide_eq_true a
    obtain ⟨vs,r,i⟩:=Ds (Dt k) _ _ q
    exact ⟨vs,its,n,sl,hk,SQ (of_decide_eq_true b) (by decide),r,i⟩
   ·cases e
  cases d with
  | non=>cases u with
   | none=>exact ⟨.non,rfl,fun _ _ _=>.non⟩
   | _=>cases e
  | bl b=>cases u with
   | bool c=>cases of_decide_eq_true e;exact ⟨.bl b,rfl,fun _ _ _=>.bl _⟩
   | _=>cases e
  | int b=>cases u with
   | int c=>cases of_decide_eq_true e;exact ⟨.int b,⟨_,rfl⟩,fun _ _ _=>.int _⟩
   | _=>cases e
  | str b=>cases u with
   | str c=>cases of_decide_eq_true e;exact ⟨.str b,⟨_,rfl⟩,fun _ _ _=>.str _⟩
   | _=>cases e
  | tup ds=>cases u with
   | ref p=>
    obtain ⟨vs,its,n,sl,hk,hs,r,i⟩:=seq e
    exact ⟨.ref p,rfl,fun _ _ _=>.tup (vs:=vs) (.inr ⟨_,its,n,hk,rfl,rfl,rfl,hs,r⟩) (i _ _ _)⟩
   | _=>cases e
  | rol ds=>cases u with
   | ref p=>
    obtain ⟨vs,its,n,sl,hk,hs,r,i⟩:=seq e
    exact ⟨.ref p,rfl,fun _ _ _=>.rol (vs:=vs) (.inr ⟨_,its,n,hk,rfl,rfl,rfl,hs,r⟩) (i _ _ _)⟩
   | _=>cases e
  | _=>cases e
noncomputable def Du (K:Rn)(cs:List (Str×D)):Bool:=cs.all fun c=>match Wu K TF c.1 with|some (some u)=>pO K 8 u c.2|_=>false
theorem Oj {K:Rn}{h:SO}{mg:Str->Option Ru}(X:K.In h)(G:h.Ns TF mg){cs:List (Str×D)}(q:Du K cs=true):∀ p∈cs,∃ v u,mg p.1=some u/\RelV v u/\∀ π n H,IsD K π n H v p.2:=fun p hp=>by
 have t:=UG.mp q p hp
 split at t
 ·rename_i u hu
  obtain ⟨v,r,i⟩:=Dt _ _ _ t
  exact ⟨v,u,XY X G hu,r,i⟩
 ·cases t
end L3
namespace L3
open PySem L2
noncomputable def W {α:Type}(o:Option α)(Q:α->Prop):Prop:=∃ r,o=some r/\Q r
section
variable {α β:Type}{o:Option α}{Q:α->Prop}
theorem W_some {r:α}{Q:α->Prop}:W (some r) Q↔Q r:=⟨fun ⟨_,h,q⟩=>by cases h;exact q,fun q=>⟨r,rfl,q⟩⟩
theorem W_none {Q:α->Prop}:W none Q↔False:=⟨fun ⟨_,h,_⟩=>(by cases h),fun h=>h.elim⟩
theorem W_bind {g:α->Option β}{Q:β->Prop}:W (o.bind g) Q↔W o fun r=>W (g r) Q:=by
 cases o with
 | none=>exact ⟨fun ⟨_,h,_⟩=>(by cases h),fun ⟨_,h,_⟩=>(by cases h)⟩
 | some a=>simp [W_some]
theorem iK {g:α->β}{Q:β->Prop}:W (o.map g) Q↔W o fun r=>Q (g r):=by
 cases o with
 | none=>exact ⟨fun ⟨_,h,_⟩=>(by cases h),fun ⟨_,h,_⟩=>(by cases h)⟩
 | some a=>simp [W_some]
theorem bQ {Q':α->Prop}(h:W o Q)(k:∀ r,Q r->Q' r):W o Q':=let ⟨r,e,q⟩:=h;⟨r,e,k r q⟩
theorem sU {c:Prop} [Decidable c] {a b:Option α}:W (if c then a else b) Q↔if c then W a Q else W b Q:=by split<;>rfl
end
noncomputable def fin:Option (Fl×aH×Hm)->Option (D×Hm):=fun o=>o.bind fun p=>match p.1 with|.rt d=>some (d,p.2.2)|.nx=>some (.non,p.2.2)|_=>none
theorem W_fin {o:Option (Fl×aH×Hm)}{Q:D×Hm->Prop}:W (fin o) Q↔W o fun p=>match p.1 with|.rt d=>Q (d,p.2.2)|.nx=>Q (.non,p.2.2)|_=>False:=by
 unfold fin
 rw [W_bind]
 constructor
 ·exact fun h=>bQ h fun p q=>by
   obtain ⟨fl,ρ,μ⟩:=p
   cases fl<;>simpa [W_some,W_none] using q
 ·exact fun h=>bQ h fun p q=>by
   obtain ⟨fl,ρ,μ⟩:=p
   cases fl<;>simpa [W_some,W_none] using q
theorem aJ {μ μ':Hm}(h:μ <+: μ'){a:Nat}{c:C}(e:μ[a]? = some c):μ'[a]? = some c:=by
 obtain ⟨t,rfl⟩:=h
 have hl:=(Rw.mp e).1
 rw [Sw hl]
 exact e
theorem a8 (μ:Hm)(c:C):μ <+: μ++[c]:=⟨[c],rfl⟩
theorem cT {μ μ':Hm}(h:μ <+: μ'){a:Nat}(ha:μ.length<=a)(c:C):μ <+: μ'.set a c:=by
 obtain ⟨t,rfl⟩:=h
 rw [WJ _ _ ha]
 exact ⟨_,rfl⟩
theorem aP {a b:MS}{ρ:aH}{μ:Hm} {Q}:W (aG a b ρ μ) Q↔W (a ρ μ) fun p=>match p.1 with|.nx=>W (b p.2.1 p.2.2) Q|_=>Q p:=by
 unfold aG
 rw [W_bind]
 constructor
 ·exact fun h=>bQ h fun p q=>by
   obtain ⟨fl,ρ,μ⟩:=p
   cases fl<;>simpa [W_some,W_none] using q
 ·exact fun h=>bQ h fun p q=>by
   obtain ⟨fl,ρ,μ⟩:=p
   cases fl<;>simpa [W_some,W_none] using q
theorem w_mRet {m:ME}{ρ:aH}{μ:Hm} {Q}:W (bE m ρ μ) Q↔W (m ρ μ) fun p=>Q (.rt p.1,ρ,p.2):=iK
theorem kW {m:ME}{ρ:aH}{μ:Hm} {Q}:W (eV m ρ μ) Q↔W (m ρ μ) fun p=>Q (.nx,ρ,p.2):=iK
theorem bI {i:Nat}{m:ME}{ρ:aH}{μ:Hm} {Q}:W (aZ i m ρ μ) Q↔W (m ρ μ) fun p=>Q (.nx,ρ.set i (some p.1),p.2):=iK
theorem cU {ρ:aH}{μ:Hm} {Q}:W (bY ρ μ) Q↔Q (.nx,ρ,μ):=W_some
theorem cY {t:MT}{a b:MS}{ρ:aH}{μ:Hm} {Q}:W (bS t a b ρ μ) Q↔W (t ρ μ) fun p=>if p.1=true then W (a ρ p.2) Q else W (b ρ p.2) Q:=by
 unfold bS
 rw [W_bind]
 constructor<;>exact fun h=>bQ h fun p q=>by
   obtain ⟨x,μ⟩:=p
   cases x<;>simpa using q
theorem pP {t:MT}{a b:ME}{ρ:aH}{μ:Hm} {Q}:W (fY t a b ρ μ) Q↔W (t ρ μ) fun p=>if p.1=true then W (a ρ p.2) Q else W (b ρ p.2) Q:=by
 unfold fY
 rw [W_bind]
 constructor<;>exact fun h=>bQ h fun p q=>by
   obtain ⟨x,μ⟩:=p
   cases x<;>simpa using q
theorem pQ {a b:MT}{ρ:aH}{μ:Hm} {Q}:W (iF a b ρ μ) Q↔W (a ρ μ) fun p=>if p.1=true then W (b ρ p.2) Q else Q (false,p.2):=by
 unfold iF
 rw [W_bind]
 constructor<;>exact fun h=>bQ h fun p q=>by
   obtain ⟨x,μ⟩:=p
   cases x<;>simpa [W_some] using q
theorem pR {a b:MT}{ρ:aH}{μ:Hm} {Q}:W (iT a b ρ μ) Q↔W (a ρ μ) fun p=>if p.1=true then Q (true,p.2) else W (b ρ p.2) Q:=by
 unfold iT
 rw [W_bind]
 constructor<;>exact fun h=>bQ h fun p q=>by
   obtain ⟨x,μ⟩:=p
   cases x<;>simpa [W_some] using q
theorem mB {a:MT}{ρ:aH}{μ:Hm} {Q}:W (iG a ρ μ) Q↔W (a ρ μ) fun p=>Q (!p.1,p.2):=iK
theorem aT {f:D->D->Hm->Option (D×Hm)}{a b:ME}{ρ:aH}{μ:Hm} {Q}:W (aB f a b ρ μ) Q↔W (a ρ μ) fun p=>W (b ρ p.2) fun q=>W (f p.1 q.1 q.2) Q:=by
 unfold aB
 rw [W_bind]
 simp only [W_bind]
theorem bC {d:D}{ρ:aH}{μ:Hm} {Q}:W (mC d ρ μ) Q↔Q (d,μ):=W_some
theorem aE {d:D}{ρ:aH}{μ:Hm} {Q}:W (aA 0 (some d::ρ) μ) Q↔Q (d,μ):=by
 show W (some (d,μ)) Q↔_
 exact W_some
theorem aF {i:Nat}{x:Option D}{ρ:aH}{μ:Hm} {Q}:W (aA (i+1) (x::ρ) μ) Q↔W (aA i ρ μ) Q:=by
 unfold aA
 rw [YE]
theorem aM {ρ:aH}{μ:Hm} {Q}:W (aD ρ μ) Q↔Q ([],μ):=W_some
theorem aR {a:ME}{r:MA}{ρ:aH}{μ:Hm} {Q}:W (aC a r ρ μ) Q↔W (a ρ μ) fun p=>W (r ρ p.2) fun q=>Q (p.1::q.1,q.2):=by
 unfold aC
 simp only [W_bind,W_some]
theorem e8 {ms:MA}{ρ:aH}{μ:Hm} {Q}:W (bV ms ρ μ) Q↔W (ms ρ μ) fun p=>p.1.length<=RL/\Q (.tup p.1,p.2):=by
 unfold bV
 rw [W_bind]
 constructor<;>exact fun h=>bQ h fun p q=>by
  first
  | (rw [sU] at q;split at q
     ·exact ⟨by assumption,W_some.mp q⟩
     ·exact (W_none.mp q).elim)
  | (rw [if_pos q.1];exact W_some.mpr q.2)
theorem gO {ms:MA}{ρ:aH}{μ:Hm} {Q}:W (cK ms ρ μ) Q↔W (ms ρ μ) fun p=>p.1.length<=RL/\Q (.loc p.2.length,p.2++[.lst p.1]):=by
 unfold cK
 rw [W_bind]
 constructor<;>exact fun h=>bQ h fun p q=>by
  first
  | (rw [sU] at q;split at q
     ·exact ⟨by assumption,W_some.mp q⟩
     ·exact (W_none.mp q).elim)
  | (rw [if_pos q.1];exact W_some.mpr q.2)
theorem bF {f:MF}{ms:MA}{ρ:aH}{μ:Hm} {Q}:W (aK f ms ρ μ) Q↔W (ms ρ μ) fun p=>W (f p.1 p.2) Q:=W_bind
theorem cZ {m:ME}{ρ:aH}{μ:Hm} {Q}:W (bD m ρ μ) Q↔W (m ρ μ) fun p=>match p.1 with|.bl b=>Q (b,p.2)|_=>False:=by
 unfold bD
 rw [W_bind]
 constructor<;>exact fun h=>bQ h fun p q=>by
  obtain ⟨d,μ⟩:=p
  cases d<;>simpa [W_some,W_none] using q
theorem iL {m:ME}{ρ:aH}{μ:Hm} {Q}:W (dN m ρ μ) Q↔W (m ρ μ) fun p=>W (nB p.2 p.1) fun b=>Q (b,p.2):=by
 unfold dN
 simp only [W_bind,iK]
theorem Dv {a:ME}{ρ:aH}{μ:Hm} {Q}:W (iU a ρ μ) Q↔W (a ρ μ) fun p=>match p.1 with|.int i=>Q (.int (-i),p.2)|_=>False:=by
 unfold iU
 rw [W_bind]
 constructor<;>exact fun h=>bQ h fun p q=>by
  obtain ⟨d,μ⟩:=p
  cases d<;>simpa [W_some,W_none,iK,uQ] using q
theorem Ol {a:ME}{ρ:aH}{μ:Hm} {Q}:W (mR a ρ μ) Q↔W (a ρ μ) fun p=>match p.1 with|.bl b=>Q (.bl (!b),p.2)|_=>False:=by
 unfold mR
 rw [W_bind]
 constructor<;>exact fun h=>bQ h fun p q=>by
  obtain ⟨d,μ⟩:=p
  cases d<;>simpa [W_some,W_none] using q
theorem kX {a b:ME}{ρ:aH}{μ:Hm} {Q}:W (eJ a b ρ μ) Q↔W (a ρ μ) fun p=>match p.1 with|.bl c=>if c=true then W (b ρ p.2) Q else Q (.bl false,p.2)|_=>False:=by
 unfold eJ
 rw [W_bind]
 constructor<;>exact fun h=>bQ h fun p q=>by
  obtain ⟨d,μ⟩:=p
  cases d with
  | bl c=>cases c<;>simpa [W_some] using q
  | _=>simpa [W_none] using q
theorem mD {m:ME}{g:MG}{ρ:aH}{μ:Hm} {Q}:W (eK m g ρ μ) Q↔W (m ρ μ) fun p=>W (g p.1 ρ p.2) fun ρ'=>Q (.nx,ρ',p.2):=by
 unfold eK
 simp only [W_bind,iK]
section
variable {i j:Int}{μ:Hm}{Q:D×Hm->Prop}{a b c d e g:D}
theorem gP:W (bK (.int i) (.int j) μ) Q↔Q (.int (i+j),μ):=W_some
theorem yG:W (fI (.int i) (.int j) μ) Q↔Q (.int (i - j),μ):=W_some
theorem dX (h:0<j):W (bH (.int i) (.int j) μ) Q↔Q (.int (i % j),μ):=by
 show W ((if 0<j then some (i % j) else none).map fun z=>(D.int z,μ)) Q↔_
 rw [if_pos h]
 exact W_some
theorem Om:(1073741824:Int)<2 ^ 4000:=by decide +kernel
theorem Oo (h:0<j)(h2:j<2 ^ 4000):W (d8 (.int i) (.int j) μ) Q↔Q (.int (i / j),μ):=by
 show W ((if 0<j/\j<2 ^ 4000 then some (i / j) else none).map fun z=>(D.int z,μ)) Q↔_
 rw [if_pos ⟨h,h2⟩]
 exact W_some
theorem j6 (h:0<j)(h2:j<1073741824):W (d8 (.int i) (.int j) μ) Q↔Q (.int (i / j),μ):=Oo h (Int.lt_trans h2 Om)
theorem jB (h:(-(2 ^ 64)<i/\i<2 ^ 64)\/(-(2 ^ 64)<j/\j<2 ^ 64)):W (bT (.int i) (.int j) μ) Q↔Q (.int (i * j),μ):=by
 show W ((if ((-(2 ^ 64)<i/\i<2 ^ 64)\/(-(2 ^ 64)<j/\j<2 ^ 64))\/(i.natAbs<2 ^ 4000/\j.natAbs<2 ^ 4000)\/Sm i+Sm j<=134217728 then some (i * j) else none).map fun z=>(D.int z,μ)) Q↔_
 rw [if_pos (.inl h)]
 exact W_some
theorem hW:W (aW false (.int i) (.int j) μ) Q↔Q (.bl (i == j),μ):=W_some
theorem yH:W (aW true (.int i) (.int j) μ) Q↔Q (.bl (!(i == j)),μ):=W_some
theorem Oq {x y:Str}:W (aW false (.str x) (.str y) μ) Q↔Q (.bl (x == y),μ):=W_some
theorem Ot {x y:Str}:W (aW true (.str x) (.str y) μ) Q↔Q (.bl (!(x == y)),μ):=W_some
theorem w_neB {x y:Bool}:W (aW true (.bl x) (.bl y) μ) Q↔Q (.bl (!(x == y)),μ):=W_some
theorem pS:W (hG (.int i) (.int j) μ) Q↔Q (.bl (decide (i<j)),μ):=W_some
theorem Ou:W (mX (.int i) (.int j) μ) Q↔Q (.bl (decide (i<=j)),μ):=W_some
theorem pT:W (fK (.int i) (.int j) μ) Q↔Q (.bl (decide (j<i)),μ):=W_some
theorem nT:W (aL (.tup [a,b]) (.int 0) μ) Q↔Q (a,μ):=W_some
theorem jC:W (aL (.tup [a,b]) (.int 1) μ) Q↔Q (b,μ):=W_some
theorem Ov:W (aL (.tup [a,b,c,d,e,g]) (.int 0) μ) Q↔Q (a,μ):=W_some
theorem Ox:W (aL (.tup [a,b,c,d,e,g]) (.int 1) μ) Q↔Q (b,μ):=W_some
theorem Oy:W (aL (.tup [a,b,c,d,e,g]) (.int 2) μ) Q↔Q (c,μ):=W_some
theorem Oz:W (aL (.tup [a,b,c,d,e,g]) (.int 3) μ) Q↔Q (d,μ):=W_some
theorem hX {b:Bool}{Q:Bool->Prop}:W (nB μ (.bl b)) Q↔Q b:=W_some
theorem yI {ρ:aH}{i j:Nat}{Q:aH->Prop}:W (cL [i,j] (.tup [a,b]) ρ μ) Q↔Q ((ρ.set i (some a)).set j (some b)):=W_some
end
theorem hZ {μ:Hm}{a:Nat}{xs:List D}{i:Int}{d:D}{Q:D×Hm->Prop}(h:μ[a]? = some (.lst xs))(hi:atI xs i=some d):W (aL (.loc a) (.int i) μ) Q↔Q (d,μ):=by
 have:aL (.loc a) (.int i) μ=some (d,μ):=by
  simp only [aL,fZ,bJ,h,R6,hi,Sb]
 rw [this]
 exact W_some
theorem Dw {μ:Hm}{l:Nat}{a b:D}{ρ:aH}{i j:Nat}{Q:aH->Prop}(h:μ[l]? = some (.lst [a,b])):W (cL [i,j] (.loc l) ρ μ) Q↔Q ((ρ.set i (some a)).set j (some b)):=by
 have:cL [i,j] (.loc l) ρ μ=some ((ρ.set i (some a)).set j (some b)):=by
  simp only [cL,bJ,h,R6]
  rfl
 rw [this]
 exact W_some
end L3
namespace L3
open PySem L2
theorem w_iSeq {m:ME}{ρ:aH}{μ:Hm}{Q:gG×Nat×Hm->Prop}:W (dJ m ρ μ) Q↔W (m ρ μ) fun p=>W (jU p.2 p.1) fun xs=>Q (dU p.1,xs.length+1,p.2):=by
 unfold dJ
 simp only [W_bind,iK]
theorem eM {it:MI}{g:MG}{b:MS}{ρ:aH}{μ:Hm} {Q}:W (bX it g b ρ μ) Q↔W (it ρ μ) fun p=>W (dS p.1 g b p.2.1 0 ρ p.2.2) Q:=W_bind
theorem Dx {j:Int}{ms:MA}{ρ:aH}{μ:Hm}{Q:gG×Nat×Hm->Prop}:W (lM ms ρ μ) Q↔W (ms ρ μ) fun p=>match p.1 with|[.int j]=>(-(2 ^ 62)<=j/\j<2 ^ 62)/\Q (f9 0 j.toNat,j.toNat+1,p.2)|_=>False:=by
 unfold lM
 rw [W_bind]
 constructor<;>exact fun h=>bQ h fun p q=>by
  obtain ⟨l,μ⟩:=p
  match l,q with
  | [],q=>simpa [W_none] using q
  | [d],q=>
   cases d with
   | int j=>
    first
    | (dsimp only at q;rw [sU] at q;split at q
       ·rename_i hb;exact ⟨hb,W_some.mp q⟩
       ·exact (W_none.mp q).elim)
    | (dsimp only;rw [if_pos q.1];exact W_some.mpr q.2)
   | _=>simpa [W_none] using q
  | a::b::l,q=>simpa [W_none] using q
theorem sV {ms:MA}{ρ:aH}{μ:Hm}{Q:gG×Nat×Hm->Prop}:W (kC ms ρ μ) Q↔W (ms ρ μ) fun p=>match p.1 with|[.int i,.int j]=>(-(2 ^ 62)<=i/\i<2 ^ 62/\-(2 ^ 62)<=j/\j<2 ^ 62)/\Q (f9 i (j - i).toNat,(j - i).toNat+1,p.2)|_=>False:=by
 unfold kC
 rw [W_bind]
 constructor<;>exact fun h=>bQ h fun p q=>by
  split at q
  ·rename_i e
   try rw [e]
   first
   | (rw [sU] at q;split at q
      ·rename_i hb;exact ⟨hb,W_some.mp q⟩
      ·exact (W_none.mp q).elim)
   | ((try dsimp only);rw [if_pos q.1];exact W_some.mpr q.2)
  ·first
   | exact (W_none.mp q).elim
   | exact q.elim
theorem kY {src:gG}{g:MG}{b:MS}{N:Nat}{Q:Fl×aH×Hm->Prop}(I:Nat->aH->Hm->Prop)
  (go:∀ i ρ μ,i<N->I i ρ μ->∃ d ρ1,src μ i=some (some d)/\g d ρ μ=some ρ1/\W (b ρ1 μ) fun p=>match p.1 with|.nx=>I (i+1) p.2.1 p.2.2|.ct=>I (i+1) p.2.1 p.2.2|.bk=>Q (.nx,p.2.1,p.2.2)|.rt d=>Q (.rt d,p.2.1,p.2.2))
  (stop:∀ ρ μ,I N ρ μ->src μ N=some none/\Q (.nx,ρ,μ)):∀ (m i:Nat)(ρ:aH)(μ:Hm),i+m=N->I i ρ μ->W (dS src g b (m+1) i ρ μ) Q
 | 0,i,ρ,μ,h,hI=>by
  have:i=N:=by omega
  subst this
  obtain ⟨h1,h2⟩:=stop ρ μ hI
  unfold dS
  rw [h1]
  exact W_some.mpr h2
 | m+1,i,ρ,μ,h,hI=>by
  obtain ⟨d,ρ1,h1,h2,h3⟩:=go i ρ μ (by omega) hI
  unfold dS
  rw [h1]
  simp only [R6,h2]
  rw [W_bind]
  refine bQ h3 fun p q=>?_
  obtain ⟨fl,ρ2,μ2⟩:=p
  cases fl with
  | nx=>exact kY I go stop m (i+1) ρ2 μ2 (by omega) q
  | ct=>exact kY I go stop m (i+1) ρ2 μ2 (by omega) q
  | bk=>exact W_some.mpr q
  | rt d=>exact W_some.mpr q
theorem kZ {a:Nat}{xs:List D}{g:MG}{b:MS}{ρ:aH}{μ:Hm}{Q:Fl×aH×Hm->Prop}(I:Nat->aH->Hm->Prop)(h0:I 0 ρ μ)(hl:∀ i ρ μ,I i ρ μ->μ[a]? = some (.lst xs))
  (go:∀ i d ρ μ,xs[i]? = some d->I i ρ μ->∃ ρ1,g d ρ μ=some ρ1/\W (b ρ1 μ) fun p=>match p.1 with|.nx=>I (i+1) p.2.1 p.2.2|.ct=>I (i+1) p.2.1 p.2.2|.bk=>Q (.nx,p.2.1,p.2.2)|.rt d=>Q (.rt d,p.2.1,p.2.2))
  (stop:∀ ρ μ,I xs.length ρ μ->Q (.nx,ρ,μ)):W (dS (dU (.loc a)) g b (xs.length+1) 0 ρ μ) Q:=by
 refine kY (N:=xs.length) I (fun i ρ μ hi hI=>?_) (fun ρ μ hI=>⟨?_,stop ρ μ hI⟩) xs.length 0 ρ μ (by omega) h0
 ·have e:xs[i]? = some xs[i]:=RN hi
  obtain ⟨ρ1,h1,h2⟩:=go i xs[i] ρ μ e hI
  refine ⟨xs[i],ρ1,?_,h1,h2⟩
  simp only [dU,jU,bJ,hl i ρ μ hI,Sb,e]
 ·simp only [dU,jU,bJ,hl _ ρ μ hI,Sb]
  simp
theorem yJ {lo:Int}{n:Nat}{g:MG}{b:MS}{ρ:aH}{μ:Hm}{Q:Fl×aH×Hm->Prop}(I:Nat->aH->Hm->Prop)(h0:I 0 ρ μ)
  (go:∀ (i:Nat) ρ μ,i<n->I i ρ μ->∃ ρ1,g (.int (lo+i)) ρ μ=some ρ1/\W (b ρ1 μ) fun p=>match p.1 with|.nx=>I (i+1) p.2.1 p.2.2|.ct=>I (i+1) p.2.1 p.2.2|.bk=>Q (.nx,p.2.1,p.2.2)|.rt d=>Q (.rt d,p.2.1,p.2.2))
  (stop:∀ ρ μ,I n ρ μ->Q (.nx,ρ,μ)):W (dS (f9 lo n) g b (n+1) 0 ρ μ) Q:=by
 refine kY (N:=n) I (fun i ρ μ hi hI=>?_) (fun ρ μ hI=>⟨?_,stop ρ μ hI⟩) n 0 ρ μ (by omega) h0
 ·obtain ⟨ρ1,h1,h2⟩:=go i ρ μ hi hI
  exact ⟨_,ρ1,by simp only [f9,if_pos hi],h1,h2⟩
 ·simp only [f9,UA,if_false]
theorem yK {μ:Hm}{a:Nat}{ys:List D}{y:D}(h:μ[a]? = some (.lst ys))(hl:ys.length<RL):m4 μ a y=some (μ.set a (.lst (ys++[y]))):=by
 unfold m4
 rw [h]
 exact if_pos hl
theorem yL {src:gG}{c:MT}{e:ME}{ρ:aH}{μ0:Hm}{xs:List D}{p:D->Bool}{v:D->D}{Q:Hm->Prop}(hs:∀ μ i,μ0 <+: μ->src μ i=some xs[i]?)(hl:xs.length<=RL)
  (hc:∀ d μ,d∈xs->μ0 <+: μ->W (c (ρ++[some d]) μ) fun r=>r.1=p d/\μ <+: r.2)
  (he:∀ d μ,d∈xs->p d=true->μ0 <+: μ->W (e (ρ++[some d]) μ) fun r=>r.1=v d/\μ <+: r.2)
  (fin:∀ μ,μ0 <+: μ->μ[μ0.length]? = some (.lst ((xs.filter p).map v))->Q μ) :
  ∀ (m i:Nat)(μ:Hm),i+m=xs.length->μ0 <+: μ->μ[μ0.length]? = some (.lst (((xs.take i).filter p).map v))->W (gA src oM c e ρ μ0.length (m+1) i μ) Q
 | 0,i,μ,hi,hp,ha=>by
  have:i=xs.length:=by omega
  subst this
  unfold gA
  rw [hs μ _ hp]
  rw [Ts (RD _)]
  simp only [R6]
  refine W_some.mpr (fin μ hp ?_)
  simpa using ha
 | m+1,i,μ,hi,hp,ha=>by
  have hlt:i<xs.length:=by omega
  have hx:xs[i]? = some xs[i]:=RN hlt
  have hmem:xs[i]∈xs:=VF hlt
  unfold gA
  rw [hs μ _ hp,hx]
  simp only [R6,oM]
  rw [W_bind]
  refine bQ (hc _ μ hmem hp) fun r q=>?_
  obtain ⟨b,μ1⟩:=r
  obtain ⟨q1,q2⟩:=q
  dsimp only at q1 q2 ⊢
  subst q1
  have htake:xs.take (i+1)=xs.take i++[xs[i]]:=by rw [a0t,hx];rfl
  have ha1:=aJ q2 ha
  cases hpd:p xs[i] with
  | false=>
   refine yL hs hl hc he fin m (i+1) μ1 (by omega) (hp.trans q2) ?_
   rw [ha1,htake,Td]
   simp [hpd]
  | true=>
   dsimp only
   rw [W_bind]
   refine bQ (he _ μ1 hmem hpd (hp.trans q2)) fun r q=>?_
   obtain ⟨y,μ2⟩:=r
   obtain ⟨q3,q4⟩:=q
   dsimp only at q3 q4 ⊢
   subst q3
   have ha2:=aJ q4 ha1
   have hlen:(((xs.take i).filter p).map v).length<RL:=by
    have h1:=SY p (xs.take i)
    rw [Ro]
    rw [SJ] at h1
    omega
   rw [yK ha2 hlen,R6]
   have hp2:μ0 <+: μ2:=(hp.trans q2).trans q4
   refine yL hs hl hc he fin m (i+1) _ (by omega) (cT hp2 (RD _) _) ?_
   rw [SA (Rw.mp ha2).1,htake,Td]
   simp [hpd]
theorem sW {it:MI}{c:MT}{e:ME}{ρ:aH}{μ:Hm}{xs:List D}{p:D->Bool}{v:D->D}{Q:D×Hm->Prop}
  (hit:W (it ρ μ) fun r=>(∀ μ' i,r.2.2 <+: μ'->r.1 μ' i=some xs[i]?)/\r.2.1=xs.length+1/\xs.length<=RL /\
   (∀ d μ',d∈xs->r.2.2 <+: μ'->W (c (ρ++[some d]) μ') fun s=>s.1=p d/\μ' <+: s.2)/\(∀ d μ',d∈xs->p d=true->r.2.2 <+: μ'->W (e (ρ++[some d]) μ') fun s=>s.1=v d/\μ' <+: s.2) /\
   ∀ μ',r.2.2 <+: μ'->μ'[r.2.2.length]? = some (.lst ((xs.filter p).map v))->Q (.loc r.2.2.length,μ')):W (kD it c e ρ μ) Q:=by
 unfold kD jV
 rw [W_bind]
 refine bQ hit fun r q=>?_
 obtain ⟨src,n,μ1⟩:=r
 obtain ⟨h1,h2,h3,h4,h5,h6⟩:=q
 dsimp only at h1 h2 h3 h4 h5 h6 ⊢
 subst h2
 rw [iK]
 exact yL h1 h3 h4 h5 h6 xs.length 0 (μ1++[.lst []]) (by omega) (a8 _ _) (by simp)
theorem Dy {μ:Hm}{a:Nat}{xs:List D}(h:μ[a]? = some (.lst xs)):∀ μ' i,μ <+: μ'->dU (.loc a) μ' i=some xs[i]?:=fun μ' i hp=>by
 simp only [dU,jU,bJ,aJ hp h,Sb]
theorem Dz {xs:List D}{μ:Hm}:∀ μ' i,μ <+: μ'->dU (.tup xs) μ' i=some xs[i]?:=fun μ' i hp=>rfl
noncomputable def j7 (lo:Int)(n:Nat):List D:=(SG n).map fun (i:Nat)=>.int (lo+(i:Int))
theorem OA {lo:Int}{n:Nat}{μ:Hm}:∀ μ' i,μ <+: μ'->f9 lo n μ' i=some (j7 lo n)[i]?:=fun μ' i _=>by
 unfold f9 j7
 rw [RR]
 by_cases h:i<n
 ·rw [if_pos h,List.getElem?_range h];rfl
 ·rw [if_neg h,Ts (by simpa using U5.mp h)];rfl
noncomputable abbrev P (x y:Int):D:=.tup [.int x,.int y]
noncomputable abbrev PP (p:Int×Int):D:=P p.1 p.2
theorem DA (n:Nat)(μ:Hm):∀ ps qs:List Int,fH (bZ (n+1) μ) (ps.map D.int) (qs.map D.int)=some (ps == qs)
 | [],[]=>rfl
 | [],_::_=>rfl
 | _::_,[]=>rfl
 | p::ps,q::qs=>by
  rw [RM,RM]
  show (bZ (n+1) μ (.int p) (.int q)).bind (fun b=>(fH (bZ (n+1) μ) (ps.map D.int) (qs.map D.int)).map fun c=>b&&c)=_
  rw [DA n μ ps qs]
  rfl
theorem sX {μ:Hm}{a b:Nat}{xs ys:List D}{Q:D×Hm->Prop}(ha:μ[a]? = some (.lst xs))(hb:μ[b]? = some (.lst ys))(hl:xs.length+ys.length<=RL):W (bK (.loc a) (.loc b) μ) Q↔Q (.loc μ.length,μ++[.lst (xs++ys)]):=by
 simp only [bK,ha,hb,if_pos hl]
 exact W_some
theorem mE {f:D->List D->Hm->Option (D×Hm)}{mo:ME}{ms:MA}{ρ:aH}{μ:Hm}{Q:D×Hm->Prop}(h:W (mo ρ μ) fun p=>nA p.2 p.1=true/\W (ms ρ p.2) fun q=>W (f p.1 q.1 q.2) Q):W (d9 f mo ms ρ μ) Q:=by
 unfold d9
 rw [W_bind]
 refine bQ h fun p q=>?_
 rw [q.1]
 exact W_bind.mpr q.2
theorem mF {μ:Hm}{a:Nat}{xs:List D}(h:μ[a]? = some (.lst xs)):nA μ (.loc a)=true:=by
 simp only [nA,h]
theorem pU {μ:Hm}{a:Nat}{xs:List D}{y:D}{Q:D×Hm->Prop}(h:μ[a]? = some (.lst xs))(hl:xs.length<RL):W (fN (.loc a) [y] μ) Q↔Q (.non,μ.set a (.lst (xs++[y]))):=by
 simp only [fN,yK h hl,Sb]
 exact W_some
theorem DB {μ:Hm}{xs:List D}{Q:D×Hm->Prop}:W (dR [.tup xs,.ty "tuple"] μ) Q↔Q (.bl true,μ):=W_some
theorem OB {μ:Hm}{i:Int}{Q:D×Hm->Prop}:W (dR [.int i,.ty "bool"] μ) Q↔Q (.bl false,μ):=W_some
theorem OC {μ:Hm}{i:Int}{Q:D×Hm->Prop}:W (dR [.int i,.ty "int"] μ) Q↔Q (.bl true,μ):=W_some
theorem OD {μ:Hm}{b:Bool}{Q:D×Hm->Prop}:W (dR [.bl b,.ty "bool"] μ) Q↔Q (.bl true,μ):=W_some
theorem OE {μ:Hm}{b:Str}{Q:D×Hm->Prop}:W (dR [.str b,.ty "str"] μ) Q↔Q (.bl true,μ):=W_some
theorem OF {μ:Hm}{a:Nat}{xs:List D}{Q:D×Hm->Prop}(h:μ[a]? = some (.lst xs)):W (dR [.loc a,.ty "list"] μ) Q↔Q (.bl true,μ):=by
 have:dR [.loc a,.ty "list"] μ=some (.bl true,μ):=by
  simp only [dR,qW,h,R6]
  rfl
 rw [this]
 exact W_some
theorem yM {μ:Hm}{a:Nat}{xs:List D}{Q:D×Hm->Prop}(h:μ[a]? = some (.lst xs)):W (fP [.loc a] μ) Q↔Q (.int xs.length,μ):=by
 simp only [fP,oN,bJ,h,Sb]
 exact W_some
theorem DC {μ:Hm}{xs:List D}{Q:D×Hm->Prop}:W (fP [.rol xs] μ) Q↔Q (.int xs.length,μ):=W_some
theorem j8 {μ:Hm}{a:Nat}{xs:List D}{Q:List D->Prop}(h:μ[a]? = some (.lst xs)):W (jU μ (.loc a)) Q↔Q xs:=by
 simp only [jU,bJ,h]
 exact W_some
theorem w_seqT {μ:Hm}{xs:List D}{Q:List D->Prop}:W (jU μ (.tup xs)) Q↔Q xs:=W_some
theorem bP (μ:Hm)(c:C):(μ++[c])[μ.length]? = some c:=by simp
end L3
namespace L3
open PySem L2
theorem DD {f g:D->D->Hm->Option (D×Hm)}{a b c:ME}{ρ:aH}{μ:Hm} {Q}:W (iY f g a b c ρ μ) Q↔W (a ρ μ) fun p=>W (b ρ p.2) fun q=>W (f p.1 q.1 q.2) fun r=>match r.1 with|.bl k=>if k=true then W (c ρ r.2) fun t=>W (g q.1 t.1 t.2) Q else Q (.bl false,r.2)|_=>False:=by
 unfold iY
 simp only [W_bind]
 constructor<;>exact fun h=>bQ h fun p q=>bQ q fun q1 h1=>bQ h1 fun r h2=>by
  obtain ⟨d,μ⟩:=r
  cases d with
  | bl k=>cases k<;>simpa [W_some,W_bind] using h2
  | _=>simpa [W_none] using h2
section
variable {i j:Int}{μ:Hm}{Q:D×Hm->Prop}
theorem OG:W (wD [.int i,.int j] μ) Q↔Q (.int (max i j),μ):=by
 have:(if j>i then j else i)=max i j:=by split<;>omega
 show W (some (D.int (if j>i then j else i),μ)) Q↔_
 rw [this]
 exact W_some
end
theorem DE {a:ME}{lo hi st:MO}{ρ:aH}{μ:Hm}{Q:D×Hm->Prop}(h:W (a ρ μ) fun p=>∃ l,p.1=.loc l/\W (lo ρ p.2) fun q=>W (hi ρ q.2) fun r=>W (st ρ r.2) fun t=>t.1≠some 0/\∃ xs,t.2[l]? = some (.lst xs)/\(cS xs q.1 r.1 t.1).length<=RL/\Q (.loc t.2.length,t.2++[.lst (cS xs q.1 r.1 t.1)])):W (nF a lo hi st ρ μ) Q:=by
 unfold nF
 rw [W_bind]
 refine bQ h fun p q=>?_
 obtain ⟨d,μ1⟩:=p
 obtain ⟨l,q1,q2⟩:=q
 dsimp only at q1 q2 ⊢
 subst q1
 rw [W_bind]
 refine bQ q2 fun s q=>?_
 rw [W_bind]
 refine bQ q fun r q=>?_
 rw [W_bind]
 refine bQ q fun t q=>?_
 obtain ⟨h0,xs,q3,q4,q5⟩:=q
 rw [if_pos h0]
 simp only [dO,q3,R6]
 rw [if_pos q4]
 exact W_some.mpr q5
theorem DF {ms:MA}{ρ:aH}{μ:Hm}{Q:gG×Nat×Hm->Prop}(h:W (ms ρ μ) fun p=>∃ a xs,p.1=[.loc a]/\p.2[a]? = some (.lst xs)/\Q (lV (.loc a),xs.length+1,p.2)):W (lW ms ρ μ) Q:=by
 unfold lW
 rw [W_bind]
 refine bQ h fun p q=>?_
 obtain ⟨l,μ1⟩:=p
 obtain ⟨a,xs,q1,q2,q3⟩:=q
 dsimp only at q1 q2 q3 ⊢
 subst q1
 dsimp only
 simp only [dO,q2,Sb]
 exact W_some.mpr q3
theorem OH {a:Nat}{xs:List D}{g:MG}{b:MS}{ρ:aH}{μ:Hm}{Q:Fl×aH×Hm->Prop}(I:Nat->aH->Hm->Prop)(h0:I 0 ρ μ)(hl:∀ i ρ μ,I i ρ μ->μ[a]? = some (.lst xs))
  (go:∀ (i:Nat) d ρ μ,xs[i]? = some d->I i ρ μ->∃ ρ1,g (.tup [.int i,d]) ρ μ=some ρ1/\W (b ρ1 μ) fun p=>match p.1 with|.nx=>I (i+1) p.2.1 p.2.2|.ct=>I (i+1) p.2.1 p.2.2|.bk=>Q (.nx,p.2.1,p.2.2)|.rt d=>Q (.rt d,p.2.1,p.2.2))
  (stop:∀ ρ μ,I xs.length ρ μ->Q (.nx,ρ,μ)):W (dS (lV (.loc a)) g b (xs.length+1) 0 ρ μ) Q:=by
 refine kY (N:=xs.length) I (fun i ρ μ hi hI=>?_) (fun ρ μ hI=>⟨?_,stop ρ μ hI⟩) xs.length 0 ρ μ (by omega) h0
 ·have e:xs[i]? = some xs[i]:=RN hi
  obtain ⟨ρ1,h1,h2⟩:=go i xs[i] ρ μ e hI
  refine ⟨_,ρ1,?_,h1,h2⟩
  simp only [lV,bJ,hl i ρ μ hI,Sb,e]
 ·simp only [lV,bJ,hl _ ρ μ hI,Sb]
  simp
theorem yN {src:gG}{bd:BD}{c:MT}{e:ME}{ρ:aH}{a N:Nat}{Q:Hm->Prop}(I:Nat->List D->Hm->Prop)(hN:N<=RL)(hlen:∀ i ys μ,I i ys μ->ys.length<=i)
  (go:∀ i ys μ,i<N->I i ys μ->μ[a]? = some (.lst ys)->∃ d x,src μ i=some (some d)/\bd d μ=some x/\W (c (ρ++x) μ) fun r=>(r.1=false->r.2[a]? = some (.lst ys)/\I (i+1) ys r.2) /\
   (r.1=true->W (e (ρ++x) r.2) fun s=>s.2[a]? = some (.lst ys)/\I (i+1) (ys++[s.1]) (s.2.set a (.lst (ys++[s.1])))))
  (stop:∀ ys μ,I N ys μ->μ[a]? = some (.lst ys)->src μ N=some none/\Q μ):∀ (m i:Nat)(ys:List D)(μ:Hm),i+m=N->I i ys μ->μ[a]? = some (.lst ys)->W (gA src bd c e ρ a (m+1) i μ) Q
 | 0,i,ys,μ,h,hI,hg=>by
  have:i=N:=by omega
  subst this
  obtain ⟨h1,h2⟩:=stop ys μ hI hg
  unfold gA
  rw [h1]
  exact W_some.mpr h2
 | m+1,i,ys,μ,h,hI,hg=>by
  obtain ⟨d,x,h1,h2,h3⟩:=go i ys μ (by omega) hI hg
  unfold gA
  rw [h1]
  simp only [R6,h2]
  rw [W_bind]
  refine bQ h3 fun r q=>?_
  obtain ⟨b,μ1⟩:=r
  cases b with
  | false=>
   obtain ⟨q1,q2⟩:=q.1 rfl
   exact yN I hN hlen go stop m (i+1) ys μ1 (by omega) q2 q1
  | true=>
   dsimp only
   rw [W_bind]
   refine bQ (q.2 rfl) fun s q=>?_
   obtain ⟨y,μ2⟩:=s
   obtain ⟨q1,q2⟩:=q
   dsimp only at q1 q2 ⊢
   have hl:=hlen i ys μ hI
   rw [yK q1 (by omega),R6]
   refine yN I hN hlen go stop m (i+1) _ _ (by omega) q2 ?_
   rw [SA (Rw.mp q1).1]
theorem OI {src:gG}{bd:BD}{c:MT}{e:ME}{ρ:aH}{μ0:Hm}{xs:List D}{x:D->aH}{p:D->Bool}{v:D->D}{Q:Hm->Prop}(hs:∀ μ i,μ0 <+: μ->src μ i=some xs[i]?)(hl:xs.length<=RL)(hb:∀ d μ,d∈xs->bd d μ=some (x d))
  (hc:∀ d μ,d∈xs->μ0 <+: μ->W (c (ρ++x d) μ) fun r=>r.1=p d/\μ <+: r.2)
  (he:∀ d μ,d∈xs->p d=true->μ0 <+: μ->W (e (ρ++x d) μ) fun r=>r.1=v d/\μ <+: r.2)
  (fin:∀ μ,μ0 <+: μ->μ[μ0.length]? = some (.lst ((xs.filter p).map v))->Q μ):W (gA src bd c e ρ μ0.length (xs.length+1) 0 (μ0++[.lst []])) Q:=by
 refine yN (N:=xs.length) (fun i ys μ=>ys=((xs.take i).filter p).map v/\μ0 <+: μ) hl ?_ ?_ ?_ xs.length 0 [] _ (by omega) ⟨by simp,a8 _ _⟩ (by simp)
 ·rintro i ys μ ⟨rfl,_⟩
  rw [Ro]
  refine SQ (SY _ _) ?_
  rw [SJ];omega
 ·rintro i ys μ hi ⟨rfl,hp⟩ hg
  have hx:xs[i]? = some xs[i]:=RN hi
  have hmem:xs[i]∈xs:=VF hi
  have htake:xs.take (i+1)=xs.take i++[xs[i]]:=by rw [a0t,hx];rfl
  refine ⟨xs[i],x xs[i],by rw [hs μ i hp,hx],hb _ _ hmem,bQ (hc _ μ hmem hp) fun r q=>?_⟩
  obtain ⟨b,μ1⟩:=r
  obtain ⟨q1,q2⟩:=q
  dsimp only at q1 q2 ⊢
  refine ⟨fun hb'=>⟨aJ q2 hg,?_,hp.trans q2⟩,fun hb'=>?_⟩
  ·rw [htake,Td]
   rw [hb'] at q1
   simp [<- q1]
  ·rw [hb'] at q1
   refine bQ (he _ μ1 hmem q1.symm (hp.trans q2)) fun s q=>?_
   obtain ⟨y,μ2⟩:=s
   obtain ⟨q3,q4⟩:=q
   dsimp only at q3 q4 ⊢
   subst q3
   refine ⟨aJ (q2.trans q4) hg,?_,cT ((hp.trans q2).trans q4) (RD _) _⟩
   rw [htake,Td,Se]
   simp [<- q1]
 ·rintro ys μ ⟨rfl,hp⟩ hg
  refine ⟨by rw [hs μ _ hp];simp,fin μ hp ?_⟩
  rw [Tu] at hg
  exact hg
theorem OJ {bd:BD}{it:MI}{c:MT}{e:ME}{ρ:aH}{μ:Hm}{xs:List D}{x:D->aH}{p:D->Bool}{v:D->D}{Q:D×Hm->Prop}
  (hit:W (it ρ μ) fun r=>(∀ μ' i,r.2.2 <+: μ'->r.1 μ' i=some xs[i]?)/\r.2.1=xs.length+1/\xs.length<=RL/\(∀ d μ',d∈xs->bd d μ'=some (x d)) /\
   (∀ d μ',d∈xs->r.2.2 <+: μ'->W (c (ρ++x d) μ') fun s=>s.1=p d/\μ' <+: s.2)/\(∀ d μ',d∈xs->p d=true->r.2.2 <+: μ'->W (e (ρ++x d) μ') fun s=>s.1=v d/\μ' <+: s.2) /\
   ∀ μ',r.2.2 <+: μ'->μ'[r.2.2.length]? = some (.lst ((xs.filter p).map v))->Q (.loc r.2.2.length,μ')):W (jV bd it c e ρ μ) Q:=by
 unfold jV
 rw [W_bind]
 refine bQ hit fun r q=>?_
 obtain ⟨src,n,μ1⟩:=r
 obtain ⟨h1,h2,h3,h4,h5,h6,h7⟩:=q
 dsimp only at h1 h2 h3 h4 h5 h6 h7 ⊢
 subst h2
 rw [iK]
 exact OI h1 h3 h4 h5 h6 h7
theorem w_mTrue {ρ:aH}{μ:Hm}{Q:Bool×Hm->Prop}:W (lI ρ μ) Q↔Q (true,μ):=W_some
theorem iA {o i v:ME}{ρ:aH}{μ:Hm} {Q}:W (cB o i v ρ μ) Q↔W (v ρ μ) fun p=>W (o ρ p.2) fun q=>W (i ρ q.2) fun r=>W (jZ q.1 r.1 p.1 r.2) fun μ'=>Q (.nx,ρ,μ'):=by
 unfold cB lX
 simp only [W_bind,iK]
theorem OK {μ:Hm}{a:Nat}{xs:List D}{i:Int}{j:Nat}{d:D}{Q:Hm->Prop}(h:μ[a]? = some (.lst xs))(hi:fV xs.length i=some j):W (jZ (.loc a) (.int i) d μ) Q↔Q (μ.set a (.lst (xs.set j d))):=by
 simp only [jZ,nG,h,hi,Sb]
 exact W_some
theorem OL {ms:MA}{ρ:aH}{μ:Hm}{Q:gG×Nat×Hm->Prop}(h:W (ms ρ μ) fun p=>∃ b xs ys,p.1=[.tup xs,.loc b]/\p.2[b]? = some (.lst ys)/\Q (l6 (.tup xs) (.loc b),min xs.length ys.length+1,p.2)):W (o8 ms ρ μ) Q:=by
 unfold o8
 rw [W_bind]
 refine bQ h fun p q=>?_
 obtain ⟨b,xs,ys,e,hb,q⟩:=q
 rw [e]
 simp only [dO,hb,Sb]
 exact W_some.mpr q
section
variable {μ:Hm}{a:Nat}{kvs:List (List Int×D)}{k:List Int}{d y:D}{ρ:aH}{Q:D×Hm->Prop}
theorem jD:W (gM ρ μ) Q↔Q (.loc μ.length,μ++[.dT []]):=W_some
theorem OM {neg:Bool}(h:μ[a]? = some (.dT kvs))(hk:dG y=some k):W (cX neg y (.loc a) μ) Q↔Q (.bl (if neg then !(bO kvs k).isSome else (bO kvs k).isSome),μ):=by
 have:cX neg y (.loc a) μ=some (.bl (if neg then !(bO kvs k).isSome else (bO kvs k).isSome),μ):=by
  simp only [cX,h,hk,Sb]
 rw [this]
 exact W_some
theorem iM {Q:Hm->Prop}(h:μ[a]? = some (.dT kvs))(hk:dG y=some k)(hl:kvs.length<RL):W (jZ (.loc a) y d μ) Q↔Q (μ.set a (.dT (dC kvs k d))):=by
 simp only [jZ,oU,h,hk,R6,if_pos hl]
 exact W_some
theorem ON {xs:List D}(h:μ[a]? = some (.lst xs)):W (nP [.loc a] μ) Q↔Q (.loc μ.length,μ++[.lst xs]):=by
 simp only [nP,h,oP,bJ,Sb]
 exact W_some
end
theorem DG {μ:Hm}{a:Nat}{xs:List D}{Q:D×Hm->Prop}(h:μ[a]? = some (.lst xs)):W (iH [.loc a] μ) Q↔Q (.loc μ.length,μ++[.lst xs.reverse]):=by
 simp only [iH,h]
 exact W_some
end L3
namespace Lw
open PySem L2 L3
noncomputable def ds:List (Str×Stmt):=(("is_whole",aO 7)::("is_place",aO 8)::("is_edge",aO 9)::("is_quarter",aO 10)::("beside",aO 11)::("sides_of",aO 12)::("is_size",aO 15)::("check_size",aO 16)::("is_mark",aO 17)::("is_within",aO 18)::("is_inner_edge",aO 19)::("sheet_of",aO 20)::("is_turned",aO 22)::("heights_in",aO 24)::("is_above",aO 25)::("turned_first",aO 26)::("mark_by_heights",aO 27)::("marks_by",aO 28)::("keeps",aO 29)::("_law_given",aO 31)::("_law_number",aO 32)::("_law_quarters",aO 33)::("_law_rims",aO 34)::("_law_beside",aO 35)::("_law_value",aO 36)::("_law_mirror",aO 37)::("_law_led",aO 38)::("_law_then",aO 39)::("_law_fold",aO 40)::("_law_grown",aO 41)::("_law_creased",aO 42)::("_law_ranks",aO 43)::("_law_marks",aO 44)::("_law_some_turned",aO 45)::("_law_handed",aO 46)::("_law_in_turn",aO 47)::("_law_told",aO 48)::("law",aO 49)::[])
noncomputable def yO:D:=(.tup [(.str "h"),(.str "v"),(.str "o")])
noncomputable def S:Sig:=⟨(("is_whole",1)::("is_place",1)::("is_edge",1)::("is_quarter",1)::("beside",1)::("sides_of",1)::("is_size",1)::("check_size",2)::("is_mark",1)::("is_within",3)::("is_inner_edge",3)::("sheet_of",3)::("is_turned",1)::("heights_in",1)::("is_above",3)::("turned_first",2)::("mark_by_heights",3)::("marks_by",3)::("keeps",3)::("_law_given",2)::("_law_number",2)::("_law_quarters",2)::("_law_rims",2)::("_law_beside",1)::("_law_value",2)::("_law_mirror",2)::("_law_led",2)::("_law_then",2)::("_law_fold",6)::("_law_grown",5)::("_law_creased",3)::("_law_ranks",1)::("_law_marks",4)::("_law_some_turned",2)::("_law_handed",2)::("_law_in_turn",2)::("_law_told",2)::("law",1)::[]),[("MARKS",yO)],[],["bool","enumerate","int","isinstance","len","list","max","range","reversed","sorted","str","tuple","zip"],["_law_heaps","_law_ways","_law_gone","piles"],[],["_law_heaps","_law_some"]⟩
@[irreducible] noncomputable def f (k:Nat)(x:Str):MF:=jA S ds k x
end Lw
namespace Lw
open PySem L2 L3
theorem OO (k:Nat)(d0:D)(μ:Hm):f (k+1) "is_whole" [d0] μ=fin ((bE (eJ (aK dR (aC (aA 0) (aC (mC (.ty "int")) aD))) (mR (aK dR (aC (aA 0) (aC (mC (.ty "bool")) aD)))))) [some d0] μ):=by
 kernel_rfl
theorem OP (k:Nat)(d0:D)(μ:Hm):f (k+1) "is_place" [d0] μ=fin ((bE (eJ (aK dR (aC (aA 0) (aC (mC (.ty "tuple")) aD))) (eJ (aB (aW false) (aK fP (aC (aA 0) aD)) (mC (.int 2))) (eJ (aK (f k "is_whole") (aC (aB aL (aA 0) (mC (.int 0))) aD)) (aK (f k "is_whole") (aC (aB aL (aA 0) (mC (.int 1))) aD)))))) [some d0] μ):=by
 kernel_rfl
theorem OQ (k:Nat)(d0:D)(μ:Hm):f (k+1) "is_edge" [d0] μ=fin ((aG (bS (bD (aB (aW false) (aB bH (aB aL (aA 0) (mC (.int 0))) (mC (.int 2))) (mC (.int 1)))) (bE (aB (aW false) (aB bH (aB aL (aA 0) (mC (.int 1))) (mC (.int 2))) (mC (.int 1)))) bY) (bE (eJ (aB (aW false) (aB bH (aB aL (aA 0) (mC (.int 1))) (mC (.int 2))) (mC (.int 0))) (aB (aW true) (aB bH (aB aL (aA 0) (mC (.int 0))) (mC (.int 4))) (aB bH (aB aL (aA 0) (mC (.int 1))) (mC (.int 4))))))) [some d0] μ):=by
 kernel_rfl
theorem OR (k:Nat)(d0:D)(μ:Hm):f (k+1) "is_quarter" [d0] μ=fin ((aG (bS (bD (aB (aW false) (aB bH (aB aL (aA 0) (mC (.int 0))) (mC (.int 2))) (mC (.int 1)))) (bE (aB (aW false) (aB bH (aB aL (aA 0) (mC (.int 1))) (mC (.int 4))) (mC (.int 2)))) bY) (bE (eJ (aB (aW false) (aB bH (aB aL (aA 0) (mC (.int 0))) (mC (.int 4))) (mC (.int 2))) (aB (aW false) (aB bH (aB aL (aA 0) (mC (.int 1))) (mC (.int 2))) (mC (.int 1)))))) [some d0] μ):=by
 kernel_rfl
theorem OS (k:Nat)(d0:D)(μ:Hm):f (k+1) "beside" [d0] μ=fin ((aG (aZ 1 (aB aL (aA 0) (mC (.int 0)))) (aG (aZ 2 (aB aL (aA 0) (mC (.int 1)))) (bE (cK (aC (bV (aC (aB fI (aA 1) (mC (.int 1))) (aC (aA 2) aD))) (aC (bV (aC (aA 1) (aC (aB fI (aA 2) (mC (.int 1))) aD))) (aC (bV (aC (aA 1) (aC (aB bK (aA 2) (mC (.int 1))) aD))) (aC (bV (aC (aB bK (aA 1) (mC (.int 1))) (aC (aA 2) aD))) aD)))))))) [some d0,none,none] μ):=by
 kernel_rfl
theorem OT (k:Nat)(d0:D)(μ:Hm):f (k+1) "sides_of" [d0] μ=fin ((bE (kD (dJ (aK (f k "beside") (aC (aA 0) aD))) (dN (aK (f k "is_quarter") (aC (aA 1) aD))) (aA 1))) [some d0] μ):=by
 kernel_rfl
theorem OU (k:Nat)(d0:D)(μ:Hm):f (k+1) "is_size" [d0] μ=fin ((bE (eJ (aK (f k "is_whole") (aC (aA 0) aD)) (iY mX mX (mC (.int 1)) (aA 0) (mC (.int 6))))) [some d0] μ):=by
 kernel_rfl
theorem OV (k:Nat)(d0 d1:D)(μ:Hm):f (k+1) "check_size" [d0,d1] μ=fin ((bS (iG (iF (dN (aK (f k "is_size") (aC (aA 0) aD))) (dN (aK (f k "is_size") (aC (aA 1) aD))))) dM bY) [some d0,some d1] μ):=by
 kernel_rfl
theorem OW (k:Nat)(d0:D)(μ:Hm):f (k+1) "is_mark" [d0] μ=fin ((bE (eJ (aK dR (aC (aA 0) (aC (mC (.ty "str")) aD))) (aB (cX false) (aA 0) (mC yO)))) [some d0] μ):=by
 kernel_rfl
theorem OX (k:Nat)(d0 d1 d2:D)(μ:Hm):f (k+1) "is_within" [d0,d1,d2] μ=fin ((bE (eJ (iY hG hG (mC (.int 0)) (aB aL (aA 2) (mC (.int 0))) (aB bT (mC (.int 4)) (aA 0))) (iY hG hG (mC (.int 0)) (aB aL (aA 2) (mC (.int 1))) (aB bT (mC (.int 4)) (aA 1))))) [some d0,some d1,some d2] μ):=by
 kernel_rfl
theorem OY (k:Nat)(d0 d1 d2:D)(μ:Hm):f (k+1) "is_inner_edge" [d0,d1,d2] μ=fin ((bE (eJ (aK (f k "is_place") (aC (aA 2) aD)) (eJ (aK (f k "is_within") (aC (aA 0) (aC (aA 1) (aC (aA 2) aD)))) (aK (f k "is_edge") (aC (aA 2) aD))))) [some d0,some d1,some d2] μ):=by
 kernel_rfl
theorem OZ (k:Nat)(d0 d1 d2:D)(μ:Hm):f (k+1) "sheet_of" [d0,d1,d2] μ=fin ((aG (eV (aK (f k "check_size") (aC (aA 0) (aC (aA 1) aD)))) (aG (aZ 3 gM) (aG (bX (dJ (aA 2)) (cA 4) (aG (aZ 5 (aB aL (aA 4) (mC (.int 0)))) (aG (bS (iG (dN (aK (f k "is_inner_edge") (aC (aA 0) (aC (aA 1) (aC (aA 5) aD)))))) dM bY) (aG (bS (iG (dN (aK (f k "is_mark") (aC (aB aL (aA 4) (mC (.int 1))) aD)))) dM bY) (aG (bS (bD (aB (cX false) (aA 5) (aA 3))) dM bY) (cB (aA 3) (aA 5) (aB aL (aA 4) (mC (.int 1))))))))) (bE (bV (aC (aA 0) (aC (aA 1) (aC (o7 (aA 3)) aD)))))))) [some d0,some d1,some d2,none,none,none] μ):=by
 kernel_rfl
theorem O0 (k:Nat)(d0:D)(μ:Hm):f (k+1) "is_turned" [d0] μ=fin ((bE (aB (aW false) (aB fI (aB bT (aB aL (aA 0) (mC (.int 0))) (aB aL (aA 0) (mC (.int 3)))) (aB bT (aB aL (aA 0) (mC (.int 1))) (aB aL (aA 0) (mC (.int 2))))) (iU (mC (.int 1))))) [some d0] μ):=by
 kernel_rfl
theorem O1 (k:Nat)(d0:D)(μ:Hm):f (k+1) "heights_in" [d0] μ=fin ((aG (aZ 1 gM) (aG (dW 0 (bX (nM (aA 0)) (cA 2) (bX (lW (aC (aA 2) aD)) (cL [3,4]) (cB (aA 1) (aA 4) (aA 3)))) dM) (bE (aA 1)))) [some d0,none,none,none,none] μ):=by
 kernel_rfl
theorem O2 (k:Nat)(d0 d1 d2:D)(μ:Hm):f (k+1) "is_above" [d0,d1,d2] μ=fin ((bE (aB fK (aB aL (aA 0) (aA 1)) (aB aL (aA 0) (aA 2)))) [some d0,some d1,some d2] μ):=by
 kernel_rfl
theorem O3 (k:Nat)(d0 d1:D)(μ:Hm):f (k+1) "turned_first" [d0,d1] μ=fin ((aG (aZ 2 (aK (f k "sides_of") (aC (aA 1) aD))) (aG (bS (dN (aK (f k "is_turned") (aC (aB aL (aA 0) (aB aL (aA 2) (mC (.int 0)))) aD))) (bE (aA 2)) bY) (bE (cK (aC (aB aL (aA 2) (mC (.int 1))) (aC (aB aL (aA 2) (mC (.int 0))) aD)))))) [some d0,some d1,none] μ):=by
 kernel_rfl
theorem O4 (k:Nat)(d0 d1 d2:D)(μ:Hm):f (k+1) "mark_by_heights" [d0,d1,d2] μ=fin ((aG (aZ 3 (aK (f k "turned_first") (aC (aA 1) (aC (aA 2) aD)))) (bE (fY (dN (aK (f k "is_above") (aC (aA 0) (aC (aB aL (aA 3) (mC (.int 0))) (aC (aB aL (aA 3) (mC (.int 1))) aD))))) (mC (.str "v")) (mC (.str "h"))))) [some d0,some d1,some d2,none] μ):=by
 kernel_rfl
theorem O5 (k:Nat)(d0 d1 d2:D)(μ:Hm):f (k+1) "marks_by" [d0,d1,d2] μ=fin ((aG (aZ 3 (aK (f k "heights_in") (aC (aA 2) aD))) (bE (jV (uX 2) (dJ (aB aL (aA 0) (mC (.int 2)))) lI (bV (aC (aA 4) (aC (aK (f k "mark_by_heights") (aC (aA 3) (aC (aA 1) (aC (aA 4) aD)))) aD)))))) [some d0,some d1,some d2,none] μ):=by
 kernel_rfl
theorem O6 (k:Nat)(d0 d1 d2:D)(μ:Hm):f (k+1) "keeps" [d0,d1,d2] μ=fin ((aG (bX (o8 (aC (aB aL (aA 0) (mC (.int 2))) (aC (aK (f k "marks_by") (aC (aA 0) (aC (aA 1) (aC (aA 2) aD)))) aD))) (cL [3,4]) (bS (iF (bD (aB (aW true) (aB aL (aA 3) (mC (.int 1))) (mC (.str "o")))) (bD (aB (aW true) (aB aL (aA 3) (mC (.int 1))) (aB aL (aA 4) (mC (.int 1)))))) (bE (mC (.bl false))) bY)) (bE (mC (.bl true)))) [some d0,some d1,some d2,none,none] μ):=by
 kernel_rfl
theorem O7 (k:Nat)(d0 d1:D)(μ:Hm):f (k+1) "_law_given" [d0,d1] μ=fin ((aG (bS (bD (aB hG (aA 1) (aK fP (aC (aA 0) aD)))) (bE (aB aL (aA 0) (aA 1))) bY) (aG (aZ 2 (aB bT (aB bT (aB bK (aA 1) (mC (.int 3))) (aB bK (aA 1) (mC (.int 3)))) (mC (.int 48271)))) (bE (fY (bD (aB (aW false) (aA 0) (cK aD))) (aA 2) (aB bK (aA 2) (aB bT (aB aL (aA 0) (aB bH (aA 1) (aK fP (aC (aA 0) aD)))) (aB bK (aA 1) (mC (.int 5))))))))) [some d0,some d1,none] μ):=by
 kernel_rfl
theorem O8 (k:Nat)(d0 d1:D)(μ:Hm):f (k+1) "_law_number" [d0,d1] μ=fin ((aG (aZ 2 (aB bK (aB bK (aB bH (aK (f k "_law_given") (aC (aA 0) (aC (aA 1) aD))) (mC (.int 1000003))) (aB bT (mC (.int 7)) (aA 1))) (mC (.int 3)))) (bE (aB bH (aB bT (aB bT (aA 2) (aA 2)) (mC (.int 48271))) (mC (.int 2147483647))))) [some d0,some d1,none] μ):=by
 kernel_rfl
theorem O9 (k:Nat)(d0 d1:D)(μ:Hm):f (k+1) "_law_quarters" [d0,d1] μ=fin ((aG (aZ 2 (cK aD)) (aG (bX (kC (aC (mC (.int 1)) (aC (aB bT (mC (.int 4)) (aA 0)) aD))) (cA 3) (bX (kC (aC (mC (.int 1)) (aC (aB bT (mC (.int 4)) (aA 1)) aD))) (cA 4) (bS (iT (iF (bD (aB (aW false) (aB bH (aA 3) (mC (.int 4))) (mC (.int 2)))) (bD (aB (aW false) (aB bH (aA 4) (mC (.int 2))) (mC (.int 1))))) (iF (bD (aB (aW false) (aB bH (aA 4) (mC (.int 4))) (mC (.int 2)))) (bD (aB (aW false) (aB bH (aA 3) (mC (.int 2))) (mC (.int 1)))))) (eV (d9 fN (aA 2) (aC (bV (aC (aA 3) (aC (aA 4) aD))) aD))) bY))) (bE (aA 2)))) [some d0,some d1,none,none,none] μ):=by
 kernel_rfl
theorem Pa (k:Nat)(d0 d1:D)(μ:Hm):f (k+1) "_law_rims" [d0,d1] μ=fin ((aG (aZ 2 (cK aD)) (aG (bX (kC (aC (mC (.int 1)) (aC (aB bT (mC (.int 4)) (aA 0)) aD))) (cA 3) (bX (kC (aC (mC (.int 1)) (aC (aB bT (mC (.int 4)) (aA 1)) aD))) (cA 4) (bS (iF (bD (aB (aW false) (aB bH (aA 3) (mC (.int 2))) (aB bH (aA 4) (mC (.int 2))))) (iT (bD (aB (aW false) (aB bH (aA 3) (mC (.int 2))) (mC (.int 1)))) (bD (aB (aW true) (aB bH (aA 3) (mC (.int 4))) (aB bH (aA 4) (mC (.int 4))))))) (eV (d9 fN (aA 2) (aC (bV (aC (aA 3) (aC (aA 4) aD))) aD))) bY))) (bE (aA 2)))) [some d0,some d1,none,none,none] μ):=by
 kernel_rfl
theorem Pb (k:Nat)(d0:D)(μ:Hm):f (k+1) "_law_beside" [d0] μ=fin ((aG (eK (aA 0) (cL [1,2])) (aG (bS (bD (aB (aW false) (aB bH (aA 1) (mC (.int 2))) (mC (.int 1)))) (bE (cK (aC (bV (aC (aA 1) (aC (aB fI (aB bK (aA 2) (mC (.int 2))) (aB bH (aA 2) (mC (.int 4)))) aD))) (aC (bV (aC (aB fI (aB bK (aA 1) (mC (.int 2))) (aB bH (aA 1) (mC (.int 4)))) (aC (aA 2) aD))) aD)))) bY) (aG (bS (bD (aB (aW false) (aB bH (aA 2) (mC (.int 4))) (mC (.int 0)))) (bE (cK (aC (bV (aC (aA 1) (aC (aB fI (aA 2) (mC (.int 1))) aD))) (aC (bV (aC (aA 1) (aC (aB bK (aA 2) (mC (.int 1))) aD))) aD)))) bY) (bE (cK (aC (bV (aC (aB fI (aA 1) (mC (.int 1))) (aC (aA 2) aD))) (aC (bV (aC (aB bK (aA 1) (mC (.int 1))) (aC (aA 2) aD))) aD))))))) [some d0,none,none] μ):=by
 kernel_rfl
theorem Pc (k:Nat)(d0 d1:D)(μ:Hm):f (k+1) "_law_value" [d0,d1] μ=fin ((aG (eK (aA 0) (cL [2,3])) (bE (aB aL (cK (aC (aA 3) (aC (aA 2) (aC (aB fI (aA 2) (aA 3)) (aC (aB bK (aA 2) (aA 3)) aD))))) (aA 1)))) [some d0,some d1,none,none] μ):=by
 kernel_rfl
theorem Pd (k:Nat)(d0 d1:D)(μ:Hm):f (k+1) "_law_mirror" [d0,d1] μ=fin ((aG (aZ 2 (cK (aC (bV (aC (mC (.int 1)) (aC (mC (.int 0)) (aC (mC (.int 0)) (aC (iU (mC (.int 1))) (aC (mC (.int 0)) (aC (aB bT (mC (.int 2)) (aA 1)) aD))))))) (aC (bV (aC (iU (mC (.int 1))) (aC (mC (.int 0)) (aC (mC (.int 0)) (aC (mC (.int 1)) (aC (aB bT (mC (.int 2)) (aA 1)) (aC (mC (.int 0)) aD))))))) aD)))) (bE (aB aL (aB bK (aA 2) (cK (aC (bV (aC (mC (.int 0)) (aC (mC (.int 1)) (aC (mC (.int 1)) (aC (mC (.int 0)) (aC (aA 1) (aC (iU (aA 1)) aD))))))) (aC (bV (aC (mC (.int 0)) (aC (iU (mC (.int 1))) (aC (iU (mC (.int 1))) (aC (mC (.int 0)) (aC (aA 1) (aC (aA 1) aD))))))) aD)))) (aA 0)))) [some d0,some d1,none] μ):=by
 kernel_rfl
theorem Pe (k:Nat)(d0 d1:D)(μ:Hm):f (k+1) "_law_led" [d0,d1] μ=fin ((aG (eK (aA 0) (cL [2,3,4,5,6,7])) (aG (eK (aA 1) (cL [8,9])) (bE (bV (aC (aB bK (aB bK (aB bT (aA 2) (aA 8)) (aB bT (aA 3) (aA 9))) (aA 6)) (aC (aB bK (aB bK (aB bT (aA 4) (aA 8)) (aB bT (aA 5) (aA 9))) (aA 7)) aD)))))) [some d0,some d1,none,none,none,none,none,none,none,none] μ):=by
 kernel_rfl
theorem Pf (k:Nat)(d0 d1:D)(μ:Hm):f (k+1) "_law_then" [d0,d1] μ=fin ((aG (eK (aA 0) (cL [2,3,4,5,6,7])) (aG (eK (aA 1) (cL [8,9,10,11,12,13])) (aG (aZ 14 (bV (aC (aB bK (aB bT (aA 8) (aA 2)) (aB bT (aA 9) (aA 4))) (aC (aB bK (aB bT (aA 8) (aA 3)) (aB bT (aA 9) (aA 5))) (aC (aB bK (aB bT (aA 10) (aA 2)) (aB bT (aA 11) (aA 4))) (aC (aB bK (aB bT (aA 10) (aA 3)) (aB bT (aA 11) (aA 5))) aD)))))) (bE (aB bK (aA 14) (bV (aC (aB bK (aB bK (aB bT (aA 8) (aA 6)) (aB bT (aA 9) (aA 7))) (aA 12)) (aC (aB bK (aB bK (aB bT (aA 10) (aA 6)) (aB bT (aA 11) (aA 7))) (aA 13)) aD)))))))) [some d0,some d1,none,none,none,none,none,none,none,none,none,none,none,none,none] μ):=by
 kernel_rfl
theorem Pg (k:Nat)(d0 d1 d2 d3 d4 d5:D)(μ:Hm):f (k+1) "_law_fold" [d0,d1,d2,d3,d4,d5] μ=fin ((aG (dW 1 (aZ 7 (kD (eA (aA 1)) lI (aB (aW false) (aB fK (aK (f k "_law_value") (aC (aA 14) (aC (aA 2) aD))) (aA 3)) (aA 4)))) (aZ 7 (kD (dJ (aA 1)) lI (aB (aW false) (aB fK (aK (f k "_law_value") (aC (aA 14) (aC (aA 2) aD))) (aA 3)) (aA 4))))) (aG (bS (iT (bD (aB (cX true) (mC (.bl true)) (aA 7))) (bD (aB (cX true) (mC (.bl false)) (aA 7)))) (bE (bV (aC (aA 0) (aC (aA 1) aD)))) bY) (aG (aZ 8 (aK (f k "_law_mirror") (aC (aA 2) (aC (aA 3) aD)))) (aG (aZ 9 gM) (aG (dW 0 (bX (eA (aA 0)) (cA 10) (aG (cB (aA 9) (aA 10) (aB aL (aA 0) (aA 10))) (bS (bD (aB (aW false) (aB fK (aK (f k "_law_value") (aC (aK (f k "_law_led") (aC (aB aL (aA 0) (aA 10)) (aC (aA 10) aD))) (aC (aA 2) aD))) (aA 3)) (aA 4))) (cB (aA 9) (aA 10) (aK (f k "_law_then") (aC (aB aL (aA 0) (aA 10)) (aC (aA 8) aD)))) bY))) (bX (dJ (aA 0)) (cA 10) (aG (cB (aA 9) (aA 10) (aB aL (aA 0) (aA 10))) (bS (bD (aB (aW false) (aB fK (aK (f k "_law_value") (aC (aK (f k "_law_led") (aC (aB aL (aA 0) (aA 10)) (aC (aA 10) aD))) (aC (aA 2) aD))) (aA 3)) (aA 4))) (cB (aA 9) (aA 10) (aK (f k "_law_then") (aC (aB aL (aA 0) (aA 10)) (aC (aA 8) aD)))) bY)))) (aG (aZ 11 gM) (aG (aZ 12 gM) (aG (dW 1 (bX (eA (aA 1)) (cA 6) (bS (bD (aB (aW false) (aB fK (aK (f k "_law_value") (aC (aA 6) (aC (aA 2) aD))) (aA 3)) (aA 4))) (cB (aA 12) (aK (f k "_law_led") (aC (aA 8) (aC (aA 6) aD))) (aK iH (aC (aB aL (aA 1) (aA 6)) aD))) (cB (aA 11) (aA 6) (aB aL (aA 1) (aA 6))))) (bX (dJ (aA 1)) (cA 6) (bS (bD (aB (aW false) (aB fK (aK (f k "_law_value") (aC (aA 6) (aC (aA 2) aD))) (aA 3)) (aA 4))) (cB (aA 12) (aK (f k "_law_led") (aC (aA 8) (aC (aA 6) aD))) (aK iH (aC (aB aL (aA 1) (aA 6)) aD))) (cB (aA 11) (aA 6) (aB aL (aA 1) (aA 6)))))) (aG (dW 12 (bX (eA (aA 12)) (cA 6) (aG (aZ 13 (i7 kM (aA 11) (aC (aA 6) (aC (cK aD) aD)))) (cB (aA 11) (aA 6) (fY (dN (aA 5)) (aB bK (aA 13) (aB aL (aA 12) (aA 6))) (aB bK (aB aL (aA 12) (aA 6)) (aA 13)))))) (bX (dJ (aA 12)) (cA 6) (aG (aZ 13 (i7 kM (aA 11) (aC (aA 6) (aC (cK aD) aD)))) (cB (aA 11) (aA 6) (fY (dN (aA 5)) (aB bK (aA 13) (aB aL (aA 12) (aA 6))) (aB bK (aB aL (aA 12) (aA 6)) (aA 13))))))) (bE (bV (aC (aA 9) (aC (aA 11) aD))))))))))))) [some d0,some d1,some d2,some d3,some d4,some d5,none,none,none,none,none,none,none,none] μ):=by
 kernel_rfl
theorem Ph (k:Nat)(d0 d1 d2 d3 d4:D)(μ:Hm):f (k+1) "_law_grown" [d0,d1,d2,d3,d4] μ=fin ((aG (aZ 5 gM) (aG (aZ 6 gM) (aG (bX (dJ (aK (f k "_law_quarters") (aC (aA 1) (aC (aA 2) aD)))) (cA 7) (aG (cB (aA 5) (aA 7) (bV (aC (mC (.int 1)) (aC (mC (.int 0)) (aC (mC (.int 0)) (aC (mC (.int 1)) (aC (mC (.int 0)) (aC (mC (.int 0)) aD)))))))) (cB (aA 6) (aA 7) (cK (aC (aA 7) aD))))) (aG (bX (lM (aC (aA 4) aD)) (cA 8) (aG (aZ 9 (aK (f k "_law_number") (aC (aA 0) (aC (aB bK (aA 3) (aA 8)) aD)))) (aG (aZ 10 (aB bH (aA 9) (mC (.int 4)))) (aG (aZ 11 (aK i8 (aC (aA 6) aD))) (aG (aZ 12 (aK (f k "_law_value") (aC (aB aL (aA 11) (aB bH (aB d8 (aA 9) (mC (.int 4))) (aK fP (aC (aA 11) aD)))) (aC (aA 10) aD)))) (aG (aZ 13 (aB bH (aB d8 (aA 9) (mC (.int 4096))) (mC (.int 4)))) (eK (aK (f k "_law_fold") (aC (aA 5) (aC (aA 6) (aC (aA 10) (aC (aB fI (aA 12) (aB bH (aA 12) (mC (.int 4)))) (aC (aB (aW false) (aB bH (aA 13) (mC (.int 2))) (mC (.int 0))) (aC (aB hG (aA 13) (mC (.int 2))) aD))))))) (cL [5,6])))))))) (bE (bV (aC (aA 5) (aC (aA 6) aD)))))))) [some d0,some d1,some d2,some d3,some d4,none,none,none,none,none,none,none,none,none] μ):=by
 kernel_rfl
theorem Pj (k:Nat)(d0 d1 d2:D)(μ:Hm):f (k+1) "_law_creased" [d0,d1,d2] μ=fin ((aG (aZ 3 (cK aD)) (aG (bX (dJ (aK (f k "_law_rims") (aC (aA 1) (aC (aA 2) aD)))) (cA 4) (aG (eK (aK (f k "_law_beside") (aC (aA 4) aD)) (cL [5,6])) (bS (bD (aB (aW true) (aB aL (aA 0) (aA 5)) (aB aL (aA 0) (aA 6)))) (eV (d9 fN (aA 3) (aC (aA 4) aD))) bY))) (bE (aA 3)))) [some d0,some d1,some d2,none,none,none,none] μ):=by
 kernel_rfl
theorem Pk (k:Nat)(d0:D)(μ:Hm):f (k+1) "_law_ranks" [d0] μ=fin ((aG (aZ 1 gM) (aG (dW 0 (bX (eA (aA 0)) (cA 2) (bX (lW (aC (aB aL (aA 0) (aA 2)) aD)) (cL [3,4]) (cB (aA 1) (aA 4) (aA 3)))) (bX (dJ (aA 0)) (cA 2) (bX (lW (aC (aB aL (aA 0) (aA 2)) aD)) (cL [3,4]) (cB (aA 1) (aA 4) (aA 3))))) (bE (aA 1)))) [some d0,none,none,none,none] μ):=by
 kernel_rfl
theorem Pl (k:Nat)(d0 d1 d2 d3:D)(μ:Hm):f (k+1) "_law_marks" [d0,d1,d2,d3] μ=fin ((aG (aZ 4 (aK (f k "_law_ranks") (aC (aA 1) aD))) (aG (aZ 5 (cK aD)) (aG (bX (dJ (aK (f k "_law_creased") (aC (aA 0) (aC (aA 2) (aC (aA 3) aD))))) (cA 6) (aG (eK (aK (f k "_law_beside") (aC (aA 6) aD)) (cL [7,8])) (aG (eK (aB aL (aA 0) (aA 7)) (cL [9,10,11,12,13,14])) (aG (aZ 15 (aB fK (aB aL (aA 4) (aA 7)) (aB aL (aA 4) (aA 8)))) (eV (d9 fN (aA 5) (aC (bV (aC (aA 6) (aC (fY (bD (aB (aW false) (aA 15) (aB hG (aB fI (aB bT (aA 9) (aA 12)) (aB bT (aA 10) (aA 11))) (mC (.int 0))))) (mC (.str "v")) (mC (.str "h"))) aD))) aD))))))) (bE (aA 5))))) [some d0,some d1,some d2,some d3,none,none,none,none,none,none,none,none,none,none,none,none] μ):=by
 kernel_rfl
theorem Pm (k:Nat)(d0 d1:D)(μ:Hm):f (k+1) "_law_some_turned" [d0,d1] μ=fin ((aG (aZ 2 gM) (aG (bX (dJ (aK i8 (aC (aA 0) aD))) (cA 3) (aG (aZ 1 (aB bH (aB bK (aB bT (aA 1) (aA 1)) (mC (.int 17))) (mC (.int 2147483629)))) (aG (cB (aA 2) (aA 3) (aK nP (aC (aB aL (aA 0) (aA 3)) aD))) (bS (bD (aB (aW false) (aB bH (aB d8 (aA 1) (mC (.int 8))) (mC (.int 3))) (mC (.int 1)))) (eV (d9 lP (aB aL (aA 2) (aA 3)) aD)) bY)))) (bE (aA 2)))) [some d0,some d1,none,none] μ):=by
 kernel_rfl
theorem Pn (k:Nat)(d0 d1:D)(μ:Hm):f (k+1) "_law_handed" [d0,d1] μ=fin ((aG (aZ 2 (cK aD)) (aG (aZ 3 (aB bK (mC (.int 1)) (aB bH (aA 1) (mC (.int 9))))) (aG (bX (dJ (aA 0)) (cL [4,5]) (aG (aZ 1 (aB bH (aB bK (aB bT (aA 1) (aA 1)) (mC (.int 29))) (mC (.int 2147483629)))) (aG (aZ 6 (aA 5)) (aG (bS (bD (aB hG (aB bH (aB d8 (aA 1) (mC (.int 8))) (mC (.int 10))) (aA 3))) (aZ 6 (mC (.str "o"))) bY) (eV (d9 fN (aA 2) (aC (bV (aC (aA 4) (aC (aA 6) aD))) aD))))))) (aG (aZ 7 (aB bH (aB d8 (aA 1) (mC (.int 16))) (aK wD (aC (mC (.int 1)) (aC (aK fP (aC (aA 2) aD)) aD))))) (aG (bS (iF (bD (aB (aW false) (aB bH (aB d8 (aA 1) (mC (.int 4096))) (mC (.int 2))) (mC (.int 1)))) (bD (aB (aW true) (aA 2) (cK aD)))) (cB (aA 2) (aA 7) (bV (aC (aB aL (aB aL (aA 0) (aA 7)) (mC (.int 0))) (aC (fY (bD (aB (aW false) (aB aL (aB aL (aA 0) (aA 7)) (mC (.int 1))) (mC (.str "v")))) (mC (.str "h")) (mC (.str "v"))) aD)))) bY) (bE (aA 2))))))) [some d0,some d1,none,none,none,none,none,none] μ):=by
 kernel_rfl
theorem Po (k:Nat)(d0 d1:D)(μ:Hm):f (k+1) "_law_in_turn" [d0,d1] μ=fin ((aG (aZ 2 (aK i8 (aC (aA 0) aD))) (aG (bS (bD (aB (aW false) (aB bH (aA 1) (mC (.int 3))) (mC (.int 1)))) (eV (d9 lP (aA 2) aD)) bY) (aG (bS (bD (aB (aW false) (aB bH (aA 1) (mC (.int 3))) (mC (.int 2)))) (aZ 2 (aB bK (nF (aA 2) (mT (mC (.int 1))) mS (mT (mC (.int 2)))) (nF (aA 2) mS mS (mT (mC (.int 2)))))) bY) (aG (aZ 3 gM) (aG (bX (dJ (aA 2)) (cA 4) (cB (aA 3) (aA 4) (aB aL (aA 0) (aA 4)))) (bE (aA 3))))))) [some d0,some d1,none,none,none] μ):=by
 kernel_rfl
theorem Pp (k:Nat)(d0 d1:D)(μ:Hm):f (k+1) "_law_told" [d0,d1] μ=fin ((aG (bS (iT (iG (dN (aK dR (aC (aA 0) (aC (mC (.ty "list")) aD))))) (bD (aB (aW true) (aA 0) (aA 1)))) (bE (mC (.bl false))) bY) (bE (aB (aW false) (kD (dJ (aA 0)) (iG (dN (aK dR (aC (aA 2) (aC (mC (.ty "tuple")) aD))))) (aA 2)) (cK aD)))) [some d0,some d1] μ):=by
 kernel_rfl
theorem Pq (k:Nat)(d0:D)(μ:Hm):f (k+1) "law" [d0] μ=fin ((aG (aZ 1 (aK (f k "_law_number") (aC (aA 0) (aC (mC (.int 0)) aD)))) (aG (aZ 2 (aB bK (mC (.int 1)) (aB bH (aA 1) (mC (.int 3))))) (aG (aZ 3 (aB bK (mC (.int 1)) (aB bH (aB d8 (aA 1) (mC (.int 3))) (mC (.int 3))))) (aG (eK (aK (f k "_law_grown") (aC (aA 0) (aC (aA 2) (aC (aA 3) (aC (mC (.int 2)) (aC (aB bH (aB d8 (aA 1) (mC (.int 9))) (mC (.int 5))) aD)))))) (cL [4,5])) (aG (bS (bD (aB (aW false) (aB bH (aB d8 (aA 1) (mC (.int 45))) (mC (.int 2))) (mC (.int 1)))) (aZ 5 (aK (f k "_law_some_turned") (aC (aA 5) (aC (aK (f k "_law_number") (aC (aA 0) (aC (mC (.int 7)) aD))) aD)))) bY) (aG (aZ 6 (aK (f k "_law_marks") (aC (aA 4) (aC (aA 5) (aC (aA 2) (aC (aA 3) aD)))))) (aG (aZ 7 (aK (f k "_law_handed") (aC (aA 6) (aC (aK (f k "_law_number") (aC (aA 0) (aC (mC (.int 1)) aD))) aD)))) (aG (aZ 8 (aK (f k "sheet_of") (aC (aA 2) (aC (aA 3) (aC (aK iH (aC (aA 7) aD)) aD))))) (aG (aZ 9 (aK (f k "_law_in_turn") (aC (aA 4) (aC (aK (f k "_law_number") (aC (aA 0) (aC (mC (.int 8)) aD))) aD)))) (aG (aZ 10 (aK (f k "marks_by") (aC (aA 8) (aC (aA 9) (aC (aK (f k "_law_in_turn") (aC (aA 5) (aC (aK (f k "_law_number") (aC (aA 0) (aC (mC (.int 9)) aD))) aD))) aD))))) (aG (bS (iG (dN (aK (f k "_law_told") (aC (aA 10) (aC (aA 6) aD))))) (bE (mC (.bl false))) bY) (aG (eV (d9 fN (aA 10) (aC (mC (.int 7)) aD))) (aG (aZ 11 (aB (aW false) (kD (lM (aC (aK fP (aC (aA 6) aD)) aD)) (bD (aB (cX true) (aB aL (aB aL (aA 7) (aA 13)) (mC (.int 1))) (bV (aC (mC (.str "o")) (aC (aB aL (aB aL (aA 6) (aA 13)) (mC (.int 1))) aD))))) (aA 13)) (cK aD))) (aG (aZ 12 (aK (f k "keeps") (aC (aA 8) (aC (aA 9) (aC (aA 5) aD))))) (aG (bS (iT (iG (dN (aK dR (aC (aA 12) (aC (mC (.ty "bool")) aD))))) (bD (aB (aW true) (aA 12) (aA 11)))) (bE (mC (.bl false))) bY) (bE (aK (f k "_law_told") (aC (aK (f k "marks_by") (aC (aA 8) (aC (aA 4) (aC (aA 5) aD)))) (aC (aA 6) aD))))))))))))))))))) [some d0,none,none,none,none,none,none,none,none,none,none,none,none] μ):=by
 kernel_rfl
end Lw
namespace Lw
open PySem L2 L3
theorem pV {z:Int}{μ:Hm}{Q:D×Hm->Prop}:W (bT (.int 4) (.int z) μ) Q↔Q (.int (4 * z),μ):=jB (.inl ⟨by decide,by decide⟩)
theorem pW {z:Int}{μ:Hm}{Q:D×Hm->Prop}:W (bH (.int z) (.int 2) μ) Q↔Q (.int (z % 2),μ):=dX (by decide)
theorem nU {z:Int}{μ:Hm}{Q:D×Hm->Prop}:W (bH (.int z) (.int 4) μ) Q↔Q (.int (z % 4),μ):=dX (by decide)
theorem w_div4 {z:Int}{μ:Hm}{Q:D×Hm->Prop}:W (d8 (.int z) (.int 4) μ) Q↔Q (.int (z / 4),μ):=j6 (by decide) (by decide)
theorem Pr:(2:Nat)<=RL:=by decide
theorem eN {a b:D}:([a,b]:List D).length<=RL:=Pr
theorem Pt:(1:Nat)<=RL:=by decide
theorem Pu {a:D}:([a]:List D).length<=RL:=Pt
theorem w_div9 {z:Int}{μ:Hm}{Q:D×Hm->Prop}:W (d8 (.int z) (.int 9) μ) Q↔Q (.int (z / 9),μ):=j6 (by decide) (by decide)
theorem w_mod5 {z:Int}{μ:Hm}{Q:D×Hm->Prop}:W (bH (.int z) (.int 5) μ) Q↔Q (.int (z % 5),μ):=dX (by decide)
noncomputable def zZ:D->Int
 | .int i=>i
 | _=>0
theorem DH {t:MT}{A B C:MS}{ρ:aH}{μ μ':Hm}{b:Bool}{Q:D×Hm->Prop}(h:t ρ μ=some (b,μ'))(h1:b=true->W (fin (aG A C ρ μ')) Q)(h2:b=false->W (fin (aG B C ρ μ')) Q):W (fin (aG (bS t A B) C ρ μ)) Q:=by
 cases b
 ·have e:aG (bS t A B) C ρ μ=aG B C ρ μ':=by unfold aG bS;rw [h];rfl
  rw [e];exact h2 rfl
 ·have e:aG (bS t A B) C ρ μ=aG A C ρ μ':=by unfold aG bS;rw [h];rfl
  rw [e];exact h1 rfl
theorem yP {a C:MS}{ρ ρ':aH}{μ μ':Hm}{Q:D×Hm->Prop}(h:a ρ μ=some (.nx,ρ',μ'))(k:W (fin (C ρ' μ')) Q):W (fin (aG a C ρ μ)) Q:=by
 unfold aG
 rw [h]
 exact k
theorem Pw {g:MF}{ms:MA}{ρ:aH}{μ μ':Hm}{ds:List D}{Q:D×Hm->Prop}(h:ms ρ μ=some (ds,μ'))(k:W (g ds μ') Q):W (aK g ms ρ μ) Q:=by
 unfold aK
 rw [h]
 exact k
theorem Px {g:D->D->Hm->Option (D×Hm)}{a b:ME}{ρ:aH}{μ μ1 μ2:Hm}{x y:D}{Q:D×Hm->Prop}(h1:a ρ μ=some (x,μ1))(h2:b ρ μ1=some (y,μ2))(k:W (g x y μ2) Q):W (aB g a b ρ μ) Q:=by
 unfold aB
 rw [h1,R6,h2]
 exact k
theorem Py {m:ME}{ρ:aH}{μ:Hm}{Q:D×Hm->Prop}(k:W (m ρ μ) Q):W (fin (bE m ρ μ)) Q:=W_fin.mpr (w_mRet.mpr (bQ k fun _ q=>q))
noncomputable def eD (p e:Int×Int):Int×Int:=
 if e.1 % 2=1 then (if e.1 % 4=e.2 % 4 then (p.2+(e.1 - e.2),p.1 - (e.1 - e.2)) else (e.1+e.2 - p.2,e.1+e.2 - p.1)) else if e.2 % 4=0 then (p.1,2 * e.2 - p.2) else (2 * e.1 - p.1,p.2)
noncomputable def jE:D->Int×Int
 | .tup [.int x,.int y]=>(x,y)
 | _=>(0,0)
theorem Pz (p:Int×Int->Bool)(l:List (Int×Int)):((l.map PP).filter fun d=>p (jE d)).map (fun d=>d)=(l.filter p).map PP:=by
 rw [List.map_id']
 induction l with
 | nil=>rfl
 | cons a l ih=>
  have e:(a0u PP (a::l)).filter (fun d=>p (jE d))=if p a then PP a::(l.map PP).filter (fun d=>p (jE d)) else (l.map PP).filter fun d=>p (jE d):=by
   rw [RM,Ww];rfl
  rw [e,ih,Ww]
  split<;>rfl
theorem PB {d:D}{l:List (Int×Int)}(h:d∈l.map PP):∃ x y,d=P x y:=by
 obtain ⟨p,_,rfl⟩:=RG.mp h
 exact ⟨p.1,p.2,rfl⟩
theorem DI {n:Nat}{i:Int}(h0:0<=i)(h:i<n):fV n i=some i.toNat:=by
 unfold fV;rw [if_pos h0,if_pos h]
theorem DJ {gs:List Int}{i:Int}(h0:0<=i)(h:i<gs.length):atI (gs.map D.int) i=some (.int (gs.getD i.toNat 0)):=by
 unfold atI
 rw [Ro,DI h0 h,R6,RR]
 have hi:i.toNat<gs.length:=by omega
 simp [S3,hi]
theorem DK {xs:List D}{i:Int}{d:D}{μ:Hm}{Q:D×Hm->Prop}(h:atI xs i=some d):W (aL (.rol xs) (.int i) μ) Q↔Q (d,μ):=by
 have:aL (.rol xs) (.int i) μ=some (d,μ):=by
  simp only [aL,fZ,bJ,R6,h,Sb]
 rw [this]
 exact W_some
theorem PC {μ:Hm}{b:Nat}{ns:List Int}{Q:D×Hm->Prop}(hb:μ[b]? = some (.lst [])):W (aW false (.rol (ns.map D.int)) (.loc b) μ) Q↔Q (.bl (ns == []),μ):=by
 have h1:dB μ (.rol (ns.map D.int))=some (.lst (ns.map D.int)):=rfl
 have h2:dB μ (.loc b)=some (.lst (([]:List Int).map D.int)):=by simp only [dB,hb];rfl
 have:bZ 8 μ (.rol (ns.map D.int)) (.loc b)=some (ns == []):=by
  show (dB μ (.rol (ns.map D.int))).bind (fun x=>(dB μ (.loc b)).bind fun y=>gX (bZ 7 μ) x y)=_
  rw [h1,h2]
  exact DA 6 μ ns []
 unfold aW
 rw [this]
 exact W_some
structure Ly where
 a:Int
 b:Int
 c:Int
 d:Int
 e:Int
 g:Int
 deriving DecidableEq
noncomputable abbrev LD (A:Ly):D:=.tup [.int A.a,.int A.b,.int A.c,.int A.d,.int A.e,.int A.g]
noncomputable def Dih (A:Ly):Prop:=(A.b=0/\A.c=0/\(A.a=1\/A.a = -1)/\(A.d=1\/A.d = -1))\/(A.a=0/\A.d=0/\(A.b=1\/A.b = -1)/\(A.c=1\/A.c = -1))
theorem Dih.sm {A:Ly}(h:Dih A):(-1<=A.a/\A.a<=1)/\(-1<=A.b/\A.b<=1)/\(-1<=A.c/\A.c<=1)/\(-1<=A.d/\A.d<=1):=by
 unfold Dih at h
 omega
noncomputable def aY (A:Ly)(p:Int×Int):Int×Int:=(A.a * p.1+A.b * p.2+A.e,A.c * p.1+A.d * p.2+A.g)
noncomputable def c5 (A B:Ly):Ly:=⟨B.a * A.a+B.b * A.c,B.a * A.b+B.b * A.d,B.c * A.a+B.d * A.c,B.c * A.b+B.d * A.d,B.a * A.e+B.b * A.g+B.e,B.c * A.e+B.d * A.g+B.g⟩
noncomputable def c9:Ly:=⟨1,0,0,1,0,0⟩
noncomputable def iB (e:Int×Int):Ly:=
 ⟨(eD (1,0) e).1 - (eD (0,0) e).1,(eD (0,1) e).1 - (eD (0,0) e).1,(eD (1,0) e).2 - (eD (0,0) e).2,(eD (0,1) e).2 - (eD (0,0) e).2,(eD (0,0) e).1,(eD (0,0) e).2⟩
noncomputable def c8 (A:Ly):Int:=A.a * A.d - A.b * A.c
theorem Ly.ext' {A B:Ly}(h1:A.a=B.a)(h2:A.b=B.b)(h3:A.c=B.c)(h4:A.d=B.d)(h5:A.e=B.e)(h6:A.g=B.g):A=B:=by
 cases A;cases B;simp_all
theorem DL (e:Int×Int):Dih (iB e):=by
 obtain ⟨x,y⟩:=e
 unfold Dih iB eD
 dsimp only
 split<;>split<;>dsimp only<;>omega
theorem DM (e:Int×Int):c8 (iB e) = -1:=by
 have h:=DL e
 obtain ⟨x,y⟩:=e
 unfold c8 iB eD
 dsimp only
 split<;>split<;>dsimp only
 ·rw [show (0:Int)+(x - y) - (0+(x - y))=0 by omega,show (1:Int)+(x - y) - (0+(x - y))=1 by omega,show (1:Int) - (x - y) - (0 - (x - y))=1 by omega,show (0:Int) - (x - y) - (0 - (x - y))=0 by omega];rfl
 ·rw [show x+y - 0 - (x+y - 0)=0 by omega,show x+y - 1 - (x+y - 0) = -1 by omega];rfl
 ·rw [show (1:Int) - 0=1 by rfl,show 2 * y - 1 - (2 * y - 0) = -1 by omega,show (0:Int) - 0=0 by rfl,show 2 * y - 0 - (2 * y - 0)=0 by omega];rfl
 ·rw [show 2 * x - 1 - (2 * x - 0) = -1 by omega,show (1:Int) - 0=1 by rfl,show 2 * x - 0 - (2 * x - 0)=0 by omega,show (0:Int) - 0=0 by rfl];rfl
theorem yQ (e p:Int×Int):aY (iB e) p=eD p e:=by
 obtain ⟨x,y⟩:=e
 obtain ⟨u,v⟩:=p
 unfold aY iB eD
 dsimp only
 split<;>split<;>dsimp only
 ·rw [show (0:Int)+(x - y) - (0+(x - y))=0 by omega,show (1:Int)+(x - y) - (0+(x - y))=1 by omega,show (1:Int) - (x - y) - (0 - (x - y))=1 by omega,show (0:Int) - (x - y) - (0 - (x - y))=0 by omega];refine Tc ?_ ?_<;>dsimp only<;>omega
 ·rw [show x+y - 0 - (x+y - 0)=0 by omega,show x+y - 1 - (x+y - 0) = -1 by omega];refine Tc ?_ ?_<;>dsimp only<;>omega
 ·rw [show (1:Int) - 0=1 by rfl,show 2 * y - 1 - (2 * y - 0) = -1 by omega,show (0:Int) - 0=0 by rfl,show 2 * y - 0 - (2 * y - 0)=0 by omega];refine Tc ?_ ?_<;>dsimp only<;>omega
 ·rw [show 2 * x - 1 - (2 * x - 0) = -1 by omega,show (1:Int) - 0=1 by rfl,show 2 * x - 0 - (2 * x - 0)=0 by omega,show (0:Int) - 0=0 by rfl];refine Tc ?_ ?_<;>dsimp only<;>omega
theorem mH (A B:Ly)(p:Int×Int):aY (c5 A B) p=aY B (aY A p):=by
 unfold aY c5
 refine Tc ?_ ?_<;>dsimp only<;>grind
theorem yR (A B:Ly):c8 (c5 A B)=c8 A * c8 B:=by
 unfold c8 c5
 dsimp only
 grind
theorem PD (A:Ly):c5 A c9=A:=by
 unfold c5 c9
 exact Ly.ext' (by dsimp only;omega) (by dsimp only;omega) (by dsimp only;omega) (by dsimp only;omega) (by dsimp only;omega) (by dsimp only;omega)
theorem yS (A B E:Ly):c5 (c5 A B) E=c5 A (c5 B E):=by
 unfold c5
 refine Ly.ext' ?_ ?_ ?_ ?_ ?_ ?_<;>dsimp only<;>grind
theorem DN:Dih c9:=.inl ⟨rfl,rfl,.inl rfl,.inl rfl⟩
theorem k5 {x y:Int}(hx:x=1\/x = -1)(hy:y=1\/y = -1):x * y=1\/x * y = -1:=by
 rcases hx with rfl|rfl<;>rcases hy with rfl|rfl<;>decide
theorem yT {A B:Ly}(hA:Dih A)(hB:Dih B):Dih (c5 A B):=by
 unfold Dih c5
 dsimp only
 rcases hA with ⟨h1,h2,h3,h4⟩|⟨h1,h2,h3,h4⟩<;>rcases hB with ⟨k1,k2,k3,k4⟩|⟨k1,k2,k3,k4⟩<;>rw [h1,h2,k1,k2]<;>simp only [Int.mul_zero,Int.zero_mul,Int.add_zero,Y1,true_and]
 ·exact .inl ⟨k5 k3 h3,k5 k4 h4⟩
 ·exact .inr ⟨k5 k3 h4,k5 k4 h3⟩
 ·exact .inr ⟨k5 k3 h3,k5 k4 h4⟩
 ·exact .inl ⟨k5 k3 h4,k5 k4 h3⟩
theorem PF {A B:Ly}(h:∀ p,aY A p=aY B p):A=B:=by
 have h0:=h (0,0)
 have h1:=h (1,0)
 have h2:=h (0,1)
 unfold aY at h0 h1 h2
 simp only [Prod.mk.injEq] at h0 h1 h2
 exact Ly.ext' (by omega) (by omega) (by omega) (by omega) (by omega) (by omega)
theorem sY (p:Int×Int):aY c9 p=p:=by
 unfold aY c9
 refine Tc ?_ ?_<;>dsimp only<;>omega
theorem yU {a b c d e g:D}:([a,b,c,d,e,g]:List D).length<=RL:=by show (6:Nat)<=RL;decide
theorem iC {i j:Int}(h:-1<=i/\i<=1){μ:Hm}{Q:D×Hm->Prop}:W (bT (.int i) (.int j) μ) Q↔Q (.int (i * j),μ):=jB (.inl ⟨by omega,by omega⟩)
theorem PH (k:Nat)(A:Ly)(hA:Dih A)(μ:Hm)(Q:D×Hm->Prop):W (f (k+1) "is_turned" [LD A] μ) Q↔Q (.bl (c8 A == -1),μ):=by
 obtain ⟨h1,h2,h3,h4⟩:=hA.sm
 rw [O0,W_fin]
 simp only [w_mRet,aT,aE,bC,Dv,Ov,Ox,Oy,Oz,iC h1,iC h2,yG,hW]
 rfl
noncomputable def iN (lo:Int)(n m:Nat):List (Int×Int):=(SG n).flatMap fun (i:Nat)=>(SG m).map fun (j:Nat)=>(lo+(i:Int),lo+(j:Int))
noncomputable def iO (lo x:Int)(m:Nat):List (Int×Int):=(SG m).map fun (j:Nat)=>(x,lo+(j:Int))
theorem DO (lo:Int)(n m:Nat):iN lo (n+1) m=iN lo n m++iO lo (lo+(n:Int)) m:=by
 unfold iN iO;rw [a0j,W0];simp
theorem DP (lo x:Int)(m:Nat):iO lo x (m+1)=iO lo x m++[(x,lo+(m:Int))]:=by
 unfold iO;rw [a0j,Se];rfl
theorem DQ (lo x:Int)(m:Nat):(iO lo x m).length=m:=by unfold iO;simp
theorem DR (lo:Int)(m:Nat):∀ n:Nat,(iN lo n m).length=n * m
 | 0=>by simp [iN]
 | n+1=>by rw [DO,RV,DR lo m n,DQ,Nat.succ_mul]
theorem DS {μ:Hm}{a:Nat}{c c':C}:(μ.set a c).set a c'=μ.set a c':=YJ ..
theorem cC {μ:Hm}{a:Nat}{c c':C}(h:μ[a]? = some c):(μ.set a c')[a]? = some c':=by
 rw [SA (Rw.mp h).1]
theorem DT (μ:Hm)(c c':C):(μ++[c]).set μ.length c'=μ++[c']:=by
 rw [WJ _ _ (RD _)];simp
theorem yV {μ:Hm}{a:Nat}{c:C}(h:μ[a]? = some c):μ.set a c=μ:=by
 obtain ⟨hl,rfl⟩:=Rw.mp h
 exact List.set_getElem_self hl
noncomputable abbrev DU:MS:=eV (d9 fN (aA 2) (aC (bV (aC (aA 3) (aC (aA 4) aD))) aD))
theorem PJ (T:MT)(pr:Int->Int->Bool)(d0 d1:D)(a:Nat)(x:Int)(hT:∀ y μ Q,W (T [some d0,some d1,some (.loc a),some (.int x),some (.int y)] μ) Q↔Q (pr x y,μ))(lo:Int)(m:Nat)(ps:List (Int×Int))(hl:ps.length+m<=1000)(μ:Hm)(ha:μ[a]? = some (.lst (ps.map PP)))(o:Option D)(Q:Fl×aH×Hm->Prop)
  (stop:∀ o,Q (.nx,[some d0,some d1,some (.loc a),some (.int x),o],μ.set a (.lst ((ps++(iO lo x m).filter fun p=>pr p.1 p.2).map PP)))):W (dS (f9 lo m) (cA 4) (bS T DU bY) (m+1) 0 [some d0,some d1,some (.loc a),some (.int x),o] μ) Q:=by
 refine yJ (fun i ρ μ'=>i<=m/\μ'=μ.set a (.lst ((ps++(iO lo x i).filter fun p=>pr p.1 p.2).map PP))/\∃ o,ρ=[some d0,some d1,some (.loc a),some (.int x),o]) ⟨SF _,?_,o,rfl⟩ ?_ ?_
 ·simp only [iO,a0i,U7,WH,US]
  exact (yV ha).symm
 ·rintro i ρ μ1 hi ⟨_,rfl,o,rfl⟩
  refine ⟨_,rfl,?_⟩
  simp only [RA,RB,cY]
  rw [hT]
  cases hb:pr x (lo+(i:Int)) with
  | false=>
   simp only [RE,if_false,cU]
   refine ⟨hi,?_,_,rfl⟩
   rw [DP,Td]
   simp [hb]
  | true=>
   simp only [if_true,kW]
   refine mE ?_
   simp only [aE,aF]
   refine ⟨mF (cC ha),?_⟩
   simp only [aR,aM,e8,aE,aF,eN,true_and]
   refine (pU (cC ha) ?_).mpr ?_
   ·have:=SY (fun p=>pr p.1 p.2) (iO lo x i)
    rw [DQ] at this
    rw [Ro,RV,Sh]
    omega
   refine ⟨hi,?_,_,rfl⟩
   rw [DS,DP,Td]
   simp [hb,PP,P]
 ·rintro ρ μ1 ⟨_,rfl,o,rfl⟩
  exact stop o
theorem DV (T:MT)(pr:Int->Int->Bool)(d0 d1:D)(a:Nat)(it:MI)(lo:Int)(m:Nat)(hit:∀ o1 o2 μ Q,W (it [some d0,some d1,some (.loc a),o1,o2] μ) Q↔Q (f9 lo m,m+1,μ))(hT:∀ x y μ Q,W (T [some d0,some d1,some (.loc a),some (.int x),some (.int y)] μ) Q↔Q (pr x y,μ))(n:Nat)(hl:n * m+m<=900)(μ:Hm)(ha:μ[a]? = some (.lst []))(Q:Fl×aH×Hm->Prop)
  (stop:∀ o1 o2,Q (.nx,[some d0,some d1,some (.loc a),o1,o2],μ.set a (.lst (((iN lo n m).filter fun p=>pr p.1 p.2).map PP)))):W (dS (f9 lo n) (cA 3) (bX it (cA 4) (bS T DU bY)) (n+1) 0 [some d0,some d1,some (.loc a),none,none] μ) Q:=by
 refine yJ (fun i ρ μ'=>i<=n/\μ'=μ.set a (.lst (((iN lo i m).filter fun p=>pr p.1 p.2).map PP))/\∃ o1 o2,ρ=[some d0,some d1,some (.loc a),o1,o2]) ⟨SF _,?_,none,none,rfl⟩ ?_ ?_
 ·simp only [iN,a0i,List.flatMap_nil,WH,U7]
  exact (yV ha).symm
 ·rintro i ρ μ1 hi ⟨_,rfl,o1,o2,rfl⟩
  refine ⟨_,rfl,?_⟩
  simp only [RA,RB,eM]
  rw [hit]
  refine PJ T pr d0 d1 a _ (hT _) lo m _ ?_ _ (cC ha) _ _ fun o=>?_
  ·have h1:=SY (fun p=>pr p.1 p.2) (iN lo i m)
   rw [DR] at h1
   have h2:i * m<=n * m:=Nat.mul_le_mul_right _ (Va hi)
   omega
  ·refine ⟨hi,?_,_,_,rfl⟩
   rw [DS,DO,Td]
 ·rintro ρ μ1 ⟨_,rfl,o1,o2,rfl⟩
  exact stop o1 o2
theorem DW {w h:Int}(hw:1<=w/\w<=3)(hh:1<=h/\h<=3):(4 * w).toNat * (4 * h).toNat+(4 * h).toNat<=900/\(4 * w - 1).toNat * (4 * h - 1).toNat+(4 * h - 1).toNat<=900:=by
 have h1:(4 * w).toNat<=12:=by omega
 have h2:(4 * h).toNat<=12:=by omega
 have h3:=a0F h1 h2
 have h4:(4 * w - 1).toNat * (4 * h - 1).toNat<=12 * 12:=a0F (by omega) (by omega)
 omega
noncomputable def aU (p:Int×Int):List Int:=[p.1,p.2]
theorem PK {α:Type}(l:List α)(d:α):(SG l.length).map (fun i=>l.getD i d)=l:=by
 refine Z6 (by simp) fun i h1 h2=>?_
 simp [S3,h2]
theorem nV {es:List (Int×Int)}{i:Nat}{d:D}(h:(es.map PP)[i]? = some d):∃ p,es[i]? = some p/\d=PP p:=by
 rw [RR] at h
 obtain ⟨p,h1,h2⟩:=Rv.mp h
 exact ⟨p,h1,h2.symm⟩
theorem cH (q:Int×Int):dG (PP q)=some (aU q):=rfl
theorem DX {l:List (List Int×D)}(nd:(l.map (·.1)).Nodup){k:List Int}{d:D}(h:(k,d)∈l):bO l k=some d:=by
 induction l with
 | nil=>cases h
 | cons p l ih=>
  rw [RM,Sv] at nd
  unfold bO
  rw [SK]
  rcases Sa.mp h with h|h
  ·rw [<- h]
   simp
  ·have:decide (p.1=k)=false:=decide_eq_false fun z=>nd.1 (RG.mpr ⟨_,h,z.symm⟩)
   rw [this]
   exact ih nd.2 h
theorem mI {p q:Int×Int}(h:aU p=aU q):p=q:=by
 unfold aU at h
 injection h with h1 h2
 injection h2 with h2
 exact Tc h1 h2
theorem yW {ρ:aH}{i1 i2 i3 i4 i5 i6:Nat}{a b c d e g:D}{μ:Hm}{Q:aH->Prop}:W (cL [i1,i2,i3,i4,i5,i6] (.tup [a,b,c,d,e,g]) ρ μ) Q↔Q ((((((ρ.set i1 (some a)).set i2 (some b)).set i3 (some c)).set i4 (some d)).set i5 (some e)).set i6 (some g)):=W_some
noncomputable abbrev Gr:=List ((Int×Int)×List (Int×Int))
noncomputable abbrev Zr:=List ((Int×Int)×List (Int×Int)×Nat)
noncomputable def GZ (Z:Zr):Gr:=Z.map fun z=>(z.1,z.2.1)
noncomputable def aN (Z:Zr):List (List Int×D):=Z.map fun z=>(aU z.1,D.loc z.2.2)
structure GI (μ0 μ:Hm)(a:Nat)(Z:Zr):Prop where
 pre:μ0 <+: μ
 lo:μ0.length<=a
 dic:μ[a]? = some (.dT (aN Z))
 kd:(Z.map (·.1)).Nodup
 bd:(Z.map (·.2.2)).Nodup
 at_:∀ z∈Z,μ0.length<=z.2.2/\μ[z.2.2]? = some (.lst (z.2.1.map PP))
theorem k6 {Z:Zr}{z:(Int×Int)×List (Int×Int)×Nat}(kd:(Z.map (·.1)).Nodup)(h:z∈Z):bO (aN Z) (aU z.1)=some (.loc z.2.2):=by
 refine DX ?_ (RG.mpr ⟨z,h,rfl⟩)
 have e:(aN Z).map (·.1)=(Z.map (·.1)).map aU:=by
  unfold aN
  rw [RU,RU]
  rfl
 rw [e]
 exact WI _ (fun a b hab x=>hab (mI x)) kd
theorem DY {Z:Zr}{p:Int×Int}(h:p∉Z.map (·.1)):bO (aN Z) (aU p)=none:=by
 unfold bO
 rw [V5.mpr]
 ·rfl
 ·intro x hx
  obtain ⟨z,hz,rfl⟩:=RG.mp hx
  rw [decide_eq_true_iff]
  exact fun e=>h (RG.mpr ⟨z,hz,mI e⟩)
theorem nW {Z:Zr}{p:Int×Int}(h:p∈Z.map (·.1)):∃ z∈Z,z.1=p:=by
 obtain ⟨z,h1,h2⟩:=RG.mp h
 exact ⟨z,h1,h2⟩
theorem DZ {Z:Zr}(kd:(Z.map (·.1)).Nodup){z y:(Int×Int)×List (Int×Int)×Nat}(hz:z∈Z)(hy:y∈Z)(e:z.1=y.1):z=y:=by
 induction Z with
 | nil=>cases hz
 | cons x Z ih=>
  rw [RM,Sv] at kd
  rcases Sa.mp hz with h1|h1<;>rcases Sa.mp hy with h2|h2
  ·rw [h1,h2]
  ·exact (kd.1 (RG.mpr ⟨y,h2,by rw [<- h1];exact e.symm⟩)).elim
  ·exact (kd.1 (RG.mpr ⟨z,h1,by rw [<- h2];exact e⟩)).elim
  ·exact ih kd.2 h1 h2
theorem D0 {Z:Zr}(bd:(Z.map (·.2.2)).Nodup){z y:(Int×Int)×List (Int×Int)×Nat}(hz:z∈Z)(hy:y∈Z)(e:z.2.2=y.2.2):z=y:=by
 induction Z with
 | nil=>cases hz
 | cons x Z ih=>
  rw [RM,Sv] at bd
  rcases Sa.mp hz with h1|h1<;>rcases Sa.mp hy with h2|h2
  ·rw [h1,h2]
  ·exact (bd.1 (RG.mpr ⟨y,h2,by rw [<- h1];exact e.symm⟩)).elim
  ·exact (bd.1 (RG.mpr ⟨z,h1,by rw [<- h2];exact e⟩)).elim
  ·exact ih bd.2 h1 h2
theorem eE (Z:Zr):(GZ Z).map (·.1)=Z.map (·.1):=by
 unfold GZ
 rw [RU]
 rfl
theorem GI.more {μ0 μ μ':Hm}{a:Nat}{Z:Zr}(I:GI μ0 μ a Z)(h:μ <+: μ'):GI μ0 μ' a Z:=⟨I.pre.trans h,I.lo,aJ h I.dic,I.kd,I.bd,fun z hz=>⟨(I.at_ z hz).1,aJ h (I.at_ z hz).2⟩⟩
theorem GI.ne {μ0 μ:Hm}{a:Nat}{Z:Zr}(I:GI μ0 μ a Z){z:(Int×Int)×List (Int×Int)×Nat}(hz:z∈Z):z.2.2≠a:=fun e=>by
 have h1:=(I.at_ z hz).2
 rw [e,I.dic] at h1
 cases h1
theorem GI.hit {μ0 μ:Hm}{a:Nat}{Z:Zr}(I:GI μ0 μ a Z){z:(Int×Int)×List (Int×Int)×Nat}(hz:z∈Z)(q:Int×Int) :
  GI μ0 (μ.set z.2.2 (.lst (z.2.1.map PP++[PP q]))) a (Z.map fun y=>if y.1=z.1 then (y.1,y.2.1++[q],y.2.2) else y):=by
 have ek:(Z.map fun y=>if y.1=z.1 then (y.1,y.2.1++[q],y.2.2) else y).map (·.1)=Z.map (·.1):=by
  rw [RU]
  refine Sg fun y _=>?_
  show (if y.1=z.1 then (y.1,y.2.1++[q],y.2.2) else y).1=y.1
  split<;>rfl
 have eb:(Z.map fun y=>if y.1=z.1 then (y.1,y.2.1++[q],y.2.2) else y).map (·.2.2)=Z.map (·.2.2):=by
  rw [RU]
  refine Sg fun y _=>?_
  show (if y.1=z.1 then (y.1,y.2.1++[q],y.2.2) else y).2.2=y.2.2
  split<;>rfl
 have ev:aN (Z.map fun y=>if y.1=z.1 then (y.1,y.2.1++[q],y.2.2) else y)=aN Z:=by
  unfold aN
  rw [RU]
  refine Sg fun y _=>?_
  show (aU (if y.1=z.1 then (y.1,y.2.1++[q],y.2.2) else y).1,D.loc (if y.1=z.1 then (y.1,y.2.1++[q],y.2.2) else y).2.2)=_
  split<;>rfl
 refine ⟨cT I.pre (I.at_ z hz).1 _,I.lo,?_,by rw [ek];exact I.kd,by rw [eb];exact I.bd,fun y hy=>?_⟩
 ·rw [ev,Rz (I.ne hz)]
  exact I.dic
 ·obtain ⟨x,hx,rfl⟩:=RG.mp hy
  obtain ⟨l1,l2⟩:=I.at_ x hx
  by_cases e:x.1=z.1
  ·have:x=z:=DZ I.kd hx hz e
   subst this
   rw [if_pos rfl]
   refine ⟨l1,?_⟩
   show (μ.set x.2.2 _)[x.2.2]? = _
   rw [cC l2,Se]
   rfl
  ·rw [if_neg e]
   refine ⟨l1,?_⟩
   rw [Rz fun w=>e (by rw [D0 I.bd hx hz w.symm])]
   exact l2
theorem D1 {Z:Zr}{p:Int×Int}{qs:List (Int×Int)}{b:Nat}(h:p∉Z.map (·.1)):dC (aN Z) (aU p) (.loc b)=aN (Z++[(p,qs,b)]):=by
 unfold dC
 rw [DY h,if_neg (by simp)]
 unfold aN
 rw [Se]
 rfl
theorem GI.new {μ0 μ:Hm}{a b:Nat}{Z:Zr}(I:GI μ0 μ a Z){p:Int×Int}(hp:p∉Z.map (·.1)){qs:List (Int×Int)}(hb:μ[b]? = some (.lst (qs.map PP)))(h0:μ0.length<=b)(hn:∀ z∈Z,z.2.2≠b) :
  GI μ0 (μ.set a (.dT (dC (aN Z) (aU p) (.loc b)))) a (Z++[(p,qs,b)]):=by
 have hba:b≠a:=fun e=>by
  rw [e,I.dic] at hb
  cases hb
 refine ⟨cT I.pre I.lo _,I.lo,by rw [cC I.dic,D1 hp],?_,?_,fun z hz=>?_⟩
 ·rw [Se,Uu]
  exact ⟨I.kd,by simp,fun x hx y hy e=>by
   simp only [RM,U7,Sk] at hy
   rw [e,hy] at hx
   exact hp hx⟩
 ·rw [Se,Uu]
  exact ⟨I.bd,by simp,fun x hx y hy e=>by
   simp only [RM,U7,Sk] at hy
   obtain ⟨z,hz,ez⟩:=RG.mp hx
   exact hn z hz (by rw [ez,e,hy])⟩
 ·rcases S8.mp hz with hz|hz
  ·rw [Rz (So (I.ne hz))]
   exact I.at_ z hz
  ·rw [Sk.mp hz]
   exact ⟨h0,by rw [Rz (So hba)];exact hb⟩
theorem PL {Z:Zr}{p:Int×Int}{qs:List (Int×Int)}{b:Nat}(h:p∈Z.map (·.1))(kd:(Z.map (·.1)).Nodup):dC (aN Z) (aU p) (.loc b)=aN (Z.map fun y=>if y.1=p then (y.1,qs,b) else y):=by
 obtain ⟨z,hz,e⟩:=nW h
 unfold dC
 rw [<- e,k6 kd hz,Option.isSome_some,if_pos rfl]
 unfold aN
 rw [RU,RU]
 refine Sg fun y _=>?_
 show (if aU y.1=aU z.1 then (aU y.1,D.loc b) else (aU y.1,D.loc y.2.2))=(aU (if y.1=z.1 then (y.1,qs,b) else y).1,D.loc (if y.1=z.1 then (y.1,qs,b) else y).2.2)
 by_cases e2:y.1=z.1
 ·rw [if_pos (by rw [e2]),if_pos e2]
 ·rw [if_neg (fun w=>e2 (mI w)),if_neg e2]
theorem nC:∀ a b c:List Int,HT.lexLt a b=true->HT.lexLt b c=true->HT.lexLt a c=true
 | [],[],_,h,_=>by cases h
 | [],_::_,[],_,h=>by cases h
 | [],_::_,_::_,_,_=>rfl
 | _::_,[],_,h,_=>by cases h
 | _::_,_::_,[],_,h=>by cases h
 | x::xs,y::ys,z::zs,h1,h2=>by
  rw [HT.lexLt_cons] at h1 h2 ⊢
  by_cases e1:x=y
  ·subst e1
   rw [if_pos rfl] at h1
   by_cases e2:x=z
   ·rw [if_pos e2] at h2 ⊢
    exact nC xs ys zs h1 h2
   ·rw [if_neg e2] at h2 ⊢
    exact h2
  ·rw [if_neg e1] at h1
   have h1:=of_decide_eq_true h1
   by_cases e2:y=z
   ·subst e2
    rw [if_neg e1]
    exact decide_eq_true h1
   ·rw [if_neg e2] at h2
    have h2:=of_decide_eq_true h2
    rw [if_neg (by omega)]
    exact decide_eq_true (by omega)
theorem D2:∀ a b c:List Int,HT.lexLt a b=true->HT.lexLt a c=true\/HT.lexLt c b=true
 | [],[],_,h=>by cases h
 | [],_::_,[],_=>.inr rfl
 | [],_::_,_::_,_=>.inl rfl
 | _::_,[],_,h=>by cases h
 | _::_,_::_,[],_=>.inr rfl
 | x::xs,y::ys,z::zs,h=>by
  rw [HT.lexLt_cons] at h ⊢
  rw [HT.lexLt_cons]
  by_cases e1:x=y
  ·subst e1
   rw [if_pos rfl] at h
   by_cases e2:x=z
   ·subst e2
    rw [if_pos rfl,if_pos rfl]
    exact D2 xs ys zs h
   ·rw [if_neg e2,if_neg (So e2),decide_eq_true_iff,decide_eq_true_iff]
    omega
  ·rw [if_neg e1] at h
   have h:=of_decide_eq_true h
   by_cases e2:x=z
   ·subst e2
    rw [if_neg e1]
    exact .inr (decide_eq_true h)
   ·rw [if_neg e2,decide_eq_true_iff]
    by_cases e3:z=y
    ·subst e3
     exact .inl h
    ·rw [if_neg e3,decide_eq_true_iff]
     omega
theorem lR:∀ k:List Int,HT.lexLt k k=false
 | []=>rfl
 | a::k=>by rw [HT.lexLt_cons,if_pos rfl];exact lR k
theorem yX:∀ a b:List Int,HT.lexLt a b=false->HT.lexLt b a=false->a=b
 | [],[],_,_=>rfl
 | [],_::_,h,_=>by cases h
 | _::_,[],_,h=>by cases h
 | x::xs,y::ys,h1,h2=>by
  rw [HT.lexLt_cons] at h1 h2
  by_cases e:x=y
  ·subst e
   rw [if_pos rfl] at h1 h2
   rw [yX xs ys h1 h2]
  ·rw [if_neg e] at h1
   rw [if_neg (So e)] at h2
   have h1:=of_decide_eq_false h1
   have h2:=of_decide_eq_false h2
   omega
theorem PM {μ:Hm}{a:Nat}{kvs:List (List Int×D)}{Q:D×Hm->Prop}(h:μ[a]? = some (.dT kvs))(h1:kvs.length<64)(hne:∀ p∈kvs,p.1≠[]):W (i8 [.loc a] μ) Q↔Q (.loc μ.length,μ++[.lst ((j4 kvs).map fun k=>D.tup (k.1.map D.int))]):=by
 simp only [i8,h]
 rw [if_pos ⟨h1,hne⟩]
 exact W_some
theorem PN {f:D->List D->Hm->Option (D×Hm)}{mo:ME}{ms:MA}{ρ:aH}{μ:Hm}{Q:D×Hm->Prop}(h:W (mo ρ μ) fun p=>nK p.2 p.1=true/\W (ms ρ p.2) fun q=>W (f p.1 q.1 q.2) Q):W (i7 f mo ms ρ μ) Q:=by
 unfold i7
 rw [W_bind]
 refine bQ h fun p q=>?_
 rw [q.1]
 exact W_bind.mpr q.2
theorem PQ {μ:Hm}{a:Nat}{kvs:List (List Int×D)}(h:μ[a]? = some (.dT kvs)):nK μ (.loc a)=true:=by
 simp only [nK,h]
theorem D3 {μ:Hm}{A B:Nat}{ds:List D}{Q:D×Hm->Prop}(hA:μ[A]? = some (.lst ds))(hB:μ[B]? = some (.lst [])):W (aW false (.loc A) (.loc B) μ) Q↔Q (.bl ds.isEmpty,μ):=by
 have kd:∀ {x:Nat}{xs:List D},μ[x]? = some (.lst xs)->dB μ (.loc x)=some (.lst xs):=fun h=>by simp only [dB,h]
 have e:bZ 8 μ (.loc A) (.loc B)=some ds.isEmpty:=by
  show (dB μ (.loc A)).bind (fun u=>(dB μ (.loc B)).bind fun v=>gX (bZ 7 μ) u v)=_
  rw [kd hA,kd hB]
  show fH (bZ 7 μ) ds []=_
  cases ds<;>rfl
 unfold aW
 rw [e]
 exact W_some
theorem jF (Z:Zr):(aN Z).length=Z.length:=Ro ..
noncomputable def jG (k:Int)(p:Int×Int):Int:=if k=0 then p.2 else if k=1 then p.1 else if k=2 then p.1 - p.2 else p.1+p.2
noncomputable def b6 (k n:Int):Ly:=if k=0 then ⟨1,0,0,-1,0,2 * n⟩ else if k=1 then ⟨-1,0,0,1,2 * n,0⟩ else if k=2 then ⟨0,1,1,0,n,-n⟩ else ⟨0,-1,-1,0,n,n⟩
theorem sZ (k n:Int):Dih (b6 k n):=by
 unfold b6
 split
 ·exact .inl ⟨rfl,rfl,.inl rfl,.inr rfl⟩
 split
 ·exact .inl ⟨rfl,rfl,.inr rfl,.inl rfl⟩
 split
 ·exact .inr ⟨rfl,rfl,.inl rfl,.inl rfl⟩
 ·exact .inr ⟨rfl,rfl,.inr rfl,.inr rfl⟩
theorem pX (k n:Int)(p:Int×Int):aY (b6 k n) (aY (b6 k n) p)=p:=by
 obtain ⟨x,y⟩:=p
 unfold b6 aY
 split
 ·refine Tc ?_ ?_<;>dsimp only<;>omega
 split
 ·refine Tc ?_ ?_<;>dsimp only<;>omega
 split
 ·refine Tc ?_ ?_<;>dsimp only<;>omega
 ·refine Tc ?_ ?_<;>dsimp only<;>omega
noncomputable def bR (G:Gr)(p:Int×Int):List (Int×Int):=match G.find? (fun g=>decide (g.1=p)) with|some g=>g.2|none=>[]
noncomputable def eF (G:Gr)(p:Int×Int)(L:List (Int×Int)):Gr:=if (G.map (·.1)).contains p then G.map (fun g=>if g.1=p then (g.1,L) else g) else G++[(p,L)]
theorem D4 (p:Int×Int):bR [] p=[]:=rfl
theorem fQ (g:(Int×Int)×List (Int×Int))(G:Gr)(p:Int×Int):bR (g::G) p=if g.1=p then g.2 else bR G p:=by
 unfold bR
 rw [SK]
 by_cases e:g.1=p
 ·rw [if_pos e,decide_eq_true e]
 ·rw [if_neg e,decide_eq_false e]
theorem eH {G:Gr}(kd:(G.map (·.1)).Nodup){g:(Int×Int)×List (Int×Int)}(h:g∈G):bR G g.1=g.2:=by
 induction G with
 | nil=>cases h
 | cons x G ih=>
  rw [RM,Sv] at kd
  rw [fQ]
  rcases Sa.mp h with rfl|h
  ·exact if_pos rfl
  ·rw [if_neg (fun e:x.1=g.1=>kd.1 (by rw [e];exact RG.mpr ⟨g,h,rfl⟩)),ih kd.2 h]
theorem jH {G:Gr}{p:Int×Int}(h:p∉G.map (·.1)):bR G p=[]:=by
 induction G with
 | nil=>rfl
 | cons x G ih=>
  rw [RM,Sa,not_or] at h
  rw [fQ,if_neg (fun e=>h.1 e.symm),ih h.2]
theorem D5 {G K:Gr}{p:Int×Int}(h:p∉G.map (·.1)):bR (G++K) p=bR K p:=by
 induction G with
 | nil=>rfl
 | cons x G ih=>
  rw [RM,Sa,not_or] at h
  rw [Tj,fQ,if_neg (fun e=>h.1 e.symm),ih h.2]
theorem atG_append' {G K:Gr}{p:Int×Int}(h:p∈G.map (·.1)):bR (G++K) p=bR G p:=by
 induction G with
 | nil=>cases h
 | cons x G ih=>
  rw [Tj,fQ,fQ]
  by_cases e:x.1=p
  ·rw [if_pos e,if_pos e]
  ·rw [if_neg e,if_neg e]
   rw [RM,Sa] at h
   exact ih (h.resolve_left fun w=>e w.symm)
theorem D6 (G:Gr)(p:Int×Int)(L:List (Int×Int)):(eF G p L).map (·.1)=if (G.map (·.1)).contains p then G.map (·.1) else G.map (·.1)++[p]:=by
 unfold eF
 split
 ·rw [RU]
  refine Sg fun g _=>?_
  show (if g.1=p then (g.1,L) else g).1=g.1
  split<;>rfl
 ·rw [Se];rfl
theorem PR {G:Gr}{p:Int×Int}{L:List (Int×Int)}(kd:(G.map (·.1)).Nodup):((eF G p L).map (·.1)).Nodup:=by
 rw [D6]
 split
 ·exact kd
 ·rename_i h
  rw [Uu]
  exact ⟨kd,by simp,fun x hx y hy e=>h (S1.mpr (by rw [Sk.mp hy] at e;exact e ▸ hx))⟩
theorem putG_mem {G:Gr}{p q:Int×Int}{L:List (Int×Int)}:q∈(eF G p L).map (·.1)↔q∈G.map (·.1)\/q=p:=by
 rw [D6]
 split
 ·rename_i h
  exact ⟨.inl,fun z=>z.elim id fun e=>e ▸ S1.mp h⟩
 ·rw [S8,Sk]
theorem D7 (G:Gr)(p q:Int×Int)(L:List (Int×Int)):bR (eF G p L) q=if q=p then L else bR G q:=by
 unfold eF
 split
 ·rename_i h
  have h:=S1.mp h
  induction G with
  | nil=>cases h
  | cons x G ih=>
   rw [RM,fQ,fQ]
   by_cases e:x.1=p
   ·rw [if_pos e]
    by_cases e2:q=p
    ·rw [if_pos e2,if_pos (by rw [e,e2])]
    ·rw [if_neg e2,if_neg (by show ¬ x.1=q;rw [e];exact fun w=>e2 w.symm),if_neg (by rw [e];exact fun w=>e2 w.symm)]
     by_cases h2:p∈G.map (·.1)
     ·rw [ih (S1.mpr h2) h2,if_neg e2]
     ·have:(G.map fun g=>if g.1=p then (g.1,L) else g)=G:=by
       have w:(G.map fun g=>if g.1=p then (g.1,L) else g)=G.map id:=Sg fun g hg=>if_neg fun e=>h2 (RG.mpr ⟨g,hg,e⟩)
       rw [w,WR]
      rw [this]
   ·rw [if_neg e]
    rw [RM,Sa] at h
    have h3:=h.resolve_left fun w=>e w.symm
    rw [ih (S1.mpr h3) h3]
    by_cases e2:x.1=q
    ·rw [if_pos e2,if_pos e2,if_neg (by rw [<- e2];exact e)]
    ·rw [if_neg e2,if_neg e2]
 ·rename_i h
  have h:p∉G.map (·.1):=fun z=>h (S1.mpr z)
  by_cases e:q=p
  ·rw [if_pos e,e,D5 h,fQ,if_pos rfl]
  ·rw [if_neg e]
   by_cases h2:q∈G.map (·.1)
   ·exact atG_append' h2
   ·rw [D5 h2,fQ,if_neg (fun w=>e w.symm),D4,jH h2]
theorem PU {G:Gr}{p:Int×Int}(h:bR G p≠[]):p∈G.map (·.1):=Classical.byContradiction fun z=>h (jH z)
structure Pil (qs:List (Int×Int))(f:Int×Int->Int×Int)(G:Gr):Prop where
 kd:(G.map (·.1)).Nodup
 ne:∀ g∈G,g.2≠[]
 pm:∀ p,(bR G p).Perm (qs.filter fun q=>decide (f q=p))
theorem Pil.key {qs:List (Int×Int)}{f:Int×Int->Int×Int}{G:Gr}(h:Pil qs f G){p:Int×Int}:p∈G.map (·.1)↔∃ q∈qs,f q=p:=by
 constructor
 ·intro hp
  obtain ⟨g,hg,rfl⟩:=RG.mp hp
  have h1:=h.pm g.1
  rw [eH h.kd hg] at h1
  obtain ⟨q,hq⟩:=List.exists_mem_of_ne_nil _ (h.ne g hg)
  have:=SR.mp (h1.mem_iff.mp hq)
  exact ⟨q,this.1,of_decide_eq_true this.2⟩
 ·rintro ⟨q,hq,rfl⟩
  refine PU fun e=>?_
  have h1:=h.pm (f q)
  rw [e] at h1
  have:q∈([]:List (Int×Int)):=h1.mem_iff.mpr (SR.mpr ⟨hq,decide_eq_true rfl⟩)
  cases this
theorem D8 {α:Type}(a b:α->Bool)(hd:∀ x,a x=true->b x=false):∀ l:List α,(l.filter fun x=>a x||b x).Perm (l.filter a++l.filter b)
 | []=>.nil
 | x::l=>by
  have ih:=D8 a b hd l
  cases ha:a x with
  | true=>
   rw [RZ (by simp [ha]),RZ ha,RW (by simp [hd x ha])]
   exact ih.cons x
  | false=>
   cases hb:b x with
   | true=>
    rw [RZ (by simp [hb]),RW (by simp [ha]),RZ hb]
    exact (ih.cons x).trans List.perm_middle.symm
   | false=>
    rw [RW (by simp [ha,hb]),RW (by simp [ha]),RW (by simp [hb])]
    exact ih
noncomputable def iD (mv:Int×Int->Bool)(G:Gr):Gr:=G.filter fun g=>!mv g.1
noncomputable def fA (mv:Int×Int->Bool)(M:Int×Int->Int×Int)(G:Gr):Gr:=(G.filter fun g=>mv g.1).map fun g=>(M g.1,g.2.reverse)
noncomputable def fD (over:Bool)(S:Gr)(g:(Int×Int)×List (Int×Int)):Gr:=eF S g.1 (if over then bR S g.1++g.2 else g.2++bR S g.1)
noncomputable def D9 (mv:Int×Int->Bool)(M:Int×Int->Int×Int)(over:Bool)(G:Gr):Gr:=(fA mv M G).foldl (fD over) (iD mv G)
theorem Ea {mv:Int×Int->Bool}(p:Int×Int):∀ G:Gr,bR (iD mv G) p=if mv p then [] else bR G p
 | []=>by cases mv p<;>rfl
 | g::G=>by
  have ih:=Ea (mv:=mv) p G
  unfold iD at ih ⊢
  rw [fQ]
  cases h:mv g.1 with
  | true=>
   rw [RW (by simp [h]),ih]
   by_cases e:g.1=p
   ·rw [<- e,h];rfl
   ·rw [if_neg e]
  | false=>
   rw [RZ (by simp [h]),fQ]
   by_cases e:g.1=p
   ·rw [if_pos e,if_pos e,<- e,h];rfl
   ·rw [if_neg e,if_neg e,ih]
theorem Eb {mv:Int×Int->Bool}{M:Int×Int->Int×Int}(hM:∀ p,M (M p)=p)(p:Int×Int):∀ G:Gr,bR (fA mv M G) p=if mv (M p) then (bR G (M p)).reverse else []
 | []=>by cases mv (M p)<;>rfl
 | g::G=>by
  have ih:=Eb (mv:=mv) hM p G
  unfold fA at ih ⊢
  rw [fQ]
  have hi:M g.1=p↔g.1=M p:=⟨fun e=>by rw [<- e,hM],fun e=>by rw [e,hM]⟩
  cases h:mv g.1 with
  | true=>
   rw [RZ (by simp [h]),RM,fQ]
   by_cases e:g.1=M p
   ·rw [if_pos (hi.mpr e),if_pos e,<- e,h];rfl
   ·rw [if_neg (fun w=>e (hi.mp w)),if_neg e,ih]
  | false=>
   rw [RW (by simp [h]),ih]
   by_cases e:g.1=M p
   ·rw [<- e,h];rfl
   ·rw [if_neg e]
theorem Ec (over:Bool):∀ (K S:Gr),(K.map (·.1)).Nodup->(S.map (·.1)).Nodup->(∀ g∈S,g.2≠[])->(∀ g∈K,g.2≠[])->
  ((K.foldl (fD over) S).map (·.1)).Nodup/\(∀ g∈K.foldl (fD over) S,g.2≠[])/\∀ p,(bR (K.foldl (fD over) S) p).Perm (bR S p++bR K p)
 | [],S,_,hs,ns,_=>⟨hs,ns,fun p=>by rw [D4,US];exact .refl _⟩
 | g::K,S,hk,hs,ns,nk=>by
  rw [RM,Sv] at hk
  rw [List.foldl_cons]
  have hs':((fD over S g).map (·.1)).Nodup:=PR hs
  have ns':∀ x∈fD over S g,x.2≠[]:=fun x hx=>by
   have e:bR (fD over S g) x.1=x.2:=eH hs' hx
   rw [<- e]
   unfold fD
   rw [D7]
   have ng:=nk g (RX ..)
   split
   ·cases over
    ·exact fun w=>ng (YM.mp w).1
    ·exact fun w=>ng (YM.mp w).2
   ·rename_i hne
    have:x.1∈(fD over S g).map (·.1):=RG.mpr ⟨x,hx,rfl⟩
    rcases putG_mem.mp this with h|h
    ·obtain ⟨y,hy,ey⟩:=RG.mp h
     rw [<- ey,eH hs hy]
     exact ns y hy
    ·exact absurd h hne
  obtain ⟨h1,h2,h3⟩:=Ec over K (fD over S g) hk.2 hs' ns' fun x hx=>nk x (RP _ hx)
  refine ⟨h1,h2,fun p=>(h3 p).trans ?_⟩
  rw [fQ]
  unfold fD
  rw [D7]
  by_cases e:p=g.1
  ·rw [if_pos e,if_pos e.symm,e,jH hk.1,US]
   cases over
   ·exact List.perm_append_comm
   ·exact .refl _
  ·rw [if_neg e,if_neg (fun w=>e w.symm)]
theorem PV {qs:List (Int×Int)}{f:Int×Int->Int×Int}{G:Gr}(h:Pil qs f G){mv:Int×Int->Bool}{M:Int×Int->Int×Int}(hM:∀ p,M (M p)=p)(over:Bool) :
  Pil qs (fun q=>if mv (f q) then M (f q) else f q) (D9 mv M over G):=by
 have sub:∀ (l:List ((Int×Int)×List (Int×Int))),l.Sublist G->(l.map (·.1)).Nodup:=fun l hl=>(hl.map _).nodup h.kd
 have kd1:((fA mv M G).map (·.1)).Nodup:=by
  have e:(fA mv M G).map (·.1)=((G.filter fun g=>mv g.1).map (·.1)).map M:=by
   unfold fA
   rw [RU,RU]
   rfl
  rw [e]
  exact WI _ (fun a b hab w=>hab (by rw [<- hM a,w,hM])) (sub _ VX)
 obtain ⟨h1,h2,h3⟩:=Ec over (fA mv M G) (iD mv G) kd1 (sub _ VX) (fun g hg=>h.ne g (SR.mp hg).1) (fun g hg=>by
  obtain ⟨y,hy,rfl⟩:=RG.mp hg
  exact fun w=>h.ne y (SR.mp hy).1 (List.reverse_eq_nil_iff.mp w))
 refine ⟨h1,h2,fun p=>(h3 p).trans ?_⟩
 rw [Ea,Eb hM]
 have e:(qs.filter fun q=>decide ((if mv (f q) then M (f q) else f q)=p))=qs.filter fun q=>(!mv (f q)&&decide (f q=p))||(mv (f q)&&decide (f q=M p)):=by
  congr 1
  funext q
  have hi:M (f q)=p↔f q=M p:=⟨fun e=>by rw [<- e,hM],fun e=>by rw [e,hM]⟩
  cases mv (f q) with
  | true=>simp [hi]
  | false=>simp
 rw [e]
 refine List.Perm.trans ?_ (D8 _ _ (fun q hq=>?_) qs).symm
 ·refine List.Perm.append ?_ ?_
  ·cases hm:mv p with
   | true=>
    rw [if_pos rfl,Uh.mpr]
    intro q _ w
    rw [RF] at w
    have e:=of_decide_eq_true w.2
    rw [e,hm] at w
    exact RO w.1
   | false=>
    rw [if_neg RO]
    have:(qs.filter fun q=>!mv (f q)&&decide (f q=p))=qs.filter fun q=>decide (f q=p):=by
     congr 1
     funext q
     by_cases e:f q=p
     ·simp [e,hm]
     ·simp [e]
    rw [this]
    exact h.pm p
  ·cases hm:mv (M p) with
   | true=>
    rw [if_pos rfl]
    have:(qs.filter fun q=>mv (f q)&&decide (f q=M p))=qs.filter fun q=>decide (f q=M p):=by
     congr 1
     funext q
     by_cases e:f q=M p
     ·simp [e,hm]
     ·simp [e]
    rw [this]
    exact (Vt _).trans (h.pm (M p))
   | false=>
    rw [if_neg RO,Uh.mpr]
    intro q _ w
    rw [RF] at w
    have e:=of_decide_eq_true w.2
    rw [e,hm] at w
    exact RO w.1
 ·rw [RF] at hq
  simp only [Wl] at hq
  rw [hq.1];rfl
theorem PX {p:Int×Int}{u:Int}(hu:0<=u/\u<4):atI [D.int p.2,.int p.1,.int (p.1 - p.2),.int (p.1+p.2)] u=some (.int (jG u p)):=by
 have:u=0\/u=1\/u=2\/u=3:=by omega
 rcases this with rfl|rfl|rfl|rfl<;>rfl
theorem tB (k:Nat)(p:Int×Int)(u:Int)(hu:0<=u/\u<4)(μ:Hm)(Q:D×Hm->Prop)(H:∀ μ',μ <+: μ'->Q (.int (jG u p),μ')):W (f (k+1) "_law_value" [PP p,.int u] μ) Q:=by
 rw [Pc]
 exact yP rfl (Py (Px rfl rfl ((hZ (bP _ _) (PX hu)).mpr (H _ (a8 _ _)))))
theorem PY {n u:Int}(hu:0<=u/\u<4):atI [LD ⟨1,0,0,-1,0,2 * n⟩,LD ⟨-1,0,0,1,2 * n,0⟩,LD ⟨0,1,1,0,n,-n⟩,LD ⟨0,-1,-1,0,n,n⟩] u=some (LD (b6 u n)):=by
 have:u=0\/u=1\/u=2\/u=3:=by omega
 rcases this with rfl|rfl|rfl|rfl<;>rfl
theorem PZ (k:Nat)(u n:Int)(hu:0<=u/\u<4)(μ:Hm)(Q:D×Hm->Prop)(H:∀ μ',μ <+: μ'->Q (LD (b6 u n),μ')):W (f (k+1) "_law_mirror" [.int u,.int n] μ) Q:=by
 rw [Pd]
 refine yP rfl (W_fin.mpr ?_)
 simp only [w_mRet,aT,gO,e8,aR,aM,bC,Dv,aE,aF,RA,RB]
 refine ⟨yU,yU,eN,?_⟩
 refine (sX (aJ (a8 _ _) (bP _ _)) (bP _ _) (by show (4:Nat)<=RL;decide)).mpr ?_
 exact (hZ (bP _ _) (PY hu)).mpr (H _ (((a8 _ _).trans (a8 _ _)).trans (a8 _ _)))
theorem Ed (k:Nat)(A:Ly)(hA:Dih A)(p:Int×Int)(μ:Hm)(Q:D×Hm->Prop):W (f (k+1) "_law_led" [LD A,PP p] μ) Q↔Q (PP (aY A p),μ):=by
 obtain ⟨h1,h2,h3,h4⟩:=hA.sm
 rw [Pe,W_fin]
 simp only [aP,mD,aE,yW,yI,RA,RB,w_mRet,e8,aR,aM,aT,aF,iC h1,iC h2,iC h3,iC h4,gP,eN,true_and]
 rfl
theorem P0 {xs ys:List D}{μ:Hm}{Q:D×Hm->Prop}(h:xs≠[]/\ys≠[]/\xs.length+ys.length<=RL):W (bK (.tup xs) (.tup ys) μ) Q↔Q (.tup (xs++ys),μ):=by
 simp only [bK]
 rw [if_pos h]
 exact W_some
theorem P1 (k:Nat)(A B:Ly)(hA:Dih A)(hB:Dih B)(μ:Hm)(Q:D×Hm->Prop):W (f (k+1) "_law_then" [LD A,LD B] μ) Q↔Q (LD (c5 A B),μ):=by
 obtain ⟨h1,h2,h3,h4⟩:=hB.sm
 have e4:([D.int (B.a * A.a+B.b * A.c),.int (B.a * A.b+B.b * A.d),.int (B.c * A.a+B.d * A.c),.int (B.c * A.b+B.d * A.d)]:List D).length<=RL:=by show (4:Nat)<=RL;decide
 rw [Pf,W_fin]
 simp only [aP,mD,bI,aE,yW,RA,RB,w_mRet,e8,aR,aM,aT,aF,iC h1,iC h2,iC h3,iC h4,gP,eN,e4,true_and]
 rw [P0 ⟨by simp,by simp,by show (6:Nat)<=RL;decide⟩]
 rfl
theorem P2 (k:Nat)(ns:List Int)(i:Int)(hi:0<=i/\i<=100)(μ:Hm)(Q:D×Hm->Prop)(H:∀ v μ',μ <+: μ'->Q (.int v,μ')):W (f (k+1) "_law_given" [.rol (ns.map D.int),.int i] μ) Q:=by
 rw [O7,W_fin]
 simp only [aP,cY,cZ,aT,bF,aR,aM,aE,aF,bC,DC,pS,Ro]
 by_cases h:i<ns.length
 ·simp only [h,decide_true,if_true,w_mRet,aT,aE,aF]
  rw [DK (DJ hi.1 h)]
  exact H _ _ (Ti _)
 ·simp only [h,decide_false,RE,if_false,cU,aP,bI,aT,aE,aF,bC,gP]
  refine (jB (.inl (by omega))).mpr ((jB (.inr (by decide))).mpr ?_)
  simp only [RA,RB,w_mRet,pP,cZ,aT,aE,aF,gO,aM,bC]
  refine ⟨SF _,(PC (bP _ _)).mpr ?_⟩
  by_cases h0:ns=[]
  ·have e:(ns == [])=true:=by rw [h0];rfl
   rw [e]
   simp only [if_true]
   exact H _ _ (a8 _ _)
  ·have e:(ns == [])=false:=by
    cases ns with
    | nil=>exact absurd rfl h0
    | cons=>rfl
   have hp:0<ns.length:=WZ.mpr h0
   rw [e]
   simp only [RE,if_false,bF,aR,aM,aE,aF,DC,Ro]
   refine (dX (by omega)).mpr ?_
   have hm:0<=i % (ns.length:Int)/\i % (ns.length:Int)<ns.length:=⟨Vk _ (by omega),UQ _ (by omega)⟩
   rw [DK (DJ hm.1 hm.2)]
   simp only [gP]
   refine (jB (.inr (by omega))).mpr ?_
   simp only [gP]
   exact H _ _ (a8 _ _)
theorem nX (k:Nat)(ns:List Int)(i:Int)(hi:0<=i/\i<=100)(μ:Hm)(Q:D×Hm->Prop)(H:∀ v μ',0<=v->v<2147483647->μ <+: μ'->Q (.int v,μ')):W (f (k+2) "_law_number" [.rol (ns.map D.int),.int i] μ) Q:=by
 rw [O8,W_fin]
 simp only [aP,bI,aT,bF,aR,aM,aE,aF,bC]
 refine P2 k ns i hi _ _ fun v μ1 p1=>?_
 refine (dX (by decide)).mpr ((jB (.inl (by decide))).mpr ?_)
 simp only [gP,RA,RB,w_mRet,aT,aE,aF,bC]
 have h1:=Vk v (show (1000003:Int)≠0 by decide)
 have h2:=UQ v (show (0:Int)<1000003 by decide)
 refine (jB (.inl (by omega))).mpr ((jB (.inr (by decide))).mpr ((dX (by decide)).mpr ?_))
 exact H _ _ (Vk _ (by decide)) (UQ _ (by decide)) p1
theorem w_eqBl {μ:Hm}{x y:Bool}{Q:D×Hm->Prop}:W (aW false (.bl x) (.bl y) μ) Q↔Q (.bl (x == y),μ):=W_some
noncomputable def yY (x y:Int):Bool:=(x % 4 == 2&&y % 2 == 1)||(y % 4 == 2&&x % 2 == 1)
noncomputable def cO (w h:Int):List (Int×Int):=(iN 1 (4 * w - 1).toNat (4 * h - 1).toNat).filter fun p=>yY p.1 p.2
theorem P4 (k:Nat)(w h:Int)(hw:1<=w/\w<=3)(hh:1<=h/\h<=3)(μ:Hm)(Q:D×Hm->Prop)(H:Q (.loc μ.length,μ++[.lst ((cO w h).map PP)])):W (f (k+1) "_law_quarters" [.int w,.int h] μ) Q:=by
 rw [O9,W_fin]
 simp only [aP,bI,gO,aM]
 refine ⟨SF _,?_⟩
 simp only [RA,RB,eM,sV,aR,aM,bC,aT,aE,aF,pV]
 refine ⟨by omega,?_⟩
 refine DV _ yY _ _ _ _ 1 (4 * h - 1).toNat (fun o1 o2 μ Q=>?_) (fun x y μ Q=>?_) (4 * w - 1).toNat (DW hw hh).2 _ (bP _ _) _ fun o1 o2=>?_
 ·simp only [sV,aR,aM,bC,aT,aE,aF,pV]
  exact and_iff_right (by omega)
 ·simp only [pR,pQ,cZ,aT,aE,aF,bC,pW,nU,hW,gP]
  unfold yY
  cases x % 4 == 2<;>cases y % 2 == 1<;>cases y % 4 == 2<;>cases x % 2 == 1<;>simp
 ·simp only [w_mRet,aE,aF]
  rw [DT]
  exact H
theorem fR {w:Int}(h:1<=w/\w<=3):w∈[(1:Int),2,3]:=by
 have:w=1\/w=2\/w=3:=by omega
 rcases this with rfl|rfl|rfl<;>decide
noncomputable def pY:List (List Int)->Bool
 | x::y::r=>HT.lexLt x y&&pY (y::r)
 | _=>true
theorem P5:∀ w∈[(1:Int),2,3],∀ h∈[(1:Int),2,3],(cO w h).length<=36/\1<=(cO w h).length/\pY ((cO w h).map aU)=true:=by decide +kernel
theorem yZ:∀ {l:List (List Int)},pY l=true->l.Pairwise fun x y=>HT.lexLt x y=true
 | [],_=>.nil
 | [x],_=>YD _ _
 | x::y::r,h=>by
  unfold pY at h
  rw [RF] at h
  have ih:=yZ h.2
  refine Zs.mpr ⟨fun z hz=>?_,ih⟩
  rcases Sa.mp hz with rfl|hz
  ·exact h.1
  ·exact nC _ _ _ h.1 ((Zs.mp ih).1 z hz)
theorem P7 {a b:List Int}(h:HT.lexLt a b=true):HT.lexLt b a=false:=by
 cases e:HT.lexLt b a with
 | false=>rfl
 | true=>
  have:=nC _ _ _ h e
  rw [lR] at this
  exact this.symm
noncomputable def Dc (μ:Hm)(a:Nat)(kvs:List (List Int×D)):Prop:=μ[a]? = some (.dT kvs)\/μ[a]? = some (.dF kvs)
theorem eP {μ:Hm}{a:Nat}{kvs:List (List Int×D)}{y d:D}{k:List Int}{Q:D×Hm->Prop}(h:Dc μ a kvs)(hk:dG y=some k)(hv:bO kvs k=some d):W (aL (.loc a) y μ) Q↔Q (d,μ):=by
 have:aL (.loc a) y μ=some (d,μ):=by
  rcases h with h|h<;>simp only [aL,h,hk,R6,hv,Sb]
 rw [this]
 exact W_some
theorem y1 {i:Nat}{m1 m2:MS}{ρ:aH}{μ:Hm}{a:Nat}{kvs:List (List Int×D)}{Q:Fl×aH×Hm->Prop}(h:ρ[i]? = some (some (.loc a)))(hc:μ[a]? = some (.dT kvs))
  (H:W (m1 ρ (μ.set a (.dF kvs))) fun r=>r.2.2[a]? = some (.dF kvs)/\Q (r.1,r.2.1,r.2.2.set a (.dT kvs))):W (dW i m1 m2 ρ μ) Q:=by
 have e:nJ i ρ μ=some (a,kvs):=by simp only [nJ,h,hc]
 unfold dW
 rw [e]
 rw [W_bind]
 refine bQ H fun r q=>?_
 rw [q.1]
 exact W_some.mpr q.2
theorem tD {i j:Nat}{body:MS}{m2:MS}{ρ:aH}{μ:Hm}{a:Nat}{kvs:List (List Int×D)}{Q:Fl×aH×Hm->Prop}(hi:ρ[i]? = some (some (.loc a)))(hc:μ[a]? = some (.dT kvs))(I:Nat->aH->Hm->Prop)
  (h0:I 0 ρ (μ.set a (.dF kvs)))(go:∀ n k d ρ' μ',kvs[n]? = some (k,d)->I n ρ' μ'->W (body (ρ'.set j (some (.tup (k.map D.int)))) μ') fun p=>p.1=.nx/\I (n+1) p.2.1 p.2.2)
  (stop:∀ ρ' μ',I kvs.length ρ' μ'->μ'[a]? = some (.dF kvs)/\Q (.nx,ρ',μ'.set a (.dT kvs))):W (dW i (bX (eA (aA i)) (cA j) body) m2 ρ μ) Q:=by
 refine y1 hi hc ?_
 have gF:(μ.set a (.dF kvs))[a]? = some (.dF kvs):=cC hc
 have hit:eA (aA i) ρ (μ.set a (.dF kvs))=some (dU (.tup (dP kvs)),kvs.length+1,μ.set a (.dF kvs)):=by
  simp only [eA,aA,hi,R6,gF]
 rw [eM,hit,W_some]
 refine kY (N:=kvs.length) I (fun n ρ' μ' hn hI=>?_) (fun ρ' μ' hI=>⟨?_,stop ρ' μ' hI⟩) kvs.length 0 ρ _ (by omega) h0
 ·have e:kvs[n]? = some (kvs[n].1,kvs[n].2):=RN hn
  refine ⟨.tup (kvs[n].1.map D.int),_,?_,rfl,bQ (go n _ _ ρ' μ' e hI) fun p q=>?_⟩
  ·show some ((dP kvs)[n]?)=_
   unfold dP
   rw [RR,e]
   rfl
  ·rw [q.1]
   exact q.2
 ·show some ((dP kvs)[kvs.length]?)=_
  rw [Ts (by unfold dP;simp)]
structure HI (μ:Hm)(a:Nat)(Z:Zr):Prop where
 dic:Dc μ a (aN Z)
 kd:(Z.map (·.1)).Nodup
 at_:∀ z∈Z,μ[z.2.2]? = some (.lst (z.2.1.map PP))
theorem Dc.more {μ μ':Hm}{a:Nat}{kvs:List (List Int×D)}(I:Dc μ a kvs)(h:μ <+: μ'):Dc μ' a kvs:=I.elim (fun e=>.inl (aJ h e)) fun e=>.inr (aJ h e)
theorem HI.more {μ μ':Hm}{a:Nat}{Z:Zr}(I:HI μ a Z)(h:μ <+: μ'):HI μ' a Z:=⟨I.dic.more h,I.kd,fun z hz=>aJ h (I.at_ z hz)⟩
theorem HI.ne {μ:Hm}{a b:Nat}{kvs:List (List Int×D)}{Z:Zr}(I:HI μ a Z)(h:Dc μ b kvs){z:(Int×Int)×List (Int×Int)×Nat}(hz:z∈Z):z.2.2≠b:=fun e=>by
 have h1:=I.at_ z hz
 rw [e] at h1
 rcases h with h|h<;>(rw [h] at h1;cases h1)
theorem HI.frz {μ:Hm}{a b:Nat}{kvs:List (List Int×D)}{Z:Zr}(I:HI μ a Z)(h:μ[b]? = some (.dT kvs)):HI (μ.set b (.dF kvs)) a Z:=by
 refine ⟨?_,I.kd,fun z hz=>by rw [Rz (So (I.ne (.inl h) hz))];exact I.at_ z hz⟩
 by_cases e:b=a
 ·subst e
  have:kvs=aN Z:=by
   rcases I.dic with w|w
   ·rw [h] at w;injection w with w;injection w
   ·rw [h] at w;cases w
  rw [<- this]
  exact .inr (cC h)
 ·unfold Dc
  rw [Rz e]
  exact I.dic
theorem GI.hi {μ0 μ:Hm}{a:Nat}{Z:Zr}(I:GI μ0 μ a Z):HI μ a Z:=⟨.inl I.dic,I.kd,fun z hz=>(I.at_ z hz).2⟩
theorem pZ {μ μ1:Hm}{a:Nat}{kvs:List (List Int×D)}(hc:μ[a]? = some (.dT kvs))(h:μ.set a (.dF kvs) <+: μ1):μ <+: μ1.set a (.dT kvs):=by
 obtain ⟨t,rfl⟩:=h
 have hl:a<μ.length:=(Rw.mp hc).1
 rw [U2 _ _ (by rw [SE];exact hl),YJ,yV hc]
 exact Vi _ _
theorem GI.frz {μ0 μ:Hm}{a b:Nat}{kvs kvs':List (List Int×D)}{Z:Zr}(I:GI μ0 μ a Z)(h:Dc μ b kvs)(hb:b≠a)(c:C)(h0:μ0.length<=b):GI μ0 (μ.set b c) a Z:=
 ⟨cT I.pre h0 c,I.lo,by rw [Rz hb];exact I.dic,I.kd,I.bd,fun z hz=>⟨(I.at_ z hz).1,by rw [Rz (So (I.hi.ne h hz))];exact (I.at_ z hz).2⟩⟩
theorem y8 {i:Nat}{ρ:aH}{μ:Hm}{d:D}{Q:D×Hm->Prop}(h:ρ[i]? = some (some d)):W (aA i ρ μ) Q↔Q (d,μ):=by
 have:aA i ρ μ=some (d,μ):=by simp only [aA,h]
 rw [this]
 exact W_some
theorem tE {Z:Zr}{n:Nat}{k:List Int}{d:D}(h:(aN Z)[n]? = some (k,d)):∃ z∈Z,Z[n]? = some z/\k=aU z.1/\d=.loc z.2.2:=by
 unfold aN at h
 rw [RR] at h
 obtain ⟨z,h1,h2⟩:=Rv.mp h
 cases h2
 exact ⟨z,Sf h1,h1,rfl,rfl⟩
theorem fS {α:Type}{l:List α}{n:Nat}{x:α}(h:l[n]? = some x):l.take (n+1)=l.take n++[x]:=by
 rw [List.take_add_one,h]
 rfl
theorem k7 {α:Type}{l:List α}(nd:l.Nodup){n:Nat}{x:α}(h:l[n]? = some x):x∉l.take n:=fun hx=>by
 obtain ⟨j,hj⟩:=UW.mp hx
 have hjn:j<n:=by
  have:=(Rw.mp hj).1
  rw [SJ] at this
  omega
 rw [Yw hjn] at hj
 have hn:n<l.length:=(Rw.mp h).1
 have e1:=(Rw.mp hj).2
 have e2:=(Rw.mp h).2
 exact absurd ((Z5 nd).mp (e1.trans e2.symm)) (by omega)
theorem Ee {α:Type}:∀ xs:List α,(SG xs.length).filterMap (fun i=>xs[i]?)=xs
 | []=>rfl
 | x::xs=>by
  rw [SD,YK,TX,List.filterMap_map]
  show x::(SG xs.length).filterMap (fun i=>(x::xs)[i+1]?)=x::xs
  simp only [YE]
  rw [Ee xs]
noncomputable def Ef (n:Nat)(lo:Option Int):List Nat:=YR (Ua lo none (some 2) n).1 (Ua lo none (some 2) n).2.1 (Ua lo none (some 2) n).2.2
theorem P8:∀ n∈SG 64,((Ef n (some 1))++Ef n none).isPerm (SG n)=true:=by decide +kernel
theorem nY {α β:Type}(g:α->β)(xs:List α)(lo:Option Int):cS (xs.map g) lo none (some 2)=(cS xs lo none (some 2)).map g:=by
 unfold cS
 rw [Ro,List.map_filterMap]
 congr 1
 funext i
 rw [RR]
theorem tF {α:Type}(xs:List α)(h:xs.length<64):(cS xs (some 1) none (some 2)++cS xs none none (some 2)).Perm xs:=by
 have e:=(List.isPerm_iff.mp (P8 xs.length (S9.mpr h))).filterMap fun i=>xs[i]?
 rw [Ee,List.filterMap_append] at e
 exact e
noncomputable abbrev aX (v:Int×Int->D)(ps:List (Int×Int)):List (List Int×D):=ps.map fun p=>(aU p,v p)
theorem jI {v:Int×Int->D}{ps:List (Int×Int)}(nd:ps.Nodup){p:Int×Int}(h:p∈ps):bO (aX v ps) (aU p)=some (v p):=by
 refine DX ?_ (RG.mpr ⟨p,h,rfl⟩)
 rw [RU]
 exact WI _ (fun a b hab x=>hab (mI x)) nd
theorem y9 {v:Int×Int->D}{ps:List (Int×Int)}{p:Int×Int}(h:p∉ps):bO (aX v ps) (aU p)=none:=by
 unfold bO
 rw [V5.mpr]
 ·rfl
 ·intro x hx
  obtain ⟨z,hz,rfl⟩:=RG.mp hx
  rw [decide_eq_true_iff]
  exact fun e=>h (mI e ▸ hz)
theorem tG {v:Int×Int->D}{ps:List (Int×Int)}{p:Int×Int}(h:p∉ps):dC (aX v ps) (aU p) (v p)=aX v (ps++[p]):=by
 unfold dC
 rw [y9 h,if_neg (by simp)]
 show _=a0u _ _
 rw [Se]
 rfl
noncomputable def cF (ps:List (Int×Int)):List (Int×Int):=(b8 (fun i j=>HT.lexLt ((ps.map aU).getD i []) ((ps.map aU).getD j [])) ps.length).map fun i=>ps.getD i (0,0)
theorem jJ (ps:List (Int×Int)):(cF ps).Perm ps:=by
 have p:=(iW (fun i j=>HT.lexLt ((ps.map aU).getD i []) ((ps.map aU).getD j [])) ps.length).map fun i=>ps.getD i (0,0)
 rw [PK] at p
 exact p
theorem Eg (v:Int×Int->D)(ps:List (Int×Int)):j4 (aX v ps)=aX v (cF ps):=by
 unfold j4 cF aX
 have ek:(ps.map fun p=>(aU p,v p)).map (·.1)=ps.map aU:=by rw [RU];rfl
 rw [ek,Ro,RU]
 refine Sg fun i hi=>?_
 have hi:i<ps.length:=S9.mp ((iW _ _).mem_iff.mp hi)
 simp [S3,hi]
theorem zA (ps:List (Int×Int)):((cF ps).map aU).Pairwise fun x y=>HT.lexLt y x=false:=by
 by_cases h:ps=[]
 ·subst h
  have:cF []=[]:=by
   have:=(jJ []).length_eq
   exact Vn.mp this
  rw [this]
  exact .nil
 have h0:0<ps.length:=WZ.mpr h
 have S:=K7 (lt:=HT.lexLt) lR nC D2 [] (ps.map aU) (n:=ps.length) h0
 unfold cF
 rw [RU,Xj]
 have hm:∀ i∈b8 (fun i j=>HT.lexLt ((ps.map aU).getD i []) ((ps.map aU).getD j [])) ps.length,aU (ps.getD i (0,0))=(ps.map aU).getD i []:=fun i hi=>by
  have hi:i<ps.length:=S9.mp ((iW _ _).mem_iff.mp hi)
  simp [S3,hi]
 exact S.imp_of_mem fun {i j} hi hj h=>by
  show HT.lexLt (aU (ps.getD j (0,0))) (aU (ps.getD i (0,0)))=false
  rw [hm i hi,hm j hj]
  exact h
theorem srt_eq {ps qs:List (Int×Int)}:cF ps=cF qs↔ps.Perm qs:=by
 constructor
 ·intro h
  exact (jJ ps).symm.trans (h ▸ jJ qs)
 ·intro h
  have e:(cF ps).map aU=(cF qs).map aU:=V0 (le:=fun x y=>HT.lexLt y x=false) (fun a b _ _ h1 h2=>(yX b a h1 h2).symm) (zA ps) (zA qs) ((((jJ ps).trans h).trans (jJ qs).symm).map _)
  have inj:∀ {a b:List (Int×Int)},a.map aU=b.map aU->a=b:=fun {a}=>by
   induction a with
   | nil=>intro b h;cases b with
    | nil=>rfl
    | cons=>cases h
   | cons x a ih=>intro b h;cases b with
    | nil=>cases h
    | cons y b=>
     rw [RM,RM] at h
     injection h with h1 h2
     rw [mI h1,ih h2]
  exact inj e
theorem Eh {μ:Hm}{a:Nat}{v:Int×Int->D}{ps:List (Int×Int)}{Q:D×Hm->Prop}(h:μ[a]? = some (.dT (aX v ps)))(h1:ps.length<64):W (i8 [.loc a] μ) Q↔Q (.loc μ.length,μ++[.lst ((cF ps).map PP)]):=by
 rw [PM h (by rw [Ro];exact h1) (fun p hp z=>by obtain ⟨x,_,rfl⟩:=RG.mp hp;cases z),Eg,RU]
 rfl
theorem P9 {i j c l:Nat}{ρ:aH}{μ0 μ:Hm}{a b:Nat}{v:Int×Int->D}{ps ks:List (Int×Int)}(hi:ρ[i]? = some (some (.loc a)))(hc:ρ[c]? = some (some (.loc b)))(hj:ρ[j]? = some none)(ij:j≠i)(cj:j≠c)(pre:μ0 <+: μ)(lo:μ0.length<=b)
  (gb:μ[b]? = some (.dT []))(ga:μ0[a]? = some (.dT (aX v ps)))(gl:μ[l]? = some (.lst (ks.map PP)))(nd:ps.Nodup)(hp:ks.Perm ps)(hl:ps.length<=100)(Q:Fl×aH×Hm->Prop)
  (H:∀ o μ',μ0 <+: μ'->μ'[b]? = some (.dT (aX v ks))->Q (.nx,ρ.set j o,μ')) :
  W (dS (dU (.loc l)) (cA j) (cB (aA c) (aA j) (aB aL (aA i) (aA j))) ((ks.map PP).length+1) 0 ρ μ) Q:=by
 have hj0:ρ.set j none=ρ:=by
  refine Vv fun x=>?_
  by_cases e:j=x
  ·subst e
   rw [SA (Rw.mp hj).1,hj]
  ·rw [Rz e]
 have lb:l≠b:=fun e=>by rw [e,gb] at gl;cases gl
 refine kZ (fun n ρ' μ'=>∃ o,ρ'=ρ.set j o/\μ0 <+: μ'/\μ'[b]? = some (.dT (aX v (ks.take n)))/\μ'[l]? = some (.lst (ks.map PP))) ⟨none,hj0.symm,pre,gb,gl⟩ (fun _ _ _ ⟨_,_,_,_,h⟩=>h) ?_ ?_
 ·rintro n d ρ' μ' hd ⟨o,rfl,p1,g1,g2⟩
  obtain ⟨q,hq,rfl⟩:=nV hd
  have hqm:q∈ps:=hp.mem_iff.mp (Sf hq)
  refine ⟨_,rfl,?_⟩
  rw [YJ]
  have v1:(ρ.set j (some (PP q)))[i]? = some (some (.loc a)):=by rw [Rz ij];exact hi
  have v2:(ρ.set j (some (PP q)))[c]? = some (some (.loc b)):=by rw [Rz cj];exact hc
  have v3:(ρ.set j (some (PP q)))[j]? = some (some (PP q)):=by rw [SA (Rw.mp hj).1]
  simp only [iA,aT,y8 v1,y8 v2,y8 v3]
  refine (eP (.inl (aJ p1 ga)) (cH q) (jI nd hqm)).mpr ?_
  have hn:n<ks.length:=(Rw.mp hq).1
  have hkl:=hp.length_eq
  refine (iM g1 (cH q) (by rw [Ro,SJ,Sh];omega)).mpr ?_
  refine ⟨some (PP q),rfl,cT p1 lo _,?_,by rw [Rz (So lb)];exact g2⟩
  rw [cC g1,tG (k7 (hp.nodup_iff.mpr nd) hq),fS hq]
 ·rintro ρ' μ' ⟨o,rfl,p1,g1,g2⟩
  refine H o μ' p1 ?_
  rw [Ro,Tu] at g1
  exact g1
theorem Qa (ps:List (Int×Int)):(cF ps).length=ps.length:=(jJ ps).length_eq
theorem Qb {ps:List (Int×Int)}(h:(ps.map aU).Pairwise fun x y=>HT.lexLt y x=false):cF ps=ps:=by
 have e:(cF ps).map aU=ps.map aU:=V0 (le:=fun x y=>HT.lexLt y x=false) (fun a b _ _ h1 h2=>(yX b a h1 h2).symm) (zA ps) h ((jJ ps).map _)
 have inj:∀ {a b:List (Int×Int)},a.map aU=b.map aU->a=b:=fun {a}=>by
  induction a with
  | nil=>intro b h;cases b with
   | nil=>rfl
   | cons=>cases h
  | cons x a ih=>intro b h;cases b with
   | nil=>cases h
   | cons y b=>
    rw [RM,RM] at h
    injection h with h1 h2
    rw [mI h1,ih h2]
 exact inj e
noncomputable def j9 (Z:Zr)(p:Int×Int):D:=match Z.find? (fun z=>decide (z.1=p)) with|some z=>.loc z.2.2|none=>.non
theorem zB {Z:Zr}(kd:(Z.map (·.1)).Nodup){z:(Int×Int)×List (Int×Int)×Nat}(h:z∈Z):j9 Z z.1=.loc z.2.2:=by
 unfold j9
 induction Z with
 | nil=>cases h
 | cons x Z ih=>
  rw [RM,Sv] at kd
  rw [SK]
  rcases Sa.mp h with rfl|h
  ·rw [decide_eq_true rfl]
  ·have e:decide (x.1=z.1)=false:=decide_eq_false fun e=>kd.1 (by rw [e];exact RG.mpr ⟨z,h,rfl⟩)
   rw [e]
   exact ih kd.2 h
theorem Ei {Z:Zr}(kd:(Z.map (·.1)).Nodup):aN Z=aX (j9 Z) (Z.map (·.1)):=by
 unfold aN aX
 rw [RU]
 exact Sg fun z hz=>by show _=(aU z.1,j9 Z z.1);rw [zB kd hz]
theorem Ej {μ:Hm}{a:Nat}{Z:Zr}{Q:D×Hm->Prop}(kd:(Z.map (·.1)).Nodup)(h:μ[a]? = some (.dT (aN Z)))(h1:Z.length<64):W (i8 [.loc a] μ) Q↔Q (.loc μ.length,μ++[.lst ((cF (Z.map (·.1))).map PP)]):=by
 rw [Ei kd] at h
 exact Eh h (by rw [Ro];exact h1)
theorem qA {Z:Zr}(kd:(Z.map (·.1)).Nodup){z:(Int×Int)×List (Int×Int)×Nat}(h:z∈Z):bR (GZ Z) z.1=z.2.1:=eH (by rw [eE];exact kd) (g:=(z.1,z.2.1)) (RG.mpr ⟨z,h,rfl⟩)
theorem Qc {Z:Zr}{d:D}(h:d∈dP (aN Z)):∃ p∈Z.map (·.1),d=PP p:=by
 obtain ⟨kd,hk,rfl⟩:=RG.mp h
 obtain ⟨z,hz,rfl⟩:=RG.mp hk
 exact ⟨z.1,RG.mpr ⟨z,hz,rfl⟩,rfl⟩
theorem Qd (Z:Zr):dP (aN Z)=(Z.map (·.1)).map PP:=by
 unfold dP aN
 rw [RU,RU]
 rfl
theorem Qe {i:Nat}{ρ:aH}{μ:Hm}{a:Nat}{kvs:List (List Int×D)}(hi:ρ[i]? = some (some (.loc a)))(gF:μ[a]? = some (.dF kvs)):eA (aA i) ρ μ=some (dU (.tup (dP kvs)),kvs.length+1,μ):=by
 simp only [eA,aA,hi,R6,gF]
theorem Qf (p:Int×Int):jE (PP p)=p:=rfl
noncomputable def qB (Z:Zr)(p:Int×Int):Nat:=match Z.find? (fun z=>decide (z.1=p)) with|some z=>z.2.2|none=>0
theorem Ek {Z:Zr}(kd:(Z.map (·.1)).Nodup){z:(Int×Int)×List (Int×Int)×Nat}(h:z∈Z):qB Z z.1=z.2.2:=by
 have e:=zB kd h
 unfold j9 at e
 unfold qB
 split at e
 ·rename_i y hy
  try rw [hy]
  injection e
 ·cases e
noncomputable def gQ (Z:Zr)(ks:List (Int×Int)):Zr:=ks.map fun p=>(p,bR (GZ Z) p,qB Z p)
theorem tH (Z:Zr)(ks:List (Int×Int)):(gQ Z ks).map (·.1)=ks:=by
 unfold gQ
 rw [RU]
 exact WR _
theorem Em {Z:Zr}(kd:(Z.map (·.1)).Nodup){ks:List (Int×Int)}(hk:ks.Perm (Z.map (·.1))){y:(Int×Int)×List (Int×Int)×Nat}(h:y∈gQ Z ks):y∈Z:=by
 obtain ⟨p,hp,rfl⟩:=RG.mp h
 obtain ⟨z,hz,rfl⟩:=nW (hk.mem_iff.mp hp)
 rw [qA kd hz,Ek kd hz]
 exact hz
theorem Qg {Z:Zr}(kd:(Z.map (·.1)).Nodup){ks:List (Int×Int)}(hk:ks.Perm (Z.map (·.1))):aN (gQ Z ks)=aX (j9 Z) ks:=by
 unfold aN gQ aX
 rw [RU]
 refine Sg fun p hp=>?_
 obtain ⟨z,hz,rfl⟩:=nW (hk.mem_iff.mp hp)
 show (aU z.1,D.loc (qB Z z.1))=(aU z.1,j9 Z z.1)
 rw [Ek kd hz,zB kd hz]
theorem Eo {Z:Zr}(kd:(Z.map (·.1)).Nodup){ks:List (Int×Int)}(hk:ks.Perm (Z.map (·.1)))(p:Int×Int):bR (GZ (gQ Z ks)) p=bR (GZ Z) p:=by
 have kd':((gQ Z ks).map (·.1)).Nodup:=by rw [tH];exact hk.nodup_iff.mpr kd
 by_cases h:p∈ks
 ·have hm:(p,bR (GZ Z) p,qB Z p)∈gQ Z ks:=RG.mpr ⟨p,h,rfl⟩
  exact qA kd' hm
 ·rw [jH (by rw [eE,tH];exact h),jH (by rw [eE];exact fun w=>h (hk.mem_iff.mpr w))]
theorem GI.mut {μ0 μ:Hm}{a:Nat}{Z:Zr}(I:GI μ0 μ a Z){z:(Int×Int)×List (Int×Int)×Nat}(hz:z∈Z)(L:List (Int×Int)) :
  GI μ0 (μ.set z.2.2 (.lst (L.map PP))) a (Z.map fun y=>if y.1=z.1 then (y.1,L,y.2.2) else y):=by
 have ek:(Z.map fun y=>if y.1=z.1 then (y.1,L,y.2.2) else y).map (·.1)=Z.map (·.1):=by
  rw [RU]
  refine Sg fun y _=>?_
  show (if y.1=z.1 then (y.1,L,y.2.2) else y).1=y.1
  split<;>rfl
 have eb:(Z.map fun y=>if y.1=z.1 then (y.1,L,y.2.2) else y).map (·.2.2)=Z.map (·.2.2):=by
  rw [RU]
  refine Sg fun y _=>?_
  show (if y.1=z.1 then (y.1,L,y.2.2) else y).2.2=y.2.2
  split<;>rfl
 have ev:aN (Z.map fun y=>if y.1=z.1 then (y.1,L,y.2.2) else y)=aN Z:=by
  unfold aN
  rw [RU]
  refine Sg fun y _=>?_
  show (aU (if y.1=z.1 then (y.1,L,y.2.2) else y).1,D.loc (if y.1=z.1 then (y.1,L,y.2.2) else y).2.2)=_
  split<;>rfl
 refine ⟨cT I.pre (I.at_ z hz).1 _,I.lo,?_,by rw [ek];exact I.kd,by rw [eb];exact I.bd,fun y hy=>?_⟩
 ·rw [ev,Rz (I.ne hz)]
  exact I.dic
 ·obtain ⟨x,hx,rfl⟩:=RG.mp hy
  obtain ⟨l1,l2⟩:=I.at_ x hx
  by_cases e:x.1=z.1
  ·have:x=z:=DZ I.kd hx hz e
   subst this
   rw [if_pos rfl]
   exact ⟨l1,cC l2⟩
  ·rw [if_neg e]
   refine ⟨l1,?_⟩
   rw [Rz fun w=>e (by rw [D0 I.bd hx hz w.symm])]
   exact l2
theorem Qh {L:List (Int×Int)}{i:Int}{q:Int×Int}{j:Nat}(hj:fV L.length i=some j)(hq:L[j]? = some q):atI (L.map PP) i=some (PP q):=by
 unfold atI
 rw [Ro,hj,R6,RR,hq]
 rfl
theorem Qi {K:List (List Int×D)}{k:List Int}{d:D}(h:bO K k=none):dC K k d=K++[(k,d)]:=by
 unfold dC
 rw [h,if_neg (by simp)]
theorem Qj {K:List (List Int×D)}{k:List Int}{d e:D}(h:bO K k=none):dC (K++[(k,d)]) k e=K++[(k,e)]:=by
 have hn:∀ p∈K,p.1≠k:=fun p hp w=>by
  unfold bO at h
  rw [Option.map_eq_none_iff,V5] at h
  exact h p hp (decide_eq_true w)
 have hs:(bO (K++[(k,d)]) k).isSome=true:=by
  unfold bO
  rw [Wa,List.find?_isSome]
  exact ⟨(k,d),S8.mpr (.inr (Sk.mpr rfl)),decide_eq_true rfl⟩
 unfold dC
 rw [if_pos hs,Se]
 have:(K.map fun p=>if p.1=k then (p.1,e) else p)=K:=by
  have w:(K.map fun p=>if p.1=k then (p.1,e) else p)=K.map id:=Sg fun p hp=>if_neg (hn p hp)
  rw [w,WR]
 rw [this]
 simp
noncomputable def cN (u n:Int)(a:Bool)(p:Int×Int):Bool:=decide (n<jG u p) == a
noncomputable def cI (u n:Int)(a:Bool)(F:Int×Int->Ly)(q:Int×Int):Ly:=if cN u n a (aY (F q) q) then c5 (F q) (b6 u n) else F q
theorem Ep {u n:Int}{a:Bool}{F:Int×Int->Ly}(hF:∀ q,Dih (F q))(q:Int×Int):Dih (cI u n a F q):=by
 unfold cI
 split
 ·exact yT (hF q) (sZ u n)
 ·exact hF q
theorem zC (u n:Int)(a:Bool)(F:Int×Int->Ly)(q:Int×Int):aY (cI u n a F q) q=if cN u n a (aY (F q) q) then aY (b6 u n) (aY (F q) q) else aY (F q) q:=by
 unfold cI
 split
 ·rw [mH]
 ·rfl
theorem Qk (k:Nat){μ0 μ:Hm}{w h b:Nat}{u n:Int}{a o:Bool}(hu:0<=u/\u<4){F:Int×Int->Ly}(hF:∀ q,Dih (F q)){qs:List (Int×Int)}(nd:qs.Nodup)(hl:qs.length<=100){x6 x7 x11 x12 x13:Option D}{m2:MS}
  (pre:μ0 <+: μ)(lo:μ0.length<=b)(hw:μ0[w]? = some (.dT (aX (fun q=>LD (F q)) qs)))(gb:μ[b]? = some (.dT []))(Q:Fl×aH×Hm->Prop)
  (H:∀ x μ',μ0 <+: μ'->μ.length<=μ'.length->μ'[b]? = some (.dT (aX (fun q=>LD (cI u n a F q)) qs))->(∀ c y,μ0.length<=c->c≠b->μ[c]? = some y->μ'[c]? = some y)->Q (.nx,[some (.loc w),some (.loc h),some (.int u),some (.int n),some (.bl a),some (.bl o),x6,x7,some (LD (b6 u n)),some (.loc b),x,x11,x12,x13],μ')) :
  W (dW 0 (bX (eA (aA 0)) (cA 10) (aG (cB (aA 9) (aA 10) (aB aL (aA 0) (aA 10))) (bS (bD (aB (aW false) (aB fK (aK (f (k+1) "_law_value") (aC (aK (f (k+1) "_law_led") (aC (aB aL (aA 0) (aA 10)) (aC (aA 10) aD))) (aC (aA 2) aD))) (aA 3)) (aA 4))) (cB (aA 9) (aA 10) (aK (f (k+1) "_law_then") (aC (aB aL (aA 0) (aA 10)) (aC (aA 8) aD)))) bY))) m2
   [some (.loc w),some (.loc h),some (.int u),some (.int n),some (.bl a),some (.bl o),x6,x7,some (LD (b6 u n)),some (.loc b),none,x11,x12,x13] μ) Q:=by
 have hwl:w<μ0.length:=(Rw.mp hw).1
 have hm':=aJ pre hw
 have hpF:μ0.set w (.dF (aX (fun q=>LD (F q)) qs)) <+: μ.set w (.dF (aX (fun q=>LD (F q)) qs)):=by
  obtain ⟨t,rfl⟩:=pre
  rw [U2 _ _ hwl]
  exact Vi _ _
 have gF:(μ0.set w (.dF (aX (fun q=>LD (F q)) qs)))[w]? = some (.dF (aX (fun q=>LD (F q)) qs)):=cC hw
 refine tD rfl hm' (fun i ρ' μ'=>∃ x,ρ'=[some (.loc w),some (.loc h),some (.int u),some (.int n),some (.bl a),some (.bl o),x6,x7,some (LD (b6 u n)),some (.loc b),x,x11,x12,x13]/\μ0.set w (.dF (aX (fun q=>LD (F q)) qs)) <+: μ'/\μ.length<=μ'.length /\
  μ'[b]? = some (.dT (aX (fun q=>LD (cI u n a F q)) (qs.take i)))/\∀ c y,μ0.length<=c->c≠b->μ[c]? = some y->μ'[c]? = some y) ⟨none,rfl,hpF,by simp,by rw [Rz (by omega)];exact gb,fun c y hc _ e=>by rw [Rz (by omega)];exact e⟩ ?_ ?_
 ·rintro i kk d ρ' μ' hk ⟨x,rfl,p1,ln,g1,kp⟩
  unfold aX at hk
  rw [RR] at hk
  obtain ⟨q,hq,e⟩:=Rv.mp hk
  cases e
  have hqm:q∈qs:=Sf hq
  have hil:i<qs.length:=(Rw.mp hq).1
  have ew:D.tup ((aU q).map D.int)=PP q:=rfl
  simp only [RA,RB,ew]
  have it:∀ {ν:Hm}{Q:D×Hm->Prop},μ0.set w (.dF (aX (fun q=>LD (F q)) qs)) <+: ν->Q (LD (F q),ν)->W (aL (.loc w) (PP q) ν) Q:=fun hp h=>(eP (.inr (aJ hp gF)) (cH q) (jI nd hqm)).mpr h
  have vn:bO (aX (fun q=>LD (cI u n a F q)) (qs.take i)) (aU q)=none:=y9 (k7 nd hq)
  rw [aP]
  simp only [iA,aT,aE,aF]
  refine it p1 ((iM g1 (cH q) (by rw [Ro,SJ,Sh];omega)).mpr ?_)
  rw [Qi vn]
  have p2:μ0.set w (.dF (aX (fun q=>LD (F q)) qs)) <+: μ'.set b (.dT (aX (fun q=>LD (cI u n a F q)) (qs.take i)++[(aU q,LD (F q))])):=cT p1 (by rw [SE];exact lo) _
  have g2:(μ'.set b (.dT (aX (fun q=>LD (cI u n a F q)) (qs.take i)++[(aU q,LD (F q))])))[b]? = some (.dT (aX (fun q=>LD (cI u n a F q)) (qs.take i)++[(aU q,LD (F q))])):=cC g1
  have kp2:∀ c y,μ0.length<=c->c≠b->μ[c]? = some y->(μ'.set b (.dT (aX (fun q=>LD (cI u n a F q)) (qs.take i)++[(aU q,LD (F q))])))[c]? = some y:=fun c y h1 h2 e=>by rw [Rz (So h2)];exact kp c y h1 h2 e
  have ln2:μ.length<=(μ'.set b (.dT (aX (fun q=>LD (cI u n a F q)) (qs.take i)++[(aU q,LD (F q))]))).length:=by rw [SE];exact ln
  generalize μ'.set b (.dT (aX (fun q=>LD (cI u n a F q)) (qs.take i)++[(aU q,LD (F q))]))=μ2 at p2 g2 kp2 ln2
  simp only [cY,cZ,aT,bF,aR,aM,aE,aF]
  refine it p2 ((Ed k (F q) (hF q) q _ _).mpr ?_)
  refine tB k _ u hu _ _ fun μ3 p3=>?_
  simp only [pT]
  refine w_eqBl.mpr ?_
  have g3:=aJ p3 g2
  have et:aX (fun q=>LD (cI u n a F q)) (qs.take (i+1))=aX (fun q=>LD (cI u n a F q)) (qs.take i)++[(aU q,LD (cI u n a F q))]:=by
   unfold aX
   rw [fS hq,Se]
   rfl
  have hmv:cN u n a (aY (F q) q)=(decide (n<jG u (aY (F q) q)) == a):=rfl
  rw [<- hmv]
  cases hc:cN u n a (aY (F q) q) with
  | true=>
   simp only [if_true,iA,bF,aR,aM,aT,aE,aF]
   refine it (p2.trans p3) ((P1 k (F q) (b6 u n) (hF q) (sZ u n) _ _).mpr ?_)
   refine (iM g3 (cH q) (by rw [RV,Ro,SJ,Uj,Sh];omega)).mpr ?_
   rw [Qj vn]
   refine ⟨trivial,some (PP q),rfl,cT (p2.trans p3) (by rw [SE];exact lo) _,by rw [SE];exact SQ ln2 p3.length_le,?_,fun c y h1 h2 e=>?_⟩
   ·rw [cC g3,et]
    unfold cI
    rw [if_pos hc]
   ·rw [Rz (So h2)]
    exact aJ p3 (kp2 c y h1 h2 e)
  | false=>
   simp only [RE,if_false,cU]
   refine ⟨trivial,some (PP q),rfl,p2.trans p3,SQ ln2 p3.length_le,?_,fun c y h1 h2 e=>aJ p3 (kp2 c y h1 h2 e)⟩
   rw [g3,et]
   have:cI u n a F q=F q:=by
    unfold cI
    rw [if_neg (by rw [hc];exact RO)]
   rw [this]
 ·rintro ρ' μ' ⟨x,rfl,p1,ln,g1,kp⟩
  refine ⟨aJ p1 gF,H x _ (pZ hw p1) (by rw [SE];exact ln) ?_ fun c y h1 h2 e=>?_⟩
  ·rw [Rz (by omega),g1,Ro,Tu]
  ·rw [Rz (by omega)]
   exact kp c y h1 h2 e
theorem HI.put {μ:Hm}{s b:Nat}{Z:Zr}(I:HI μ s Z)(hs:μ[s]? = some (.dT (aN Z))){p:Int×Int}{L:List (Int×Int)}(hb:μ[b]? = some (.lst (L.map PP))) :
  ∃ Z',dC (aN Z) (aU p) (.loc b)=aN Z'/\GZ Z'=eF (GZ Z) p L/\HI (μ.set s (.dT (aN Z'))) s Z':=by
 have bs:b≠s:=fun e=>by rw [e,hs] at hb;cases hb
 have kdG:((GZ Z).map (·.1)).Nodup:=by rw [eE];exact I.kd
 by_cases hp:p∈Z.map (·.1)
 ·refine ⟨Z.map fun y=>if y.1=p then (y.1,L,b) else y,PL hp I.kd,?_,.inl (cC hs),?_,fun y hy=>?_⟩
  ·unfold eF
   rw [eE,if_pos (S1.mpr hp)]
   unfold GZ
   rw [RU,RU]
   refine Sg fun z _=>?_
   show ((if z.1=p then (z.1,L,b) else z).1,(if z.1=p then (z.1,L,b) else z).2.1)=if z.1=p then (z.1,L) else (z.1,z.2.1)
   split<;>rfl
  ·have e:(Z.map fun y=>if y.1=p then (y.1,L,b) else y).map (·.1)=Z.map (·.1):=by
    rw [RU]
    refine Sg fun y _=>?_
    show (if y.1=p then (y.1,L,b) else y).1=y.1
    split<;>rfl
   rw [e]
   exact I.kd
  ·obtain ⟨x,hx,rfl⟩:=RG.mp hy
   split
   ·rw [Rz (So bs)];exact hb
   ·rw [Rz (So (I.ne (.inl hs) hx))];exact I.at_ x hx
 ·refine ⟨Z++[(p,L,b)],D1 hp,?_,.inl (cC hs),?_,fun y hy=>?_⟩
  ·unfold eF
   rw [eE,if_neg (fun w=>hp (S1.mp w))]
   unfold GZ
   rw [Se]
   rfl
  ·rw [Se,Uu]
   exact ⟨I.kd,by simp,fun x hx y hy e=>by
    simp only [RM,U7,Sk] at hy
    rw [e,hy] at hx
    exact hp hx⟩
  ·rcases S8.mp hy with hy|hy
   ·rw [Rz (So (I.ne (.inl hs) hy))];exact I.at_ y hy
   ·rw [Sk.mp hy,Rz (So bs)];exact hb
theorem HI.off {μ:Hm}{a s:Nat}{Z:Zr}{kvs:List (List Int×D)}(I:HI μ a Z)(hs:μ[s]? = some (.dT kvs))(h:a≠s)(c:C):HI (μ.set s c) a Z:=by
 refine ⟨?_,I.kd,fun z hz=>by rw [Rz (So (I.ne (.inl hs) hz))];exact I.at_ z hz⟩
 unfold Dc
 rw [Rz (So h)]
 exact I.dic
theorem zD {G:Gr}{p:Int×Int}{L:List (Int×Int)}(h:p∉G.map (·.1)):eF G p L=G++[(p,L)]:=by
 unfold eF
 rw [if_neg (fun w=>h (S1.mp w))]
theorem Er (mv:Int×Int->Bool)(G:Gr)(g:(Int×Int)×List (Int×Int)):iD mv (G++[g])=if mv g.1 then iD mv G else iD mv G++[g]:=by
 unfold iD
 rw [Td]
 cases h:mv g.1<;>simp [h]
theorem Es (mv:Int×Int->Bool)(M:Int×Int->Int×Int)(G:Gr)(g:(Int×Int)×List (Int×Int)):fA mv M (G++[g])=if mv g.1 then fA mv M G++[(M g.1,g.2.reverse)] else fA mv M G:=by
 unfold fA
 rw [Td,Se]
 cases h:mv g.1<;>simp [h]
theorem Ql (k:Nat){μ0 μ:Hm}{w h s g:Nat}{u n:Int}{a o:Bool}(hu:0<=u/\u<4){Z:Zr}(I:HI μ0 h Z)(hh:μ0[h]? = some (.dT (aN Z)))(hl:Z.length<=100){x7 x9 x10 x13:Option D}{m2:MS}
  (pre:μ0 <+: μ)(ls:μ0.length<=s)(lg:μ0.length<=g)(sg:s≠g)(gs:μ[s]? = some (.dT []))(gg:μ[g]? = some (.dT []))(Q:Fl×aH×Hm->Prop)
  (H:∀ x S G μ',μ0 <+: μ'->HI μ' s S->μ'[s]? = some (.dT (aN S))->GZ S=iD (cN u n a) (GZ Z)->HI μ' g G->μ'[g]? = some (.dT (aN G))->GZ G=fA (cN u n a) (aY (b6 u n)) (GZ Z)->(∀ c y,μ0.length<=c->c≠s->c≠g->μ[c]? = some y->μ'[c]? = some y)->
   Q (.nx,[some (.loc w),some (.loc h),some (.int u),some (.int n),some (.bl a),some (.bl o),x,x7,some (LD (b6 u n)),x9,x10,some (.loc s),some (.loc g),x13],μ')) :
  W (dW 1 (bX (eA (aA 1)) (cA 6) (bS (bD (aB (aW false) (aB fK (aK (f (k+1) "_law_value") (aC (aA 6) (aC (aA 2) aD))) (aA 3)) (aA 4))) (cB (aA 12) (aK (f (k+1) "_law_led") (aC (aA 8) (aC (aA 6) aD))) (aK iH (aC (aB aL (aA 1) (aA 6)) aD))) (cB (aA 11) (aA 6) (aB aL (aA 1) (aA 6))))) m2
   [some (.loc w),some (.loc h),some (.int u),some (.int n),some (.bl a),some (.bl o),none,x7,some (LD (b6 u n)),x9,x10,some (.loc s),some (.loc g),x13] μ) Q:=by
 have hhl:h<μ0.length:=(Rw.mp hh).1
 have hm':=aJ pre hh
 have hpF:μ0.set h (.dF (aN Z)) <+: μ.set h (.dF (aN Z)):=by
  obtain ⟨t,rfl⟩:=pre
  rw [U2 _ _ hhl]
  exact Vi _ _
 have IF:=I.frz hh
 have len0:(μ0.set h (.dF (aN Z))).length=μ0.length:=SE
 have hi0:∀ {c:Nat}{ν:Hm},ν[c]? = some (.dT [])->HI ν c []:=fun e=>⟨.inl e,V4,fun z hz=>nomatch hz⟩
 have gs':(μ.set h (.dF (aN Z)))[s]? = some (.dT []):=by rw [Rz (by omega)];exact gs
 have gg':(μ.set h (.dF (aN Z)))[g]? = some (.dT []):=by rw [Rz (by omega)];exact gg
 refine tD rfl hm' (fun i ρ' μ'=>∃ x S G,ρ'=[some (.loc w),some (.loc h),some (.int u),some (.int n),some (.bl a),some (.bl o),x,x7,some (LD (b6 u n)),x9,x10,some (.loc s),some (.loc g),x13]/\μ0.set h (.dF (aN Z)) <+: μ' /\
  HI μ' s S/\μ'[s]? = some (.dT (aN S))/\GZ S=iD (cN u n a) ((GZ Z).take i)/\HI μ' g G/\μ'[g]? = some (.dT (aN G))/\GZ G=fA (cN u n a) (aY (b6 u n)) ((GZ Z).take i)/\∀ c y,μ0.length<=c->c≠s->c≠g->μ[c]? = some y->μ'[c]? = some y)
  ⟨none,[],[],rfl,hpF,hi0 gs',gs',rfl,hi0 gg',gg',rfl,fun c y hc _ _ e=>by rw [Rz (by omega)];exact e⟩ ?_ ?_
 ·rintro i kk d ρ' μ' hk ⟨x,S,G,rfl,p1,IS,g1,eS,IG,g2,eGG,kp⟩
  obtain ⟨z,hz,hzi,rfl,rfl⟩:=tE hk
  have ew:D.tup ((aU z.1).map D.int)=PP z.1:=rfl
  simp only [RA,RB,ew]
  have hil:i<Z.length:=(Rw.mp hzi).1
  have et:(GZ Z).take (i+1)=(GZ Z).take i++[(z.1,z.2.1)]:=fS (by unfold GZ;rw [RR,hzi];rfl)
  have ndk:z.1∉((GZ Z).take i).map (·.1):=by
   rw [Yv,eE]
   exact k7 I.kd (by rw [RR,hzi];rfl)
  simp only [cY,cZ,aT,bF,aR,aM,aE,aF]
  refine tB k _ u hu _ _ fun μ3 p3=>?_
  replace p3:μ' <+: μ3:=p3
  simp only [pT]
  refine w_eqBl.mpr ?_
  have hmv:cN u n a z.1=(decide (n<jG u z.1) == a):=rfl
  rw [<- hmv]
  have IS3:=IS.more p3
  have IG3:=IG.more p3
  have g13:=aJ p3 g1
  have g23:=aJ p3 g2
  have IF3:=IF.more (p1.trans p3)
  have kp3:∀ c y,μ0.length<=c->c≠s->c≠g->μ[c]? = some y->μ3[c]? = some y:=fun c y h1 h2 h3 e=>aJ p3 (kp c y h1 h2 h3 e)
  have lS:S.length<=i:=by
   have e1:S.length=(GZ S).length:=by unfold GZ;rw [Ro]
   rw [e1,eS]
   unfold iD
   exact SQ (SY _ _) (by rw [SJ];omega)
  have lG:G.length<=i:=by
   have e1:G.length=(GZ G).length:=by unfold GZ;rw [Ro]
   rw [e1,eGG]
   unfold fA
   rw [Ro]
   exact SQ (SY _ _) (by rw [SJ];omega)
  cases hc:cN u n a z.1 with
  | true=>
   simp only [if_true,iA,bF,aR,aM,aT,aE,aF]
   refine (eP IF3.dic (cH z.1) (k6 I.kd hz)).mpr ((DG (IF3.at_ z hz)).mpr ?_)
   have p4:=a8 μ3 (C.lst (z.2.1.map PP).reverse)
   have g4:(μ3++[C.lst (z.2.1.map PP).reverse])[μ3.length]? = some (.lst (z.2.1.reverse.map PP)):=by rw [U6];exact bP _ _
   generalize μ3++[C.lst (z.2.1.map PP).reverse]=μ4 at p4 g4
   refine (Ed k (b6 u n) (sZ u n) z.1 _ _).mpr ?_
   have g24:=aJ p4 g23
   obtain ⟨G',e1,e2,I4⟩:=(IG3.more p4).put g24 (p:=aY (b6 u n) z.1) g4
   refine (iM g24 (cH _) (by rw [jF,Sh];omega)).mpr ?_
   rw [e1]
   refine ⟨trivial,some (PP z.1),S,G',rfl,cT (p1.trans (p3.trans p4)) (by rw [len0];exact lg) _,(IS3.more p4).off g24 sg _,by rw [Rz (So sg)];exact aJ p4 g13,?_,I4,cC g24,?_,fun c y h1 h2 h3 e=>?_⟩
   ·rw [et,Er,if_pos hc];exact eS
   ·rw [et,Es,if_pos hc,e2,eGG,zD]
    intro w
    obtain ⟨y,hy,ey⟩:=RG.mp w
    obtain ⟨y',hy',rfl⟩:=RG.mp hy
    have ey':aY (b6 u n) y'.1=aY (b6 u n) z.1:=ey
    have:y'.1=z.1:=by rw [<- pX u n y'.1,ey',pX]
    exact ndk (this ▸ RG.mpr ⟨y',(SR.mp hy').1,rfl⟩)
   ·rw [Rz (So h3)]
    exact aJ p4 (kp3 c y h1 h2 h3 e)
  | false=>
   simp only [RE,if_false,iA,aT,aE,aF]
   refine (eP IF3.dic (cH z.1) (k6 I.kd hz)).mpr ?_
   obtain ⟨S',e1,e2,I4⟩:=IS3.put g13 (p:=z.1) (IF3.at_ z hz)
   refine (iM g13 (cH z.1) (by rw [jF,Sh];omega)).mpr ?_
   rw [e1]
   refine ⟨trivial,some (PP z.1),S',G,rfl,cT (p1.trans p3) (by rw [len0];exact ls) _,I4,cC g13,?_,IG3.off g13 (So sg) _,by rw [Rz sg];exact g23,?_,fun c y h1 h2 h3 e=>?_⟩
   ·rw [et,Er,if_neg (by rw [hc];exact RO),e2,eS,zD]
    intro w
    obtain ⟨y,hy,ey⟩:=RG.mp w
    exact ndk (ey ▸ RG.mpr ⟨y,(SR.mp hy).1,rfl⟩)
   ·rw [et,Es,if_neg (by rw [hc];exact RO)];exact eGG
   ·rw [Rz (So h2)]
    exact kp3 c y h1 h2 h3 e
 ·rintro ρ' μ' ⟨x,S,G,rfl,p1,IS,g1,eS,IG,g2,eGG,kp⟩
  have gF:μ'[h]? = some (.dF (aN Z)):=aJ p1 (cC hh)
  have tk:(GZ Z).take (aN Z).length=GZ Z:=UI (by rw [jF,GZ,Ro];exact RD _)
  rw [tk] at eS eGG
  have th:∀ {c:Nat}{Y:Zr},c≠h->HI μ' c Y->HI (μ'.set h (.dT (aN Z))) c Y:=fun {c Y} hc J=>by
   refine ⟨?_,J.kd,fun z hz=>by rw [Rz (So (J.ne (.inr gF) hz))];exact J.at_ z hz⟩
   unfold Dc
   rw [Rz (So hc)]
   exact J.dic
  exact ⟨gF,H x S G _ (pZ hh p1) (th (by omega) IS) (by rw [Rz (by omega)];exact g1) eS (th (by omega) IG) (by rw [Rz (by omega)];exact g2) eGG fun c y h1 h2 h3 e=>by rw [Rz (by omega)];exact kp c y h1 h2 h3 e⟩
theorem Qm {μ0 μ:Hm}{s g:Nat}{o:Bool}{S0 G:Zr}(IS0:HI μ s S0)(hs:μ[s]? = some (.dT (aN S0)))(IG:HI μ g G)(hg:μ[g]? = some (.dT (aN G)))(lS:S0.length+G.length<=100)(ll:∀ z∈S0,z.2.1.length<=100)(lg:∀ z∈G,z.2.1.length<=100){x0 x1 x2 x3 x4 x7 x8 x9 x10:Option D}{m2:MS}
  (pre:μ0 <+: μ)(ls:μ0.length<=s)(lg0:μ0.length<=g)(sg:s≠g)(Q:Fl×aH×Hm->Prop){x6:Option D}
  (H:∀ x y S μ',μ0 <+: μ'->HI μ' s S->μ'[s]? = some (.dT (aN S))->GZ S=(GZ G).foldl (fD o) (GZ S0)->(∀ c v,μ0.length<=c->c≠s->c≠g->μ[c]? = some v->μ'[c]? = some v)->
   Q (.nx,[x0,x1,x2,x3,x4,some (.bl o),x,x7,x8,x9,x10,some (.loc s),some (.loc g),y],μ')) :
  W (dW 12 (bX (eA (aA 12)) (cA 6) (aG (aZ 13 (i7 kM (aA 11) (aC (aA 6) (aC (cK aD) aD)))) (cB (aA 11) (aA 6) (fY (dN (aA 5)) (aB bK (aA 13) (aB aL (aA 12) (aA 6))) (aB bK (aB aL (aA 12) (aA 6)) (aA 13)))))) m2
   [x0,x1,x2,x3,x4,some (.bl o),x6,x7,x8,x9,x10,some (.loc s),some (.loc g),none] μ) Q:=by
 have gs':(μ.set g (.dF (aN G)))[s]? = some (.dT (aN S0)):=by rw [Rz (So sg)];exact hs
 have IGF:=IG.frz hg
 refine tD rfl hg (fun i ρ' μ'=>∃ x y S,ρ'=[x0,x1,x2,x3,x4,some (.bl o),x,x7,x8,x9,x10,some (.loc s),some (.loc g),y]/\μ0 <+: μ'/\HI μ' s S/\μ'[s]? = some (.dT (aN S))/\GZ S=((GZ G).take i).foldl (fD o) (GZ S0)/\S.length<=S0.length+i/\(∀ z∈S,z.2.1.length<=100+100 * i) /\
  HI μ' g G/\μ'[g]? = some (.dF (aN G))/\∀ c v,μ0.length<=c->c≠s->c≠g->μ[c]? = some v->μ'[c]? = some v)
  ⟨x6,none,S0,rfl,cT pre lg0 _,?_,gs',rfl,by omega,fun z hz=>by have:=ll z hz;omega,IGF,cC hg,fun c v hc _ h2 e=>by rw [Rz (So h2)];exact e⟩ ?_ ?_
 ·exact IS0.frz hg
 ·rintro i kk d ρ' μ' hk ⟨x,y,S,rfl,p1,IS,g1,eS,l1,l2,IG1,gF,kp⟩
  obtain ⟨z,hz,hzi,rfl,rfl⟩:=tE hk
  have ew:D.tup ((aU z.1).map D.int)=PP z.1:=rfl
  simp only [RA,RB,ew]
  have hil:i<G.length:=(Rw.mp hzi).1
  have et:(GZ G).take (i+1)=(GZ G).take i++[(z.1,z.2.1)]:=fS (by unfold GZ;rw [RR,hzi];rfl)
  have lz:=lg z hz
  rw [aP]
  simp only [bI]
  refine PN ?_
  simp only [aE,aF]
  refine ⟨PQ g1,?_⟩
  simp only [aR,aM,aE,aF,gO]
  refine ⟨SF _,?_⟩
    -- the list at this place,or a new one
  have p2:=a8 μ' (C.lst [])
  have gl:∃ c,((bO (aN S) (aU z.1)).getD (.loc μ'.length))=.loc c/\(μ'++[C.lst []])[c]? = some (.lst ((bR (GZ S) z.1).map PP)):=by
   by_cases hp:z.1∈S.map (·.1)
   ·obtain ⟨t,ht,e⟩:=nW hp
    refine ⟨t.2.2,?_,?_⟩
    ·rw [<- e,k6 IS.kd ht]
     rfl
    ·rw [<- e,qA IS.kd ht]
     exact aJ p2 (IS.at_ t ht)
   ·refine ⟨μ'.length,?_,?_⟩
    ·rw [DY hp]
     rfl
    ·rw [jH (by rw [eE];exact hp)]
     exact bP _ _
  obtain ⟨c,e1,e2⟩:=gl
  have eg:kM (.loc s) [PP z.1,.loc μ'.length] (μ'++[C.lst []])=some (.loc c,μ'++[C.lst []]):=by
   simp only [kM,aJ p2 g1,cH,Sb,e1]
  rw [eg,W_some]
  have IS2:=IS.more p2
  have g12:=aJ p2 g1
  have IG2:=IG1.more p2
  have gF2:=aJ p2 gF
  have kp2:∀ c v,μ0.length<=c->c≠s->c≠g->μ[c]? = some v->(μ'++[C.lst []])[c]? = some v:=fun c v h1 h2 h3 e=>aJ p2 (kp c v h1 h2 h3 e)
  have p02:=p1.trans p2
  generalize μ'++[C.lst []]=μ2 at e2 IS2 g12 IG2 gF2 kp2 p02
  have la:(bR (GZ S) z.1).length<=100+100 * i:=by
   by_cases hp:z.1∈S.map (·.1)
   ·obtain ⟨t,ht,e⟩:=nW hp
    rw [<- e,qA IS.kd ht]
    exact l2 t ht
   ·rw [jH (by rw [eE];exact hp)]
    exact SF _
  simp only [RA,RB,iA,pP,iL,aE,aF,hX]
  have fin':∀ (L:List (Int×Int))(μ3:Hm),μ2 <+: μ3->μ3[μ3.length - 1]? = some (.lst (L.map PP))->(fD o (GZ S) (z.1,z.2.1))=eF (GZ S) z.1 L->L.length<=100+100 * (i+1)->
    W (jZ (.loc s) (PP z.1) (.loc (μ3.length - 1)) μ3) fun μ4=>True/\∃ x y S,[x0,x1,x2,x3,x4,some (.bl o),some (PP z.1),x7,x8,x9,x10,some (.loc s),some (.loc g),some (.loc c)]=[x0,x1,x2,x3,x4,some (.bl o),x,x7,x8,x9,x10,some (.loc s),some (.loc g),y]/\μ0 <+: μ4/\HI μ4 s S/\μ4[s]? = some (.dT (aN S))/\GZ S=((GZ G).take (i+1)).foldl (fD o) (GZ S0)/\S.length<=S0.length+(i+1)/\(∀ z∈S,z.2.1.length<=100+100 * (i+1)) /\
     HI μ4 g G/\μ4[g]? = some (.dF (aN G))/\∀ c v,μ0.length<=c->c≠s->c≠g->μ[c]? = some v->μ4[c]? = some v:=fun L μ3 p3 g3 eo lL=>by
   have g13:=aJ p3 g12
   obtain ⟨S',e3,e4,I4⟩:=(IS2.more p3).put g13 (p:=z.1) g3
   refine (iM g13 (cH z.1) (by rw [jF,Sh];omega)).mpr ?_
   rw [e3]
   have lS':S'.length=(eF (GZ S) z.1 L).length:=by rw [<- e4,GZ,Ro]
   refine ⟨trivial,some (PP z.1),some (.loc c),S',rfl,cT (p02.trans p3) ls _,I4,cC g13,?_,?_,fun y hy=>?_,(IG2.more p3).off g13 (So sg) _,by rw [Rz sg];exact aJ p3 gF2,fun c v h1 h2 h3 e=>?_⟩
   ·rw [et,List.foldl_append,<- eS,e4,<- eo]
    rfl
   ·rw [lS']
    unfold eF
    split
    ·rw [Ro,GZ,Ro];omega
    ·rw [RV,Uj,GZ,Ro];omega
   ·have hy':(y.1,y.2.1)∈eF (GZ S) z.1 L:=by rw [<- e4];exact RG.mpr ⟨y,hy,rfl⟩
    unfold eF at hy'
    have old:∀ {q:(Int×Int)×List (Int×Int)},q∈GZ S->q.2.length<=100+100 * i:=fun {q} hq=>by
     obtain ⟨t,ht,rfl⟩:=RG.mp hq
     exact l2 t ht
    split at hy'
    ·obtain ⟨t,ht,e⟩:=RG.mp hy'
     split at e
     ·injection e with _ e;rw [<- e];exact lL
     ·have:=old ht;rw [e] at this;dsimp only at this;omega
    ·rcases S8.mp hy' with hy'|hy'
     ·have:=old hy';dsimp only at this;omega
     ·injection (Sk.mp hy') with _ e;rw [e];exact lL
   ·rw [Rz (So h2)]
    exact aJ p3 (kp2 c v h1 h2 h3 e)
  have it:∀ {ν:Hm}{Q:D×Hm->Prop},μ2 <+: ν->Q (.loc z.2.2,ν)->W (aL (.loc g) (PP z.1) ν) Q:=fun hp h=>(eP (.inr (aJ hp gF2)) (cH z.1) (k6 IG.kd hz)).mpr h
  have gz2:=IG2.at_ z hz
  have ln:∀ L:List D,(μ2++[C.lst L]).length - 1=μ2.length:=fun L=>by simp
  cases o with
  | true=>
   simp only [if_true,aT,aE,aF]
   refine it (Ti _) ((sX e2 gz2 (by rw [Ro,Ro,Sh];omega)).mpr ?_)
   have:=fin' (bR (GZ S) z.1++z.2.1) (μ2++[.lst ((bR (GZ S) z.1).map PP++z.2.1.map PP)]) (a8 _ _) (by rw [ln,Se];exact bP _ _) rfl (by rw [RV];omega)
   rw [ln] at this
   exact this
  | false=>
   simp only [RE,if_false,aT,aE,aF]
   refine it (Ti _) ((sX gz2 e2 (by rw [Ro,Ro,Sh];omega)).mpr ?_)
   have:=fin' (z.2.1++bR (GZ S) z.1) (μ2++[.lst (z.2.1.map PP++(bR (GZ S) z.1).map PP)]) (a8 _ _) (by rw [ln,Se];exact bP _ _) rfl (by rw [RV];omega)
   rw [ln] at this
   exact this
 ·rintro ρ' μ' ⟨x,y,S,rfl,p1,IS,g1,eS,l1,l2,IG1,gF,kp⟩
  rw [jF,UI (by unfold GZ;rw [Ro];exact RD _)] at eS
  refine ⟨gF,H x y S _ (cT p1 lg0 _) ⟨?_,IS.kd,fun z hz=>by rw [Rz (So (IS.ne (.inr gF) hz))];exact IS.at_ z hz⟩ (by rw [Rz (So sg)];exact g1) eS fun c v h1 h2 h3 e=>by rw [Rz (So h3)];exact kp c v h1 h2 h3 e⟩
  unfold Dc
  rw [Rz (So sg)]
  exact IS.dic
theorem Et {α:Type} [DecidableEq α]:∀ {l m:List α},l.Nodup->(∀ x∈l,x∈m)->l.length<=m.length
 | [],_,_,_=>SF _
 | x::l,m,h,hs=>by
  rw [Sv] at h
  have hx:=hs x (RX ..)
  have ih:=Et (l:=l) (m:=m.erase x) h.2 fun y hy=>(List.mem_erase_of_ne (fun e:y=x=>h.1 (e ▸ hy))).mpr (hs y (RP _ hy))
  rw [List.length_erase_of_mem hx] at ih
  have:=YL hx
  rw [SD]
  omega
theorem Pil.len {qs:List (Int×Int)}{g:Int×Int->Int×Int}{G:Gr}(P:Pil qs g G):G.length<=qs.length/\∀ x∈G,x.2.length<=qs.length:=by
 constructor
 ·have:=Et P.kd (m:=qs.map g) fun p hp=>by
   obtain ⟨q,hq,e⟩:=P.key.mp hp
   exact RG.mpr ⟨q,hq,e⟩
  rw [Ro,Ro] at this
  exact this
 ·intro x hx
  have:=(P.pm x.1).length_eq
  rw [eH P.kd hx] at this
  rw [this]
  exact SY _ _
theorem Pil.lenZ {qs:List (Int×Int)}{g:Int×Int->Int×Int}{Z:Zr}(P:Pil qs g (GZ Z)):Z.length<=qs.length/\∀ z∈Z,1<=z.2.1.length/\z.2.1.length<=qs.length:=by
 obtain ⟨h1,h2⟩:=P.len
 unfold GZ at h1
 rw [Ro] at h1
 refine ⟨h1,fun z hz=>?_⟩
 have hm:(z.1,z.2.1)∈GZ Z:=RG.mpr ⟨z,hz,rfl⟩
 exact ⟨WZ.mpr (P.ne _ hm),h2 _ hm⟩
theorem Eu (μ:Hm)(x:Bool):∀ bs:List Bool,∃ b,kE μ (.bl x) (bs.map D.bl)=some b
 | []=>⟨_,rfl⟩
 | b::bs=>by
  obtain ⟨c,e⟩:=Eu μ x bs
  rw [RM]
  unfold kE
  cases b<;>cases x<;>first|exact ⟨_,rfl⟩|exact ⟨c,e⟩|(rw [e];exact ⟨_,rfl⟩)
theorem Ew {μ:Hm}{a:Nat}{bs:List Bool}(x:Bool)(h:μ[a]? = some (.lst (bs.map D.bl))):∃ b,cX true (.bl x) (.loc a) μ=some (.bl b,μ):=by
 obtain ⟨b,e⟩:=Eu μ x bs
 refine ⟨!b,?_⟩
 simp only [cX,h,lO,bJ,R6,e,Sb,if_true]
theorem Qn (k:Nat){μ:Hm}{w h:Nat}{u n:Int}{a o:Bool}(hu:0<=u/\u<4){F:Int×Int->Ly}(hF:∀ q,Dih (F q)){qs:List (Int×Int)}(nd:qs.Nodup)(hl:qs.length<=36)(hw:μ[w]? = some (.dT (aX (fun q=>LD (F q)) qs))){Z:Zr}(I:HI μ h Z)(hh:μ[h]? = some (.dT (aN Z)))
  (P:Pil qs (fun q=>aY (F q) q) (GZ Z))(Q:D×Hm->Prop)
  (H:∀ w' h' (F':Int×Int->Ly) Z' μ',μ <+: μ'->μ'[w']? = some (.dT (aX (fun q=>LD (F' q)) qs))->HI μ' h' Z'->μ'[h']? = some (.dT (aN Z'))->(∀ q,Dih (F' q))->Pil qs (fun q=>aY (F' q) q) (GZ Z')->(F'=F\/F'=cI u n a F)->Q (.tup [.loc w',.loc h'],μ')) :
  W (f (k+2) "_law_fold" [.loc w,.loc h,.int u,.int n,.bl a,.bl o] μ) Q:=by
 obtain ⟨lZ,mZ⟩:=P.lenZ
 have hhl:h<μ.length:=(Rw.mp hh).1
 rw [Pg,W_fin,aP]
 refine y1 rfl hh ?_
 simp only [bI]
 have gF:(μ.set h (.dF (aN Z)))[h]? = some (.dF (aN Z)):=cC hh
 refine sW (xs:=dP (aN Z)) (p:=fun _=>true) (v:=fun d=>.bl (cN u n a (jE d))) ?_
 rw [Qe rfl gF]
 refine W_some.mpr ⟨Dz,by rw [dP,Ro],by rw [dP,Ro,jF,Sh];omega,fun d μ' hd hp=>w_mTrue.mpr ⟨rfl,Ti _⟩,fun d μ' hd _ hp=>?_,fun μ' hp hg=>?_⟩
 ·obtain ⟨p,hpm,rfl⟩:=Qc hd
  simp only [Tj,UR,aT,bF,aR,aM,aE,aF]
  refine tB k _ u hu _ _ fun μ3 p3=>?_
  simp only [pT]
  refine w_eqBl.mpr ⟨?_,p3⟩
  rw [Qf]
  rfl
 refine ⟨aJ hp gF,?_⟩
 have p1:=pZ hh hp
 have e1:((dP (aN Z)).filter fun _=>true).map (fun d=>D.bl (cN u n a (jE d)))=((Z.map (·.1)).map (cN u n a)).map D.bl:=by
  rw [Zi.mpr (fun _ _=>rfl),Qd]
  simp only [RU]
  rfl
 have g1:(μ'.set h (.dT (aN Z)))[μ.length]? = some (.lst (((Z.map (·.1)).map (cN u n a)).map D.bl)):=by
  rw [Rz (by omega),<- e1]
  have:=hg
  dsimp only at this
  rw [SE] at this
  exact this
 dsimp only
 rw [show (μ.set h (.dF (aN Z))).length=μ.length from SE]
 generalize μ'.set h (.dT (aN Z))=μ1 at p1 g1
 clear hg hp
 simp only [RA,RB]
 rw [aP]
 have fin0:=H w h F Z μ1 p1 (aJ p1 hw) (I.more p1) (aJ p1 hh) hF P (.inl rfl)
 obtain ⟨b1,i1⟩:=Ew true g1
 obtain ⟨b2,i2⟩:=Ew false g1
 simp only [cY,pR,cZ,aT,bC,aE,aF]
 rw [i1,W_some]
 cases b1 with
 | true=>
  simp only [if_true,w_mRet,e8,aR,aM,aE,aF,eN,true_and]
  exact fin0
 | false=>
  simp only [RE,if_false]
  rw [i2,W_some]
  cases b2 with
  | true=>
   simp only [if_true,w_mRet,e8,aR,aM,aE,aF,eN,true_and]
   exact fin0
  | false=>
   simp only [RE,if_false,cU]
   rw [aP]
   simp only [bI,bF,aR,aM,aE,aF]
   refine PZ k u n hu _ _ fun μ2 p2=>?_
   simp only [RA,RB]
   rw [aP]
   simp only [bI,jD,RA,RB]
   rw [aP]
   have q2:=p1.trans p2
   refine Qk k (μ0:=μ) (b:=μ2.length) hu hF nd (by omega) (q2.trans (a8 _ _)) q2.length_le hw (bP _ _) _ fun x μ3 p3 ln3 g3 _=>?_
   dsimp only
   rw [aP]
   simp only [bI,jD,RA,RB]
   rw [aP]
   simp only [bI,jD,RA,RB]
   rw [aP]
   have p4:=(a8 μ3 (C.dT [])).trans (a8 _ (C.dT []))
   have l4:(μ3++[C.dT []]).length=μ3.length+1:=by simp
   rw [l4]
   refine Ql k (μ0:=μ) (s:=μ3.length) (g:=μ3.length+1) hu I hh (by omega) (p3.trans p4) p3.length_le (Z1 p3.length_le) (by omega) (aJ (a8 _ _) (bP _ _)) (by rw [<- l4];exact bP _ _) _ fun x' S G μ5 p5 IS g5 eS IG g6 eG kp5=>?_
   dsimp only
   rw [aP]
   have h3b:μ2.length<μ3.length:=by
    rw [RV,Uj] at ln3
    omega
   have g7:μ5[μ2.length]? = some (.dT (aX (fun q=>LD (cI u n a F q)) qs)):=kp5 _ _ q2.length_le (by omega) (by omega) (aJ p4 g3)
   have lS:S.length<=qs.length:=by
    have e:S.length=(GZ S).length:=by unfold GZ;rw [Ro]
    rw [e,eS]
    unfold iD
    exact SQ (SY _ _) (by unfold GZ;rw [Ro];exact lZ)
   have lG:G.length<=qs.length:=by
    have e:G.length=(GZ G).length:=by unfold GZ;rw [Ro]
    rw [e,eG]
    unfold fA
    rw [Ro]
    exact SQ (SY _ _) (by unfold GZ;rw [Ro];exact lZ)
   have mG:∀ g∈GZ Z,g.2.length<=qs.length:=P.len.2
   refine Qm (μ0:=μ) IS g5 IG g6 (by omega) (fun z hz=>?_) (fun z hz=>?_) p5 p3.length_le (Z1 p3.length_le) (by omega) _ fun x2 y2 S' μ6 p6 IS' g8 eS' kp6=>?_
   ·have hm:(z.1,z.2.1)∈GZ S:=RG.mpr ⟨z,hz,rfl⟩
    rw [eS] at hm
    have:=mG _ (SR.mp hm).1
    dsimp only at this
    omega
   ·have hm:(z.1,z.2.1)∈GZ G:=RG.mpr ⟨z,hz,rfl⟩
    rw [eG] at hm
    obtain ⟨y,hy,e⟩:=RG.mp hm
    have:=mG _ (SR.mp hy).1
    injection e with _ e
    rw [<- e,UD]
    omega
   simp only [w_mRet,e8,aR,aM,aE,aF,eN,true_and]
   refine H μ2.length μ3.length (cI u n a F) S' μ6 p6 (kp6 _ _ q2.length_le (by omega) (by omega) g7) IS' g8 (Ep hF) ?_ (.inr rfl)
   have e9:GZ S'=D9 (cN u n a) (aY (b6 u n)) o (GZ Z):=by
    rw [eS',eS,eG]
    rfl
   rw [e9]
   have:=PV P (mv:=cN u n a) (M:=aY (b6 u n)) (pX u n) o
   have e10:(fun q=>aY (cI u n a F q) q)=fun q=>if cN u n a (aY (F q) q) then aY (b6 u n) (aY (F q) q) else aY (F q) q:=funext fun q=>zC u n a F q
   rw [e10]
   exact this
theorem Ex {α:Type} [DecidableEq α]:∀ {l:List α},l.Nodup->∀ {p:α},p∈l->(l.filter fun q=>decide (q=p))=[p]
 | [],_,_,h=>by cases h
 | x::l,nd,p,h=>by
  rw [Sv] at nd
  by_cases e:x=p
  ·subst e
   rw [RZ (by simp),Uh.mpr]
   intro y hy w
   exact nd.1 (of_decide_eq_true w ▸ hy)
  ·rw [RW (by simp [e])]
   exact Ex nd.2 ((Sa.mp h).resolve_left fun w=>e w.symm)
noncomputable def mJ (qs:List (Int×Int)):Gr:=qs.map fun q=>(q,[q])
theorem zE (qs:List (Int×Int)):(mJ qs).map (·.1)=qs:=by
 unfold mJ
 rw [RU]
 exact WR _
theorem Qo {qs:List (Int×Int)}(nd:qs.Nodup):Pil qs (fun q=>aY c9 q) (mJ qs):=by
 have kd:((mJ qs).map (·.1)).Nodup:=by rw [zE];exact nd
 refine ⟨kd,fun g hg=>?_,fun p=>?_⟩
 ·obtain ⟨q,_,rfl⟩:=RG.mp hg
  simp
 ·have e:(fun q=>decide (aY c9 q=p))=fun q=>decide (q=p):=funext fun q=>by rw [sY]
  rw [e]
  by_cases h:p∈qs
  ·have:=eH kd (g:=(p,[p])) (RG.mpr ⟨p,h,rfl⟩)
   rw [this,Ex nd h]
  ·rw [jH (by rw [zE];exact h),Uh.mpr]
   intro q hq w
   exact h (of_decide_eq_true w ▸ hq)
structure Grw (qs:List (Int×Int))(μ:Hm)(w h:Nat)(F:Int×Int->Ly)(Z:Zr):Prop where
 hw:μ[w]? = some (.dT (aX (fun q=>LD (F q)) qs))
 hi:HI μ h Z
 hh:μ[h]? = some (.dT (aN Z))
 di:∀ q,Dih (F q)
 pl:Pil qs (fun q=>aY (F q) q) (GZ Z)
theorem Qp {μ0 μ:Hm}{l a b:Nat}{qs:List (Int×Int)}(nd:qs.Nodup)(hl:qs.length<=100){x0 x1 x2 x3 x4 x8 x9 x10 x11 x12 x13:Option D}(pre:μ0 <+: μ)(la:μ0.length<=a)(lb:μ0.length<=b)(ab:a≠b)(ga:μ[a]? = some (.dT []))(gb:μ[b]? = some (.dT []))(gl:μ[l]? = some (.lst (qs.map PP)))(Q:Fl×aH×Hm->Prop)
  (H:∀ x Z μ',μ0 <+: μ'->Grw qs μ' a b (fun _=>c9) Z->Q (.nx,[x0,x1,x2,x3,x4,some (.loc a),some (.loc b),x,x8,x9,x10,x11,x12,x13],μ')) :
  W (dS (dU (.loc l)) (cA 7) (aG (cB (aA 5) (aA 7) (bV (aC (mC (.int 1)) (aC (mC (.int 0)) (aC (mC (.int 0)) (aC (mC (.int 1)) (aC (mC (.int 0)) (aC (mC (.int 0)) aD)))))))) (cB (aA 6) (aA 7) (cK (aC (aA 7) aD)))) ((qs.map PP).length+1) 0
   [x0,x1,x2,x3,x4,some (.loc a),some (.loc b),none,x8,x9,x10,x11,x12,x13] μ) Q:=by
 have l_a:l≠a:=fun e=>by rw [e,ga] at gl;cases gl
 have l_b:l≠b:=fun e=>by rw [e,gb] at gl;cases gl
 refine kZ (fun i ρ' μ'=>∃ x Z,ρ'=[x0,x1,x2,x3,x4,some (.loc a),some (.loc b),x,x8,x9,x10,x11,x12,x13]/\μ0 <+: μ'/\μ'[a]? = some (.dT (aX (fun _=>LD c9) (qs.take i)))/\HI μ' b Z/\μ'[b]? = some (.dT (aN Z))/\GZ Z=mJ (qs.take i)/\μ'[l]? = some (.lst (qs.map PP)))
  ⟨none,[],rfl,pre,ga,⟨.inl gb,V4,fun z hz=>nomatch hz⟩,gb,rfl,gl⟩ (fun _ _ _ ⟨_,_,_,_,_,_,_,_,h⟩=>h) ?_ ?_
 ·rintro i d ρ' μ' hd ⟨x,Z,rfl,p1,g1,I,g2,eG,g3⟩
  obtain ⟨q,hq,rfl⟩:=nV hd
  refine ⟨_,rfl,?_⟩
  have hil:i<qs.length:=(Rw.mp hq).1
  have nq:q∉qs.take i:=k7 nd hq
  have lZ:Z.length<=100:=by
   have e:Z.length=(GZ Z).length:=by unfold GZ;rw [Ro]
   rw [e,eG]
   unfold mJ
   rw [Ro,SJ]
   omega
  simp only [RA,RB]
  rw [aP]
  simp only [iA,e8,aR,aM,bC,aE,aF]
  refine ⟨yU,(iM g1 (cH q) (by rw [Ro,SJ,Sh];omega)).mpr ?_⟩
  have e1:dC (aX (fun _=>LD c9) (qs.take i)) (aU q) (D.tup [.int 1,.int 0,.int 0,.int 1,.int 0,.int 0])=aX (fun _=>LD c9) (qs.take (i+1)):=by
   rw [fS hq]
   exact tG (v:=fun _=>LD c9) nq
  rw [e1]
  have p2:=cT p1 la (C.dT (aX (fun _=>LD c9) (qs.take (i+1))))
  have g12:(μ'.set a (C.dT (aX (fun _=>LD c9) (qs.take (i+1)))))[a]? = some (C.dT (aX (fun _=>LD c9) (qs.take (i+1)))):=cC g1
  have I2:=I.off g1 (So ab) (C.dT (aX (fun _=>LD c9) (qs.take (i+1))))
  have g22:(μ'.set a (C.dT (aX (fun _=>LD c9) (qs.take (i+1)))))[b]? = some (.dT (aN Z)):=by rw [Rz ab];exact g2
  have g32:(μ'.set a (C.dT (aX (fun _=>LD c9) (qs.take (i+1)))))[l]? = some (.lst (qs.map PP)):=by rw [Rz (So l_a)];exact g3
  generalize μ'.set a (C.dT (aX (fun _=>LD c9) (qs.take (i+1))))=μ2 at p2 g12 I2 g22 g32
  simp only [iA,gO,aR,aM,aE,aF]
  refine ⟨Pu,?_⟩
  have gn:(μ2++[C.lst [PP q]])[μ2.length]? = some (.lst ([q].map PP)):=bP _ _
  have g23:=aJ (a8 μ2 (C.lst [PP q])) g22
  obtain ⟨Z',e3,e4,I4⟩:=(I2.more (a8 μ2 (C.lst [PP q]))).put g23 (p:=q) gn
  refine (iM g23 (cH q) (by rw [jF,Sh];omega)).mpr ?_
  rw [e3]
  refine ⟨some (PP q),Z',rfl,cT (p2.trans (a8 _ _)) lb _,by rw [Rz (So ab)];exact aJ (a8 _ _) g12,I4,cC g23,?_,by rw [Rz (So l_b)];exact aJ (a8 _ _) g32⟩
  rw [e4,eG,zD (by rw [zE];exact nq),fS hq]
  unfold mJ
  rw [Se]
  rfl
 ·rintro ρ' μ' ⟨x,Z,rfl,p1,g1,I,g2,eG,g3⟩
  rw [Ro,Tu] at g1 eG
  exact H x Z μ' p1 ⟨g1,I,g2,fun _=>DN,by rw [eG];exact Qo nd⟩
theorem Qq (J:(Int×Int->Ly)->Prop)(J0:J fun _=>c9)(J1:∀ F u n a,0<=u/\u<4->n % 4=0->J F->J (cI u n a F))(k:Nat)(ns:List Int)(w h:Int)(hw:1<=w/\w<=3)(hh:1<=h/\h<=3)(c m:Int)(hc:0<=c/\c<=50)(hm:0<=m/\m<=10)(nd:(cO w h).Nodup)(hl:(cO w h).length<=36)(h1:1<=(cO w h).length)(μ:Hm)(Q:D×Hm->Prop)
  (H:∀ a b F Z μ',μ <+: μ'->Grw (cO w h) μ' a b F Z->J F->Q (.tup [.loc a,.loc b],μ')):W (f (k+3) "_law_grown" [.rol (ns.map D.int),.int w,.int h,.int c,.int m] μ) Q:=by
 rw [Ph,W_fin,aP]
 simp only [bI,jD,RA,RB]
 rw [aP]
 simp only [bI,jD,RA,RB]
 rw [aP]
 simp only [eM,w_iSeq,bF,aR,aM,aE,aF]
 refine P4 (k+1) w h hw hh _ _ ((j8 (bP _ _)).mpr ?_)
 have l1:(μ++[C.dT []]).length=μ.length+1:=by simp
 have l2:((μ++[C.dT []])++[C.dT []]).length=μ.length+2:=by simp
 rw [l1]
 refine Qp (μ0:=μ) (a:=μ.length) (b:=μ.length+1) nd (by omega) (((a8 _ _).trans (a8 _ _)).trans (a8 _ _)) (RD _) (Vo _) (by omega) (aJ ((a8 _ _).trans (a8 _ _)) (bP _ _)) (aJ (a8 _ _) (by rw [<- l1];exact bP _ _)) (bP _ _) _ fun x Z μ1 p1 G1=>?_
 dsimp only
 rw [aP]
 simp only [eM]
 rw [Dx (j:=0)]
 simp only [aR,aM,aE,aF]
 refine ⟨by omega,?_⟩
 refine yJ (fun i ρ' μ'=>∃ a b F Z x7 x8 x9 x10 x11 x12 x13,ρ'=[some (.rol (ns.map D.int)),some (.int w),some (.int h),some (.int c),some (.int m),some (.loc a),some (.loc b),x7,x8,x9,x10,x11,x12,x13]/\μ <+: μ'/\Grw (cO w h) μ' a b F Z/\J F)
  ⟨_,_,_,Z,x,_,_,_,_,_,_,rfl,p1,G1,J0⟩ ?_ ?_
 ·rintro i ρ' μ2 hi ⟨a,b,F,Z,x7,x8,x9,x10,x11,x12,x13,rfl,p2,G,JF⟩
  refine ⟨_,rfl,?_⟩
  simp only [RA,RB]
  rw [aP]
  simp only [bI,bF,aR,aM,aT,aE,aF,gP]
  refine nX k ns _ (by omega) _ _ fun v μ3 v0 v1 p3=>?_
  have G3:Grw (cO w h) μ3 a b F Z:=⟨aJ p3 G.hw,G.hi.more p3,aJ p3 G.hh,G.di,G.pl⟩
  obtain ⟨lZ,mZ⟩:=G.pl.lenZ
  have zp:0<Z.length:=by
   obtain ⟨q,hq⟩:=List.exists_mem_of_length_pos (l:=cO w h) h1
   have:=G.pl.key.mpr ⟨q,hq,rfl⟩
   rw [eE] at this
   have:=YL this
   rw [Ro] at this
   exact this
  simp only [RA,RB]
  rw [aP]
  simp only [bI,aT,aE,aF,bC,nU,RA,RB]
  rw [aP]
  simp only [bI,bF,aR,aM,aE,aF]
  refine (Ej G.hi.kd G3.hh (by omega)).mpr ?_
  have p4:=a8 μ3 (C.lst ((cF (Z.map (·.1))).map PP))
  have g4:=bP μ3 (C.lst ((cF (Z.map (·.1))).map PP))
  generalize μ3++[C.lst ((cF (Z.map (·.1))).map PP)]=μ4 at p4 g4
  simp only [RA,RB]
  rw [aP]
  simp only [bI,bF,aR,aM,aT,aE,aF,bC]
  have hp0:0<(cF (Z.map (·.1))).length:=by rw [Qa,Ro];omega
  have b1:=Vk (v / 4) (show ((cF (Z.map (·.1))).length:Int)≠0 by omega)
  have b2:=UQ (v / 4) (show 0<((cF (Z.map (·.1))).length:Int) by omega)
  have b3:(v / 4 % ((cF (Z.map (·.1))).length:Int)).toNat<(cF (Z.map (·.1))).length:=by omega
  refine w_div4.mpr ((yM g4).mpr ((dX (by rw [Ro];omega)).mpr ?_))
  rw [Ro]
  refine (hZ g4 (Qh (DI b1 b2) (RN b3))).mpr ?_
  refine tB (k+1) _ (v % 4) (by omega) _ _ fun μ5 p5=>?_
  replace p5:μ4 <+: μ5:=p5
  simp only [RA,RB]
  rw [aP]
  simp only [bI,aT,aE,aF,bC]
  refine (j6 (by decide) (by decide)).mpr ?_
  simp only [nU,RA,RB,mD,bF,aR,aM,aT,aE,aF,bC,yG,pW,hW,pS]
  have p05:=(p3.trans p4).trans p5
  refine Qn k (by omega) G.di nd hl (aJ p05 G.hw) (G.hi.more p05) (aJ p05 G.hh) G.pl _ fun w' h' F' Z' μ6 p6 g6 I6 g7 d6 P6 e6=>?_
  simp only [yI,RA,RB]
  refine ⟨w',h',F',Z',_,_,_,_,_,_,_,rfl,p2.trans (p05.trans p6),⟨g6,I6,g7,d6,P6⟩,?_⟩
  rcases e6 with rfl|rfl
  ·exact JF
  ·exact J1 F _ _ _ (by omega) (by omega) JF
 ·rintro ρ' μ2 ⟨a,b,F,Z,x7,x8,x9,x10,x11,x12,x13,rfl,p2,G,JF⟩
  simp only [w_mRet,e8,aR,aM,aE,aF,eN,true_and]
  exact H a b F Z μ2 p2 G JF
theorem zF (u n:Int)(p:Int×Int):aY (b6 u n) p=if u=0 then (p.1,2 * n - p.2) else if u=1 then (2 * n - p.1,p.2) else if u=2 then (p.2+n,p.1 - n) else (n - p.2,n - p.1):=by
 unfold b6 aY
 split
 ·refine Tc ?_ ?_<;>dsimp only<;>omega
 split
 ·refine Tc ?_ ?_<;>dsimp only<;>omega
 split
 ·refine Tc ?_ ?_<;>dsimp only<;>omega
 ·refine Tc ?_ ?_<;>dsimp only<;>omega
theorem Qr (u n:Int):c8 (b6 u n) = -1:=by
 unfold b6 c8
 split
 ·rfl
 split
 ·rfl
 split
 ·rfl
 ·rfl
noncomputable def Rq (p q:Int×Int):Prop:=
 (p.1=q.1/\p.1 % 4=2/\((p.2=q.2+2/\q.2 % 4=3)\/(q.2=p.2+2/\p.2 % 4=3)))\/(p.2=q.2/\p.2 % 4=2/\((p.1=q.1+2/\q.1 % 4=3)\/(q.1=p.1+2/\p.1 % 4=3))) \/
 (p.1 % 4=2/\q.2 % 4=2/\(q.1=p.1+1\/q.1=p.1 - 1)/\(p.2=q.2+1\/p.2=q.2 - 1))\/(q.1 % 4=2/\p.2 % 4=2/\(p.1=q.1+1\/p.1=q.1 - 1)/\(q.2=p.2+1\/q.2=p.2 - 1))
theorem Rq.mir {p q:Int×Int}(h:Rq p q)(u:Int){n:Int}(hn:n % 4=0):Rq (aY (b6 u n) p) (aY (b6 u n) q):=by
 rw [zF,zF]
 rcases h with ⟨h1,h2,h3⟩|⟨h1,h2,h3⟩|⟨h1,h2,h3,h4⟩|⟨h1,h2,h3,h4⟩
 ·split
  ·exact .inl ⟨h1,h2,by dsimp only;omega⟩
  split
  ·exact .inl ⟨by dsimp only;omega,by dsimp only;omega,h3⟩
  split
  ·exact .inr (.inl ⟨by dsimp only;omega,by dsimp only;omega,by dsimp only;omega⟩)
  ·exact .inr (.inl ⟨by dsimp only;omega,by dsimp only;omega,by dsimp only;omega⟩)
 ·split
  ·exact .inr (.inl ⟨by dsimp only;omega,by dsimp only;omega,h3⟩)
  split
  ·exact .inr (.inl ⟨h1,h2,by dsimp only;omega⟩)
  split
  ·exact .inl ⟨by dsimp only;omega,by dsimp only;omega,by dsimp only;omega⟩
  ·exact .inl ⟨by dsimp only;omega,by dsimp only;omega,by dsimp only;omega⟩
 ·split
  ·exact .inr (.inr (.inl ⟨h1,by dsimp only;omega,h3,by dsimp only;omega⟩))
  split
  ·exact .inr (.inr (.inl ⟨by dsimp only;omega,h2,by dsimp only;omega,h4⟩))
  split
  ·exact .inr (.inr (.inr ⟨by dsimp only;omega,by dsimp only;omega,by dsimp only;omega,by dsimp only;omega⟩))
  ·exact .inr (.inr (.inr ⟨by dsimp only;omega,by dsimp only;omega,by dsimp only;omega,by dsimp only;omega⟩))
 ·split
  ·exact .inr (.inr (.inr ⟨h1,by dsimp only;omega,h3,by dsimp only;omega⟩))
  split
  ·exact .inr (.inr (.inr ⟨by dsimp only;omega,h2,by dsimp only;omega,h4⟩))
  split
  ·exact .inr (.inr (.inl ⟨by dsimp only;omega,by dsimp only;omega,by dsimp only;omega,by dsimp only;omega⟩))
  ·exact .inr (.inr (.inl ⟨by dsimp only;omega,by dsimp only;omega,by dsimp only;omega,by dsimp only;omega⟩))
theorem Rq.cross {p q:Int×Int}(h:Rq p q){u n:Int}{a:Bool}(hu:0<=u/\u<4)(hn:n % 4=0)(hm:cN u n a p≠cN u n a q):aY (b6 u n) p=q:=by
 have hd:(n<jG u p)↔¬ (n<jG u q):=by
  unfold cN at hm
  by_cases h1:n<jG u p<;>by_cases h2:n<jG u q<;>simp [h1,h2] at hm ⊢
 clear hm
 rw [zF]
 unfold jG at hd
 unfold Rq at h
 obtain ⟨x,y⟩:=p
 obtain ⟨z,w⟩:=q
 dsimp only at h hd ⊢
 have:u=0\/u=1\/u=2\/u=3:=by omega
 rcases this with rfl|rfl|rfl|rfl
 ·simp only [if_true] at hd ⊢
  refine Tc ?_ ?_<;>dsimp only<;>omega
 ·simp only [show ((1:Int)=0)=False from by simp,if_false,if_true] at hd ⊢
  refine Tc ?_ ?_<;>dsimp only<;>omega
 ·simp only [show ((2:Int)=0)=False from by simp,show ((2:Int)=1)=False from by simp,if_false,if_true] at hd ⊢
  refine Tc ?_ ?_<;>dsimp only<;>omega
 ·simp only [show ((3:Int)=0)=False from by simp,show ((3:Int)=1)=False from by simp,show ((3:Int)=2)=False from by simp,if_false] at hd ⊢
  refine Tc ?_ ?_<;>dsimp only<;>omega
theorem zG {A:Ly}(h:Dih A):(c8 A=1/\A.c = -A.b/\A.d=A.a)\/(c8 A = -1/\A.c=A.b/\A.d = -A.a):=by
 obtain ⟨a,b,c,d,e,g⟩:=A
 unfold Dih at h
 unfold c8
 dsimp only at h ⊢
 rcases h with ⟨rfl,rfl,h1,h2⟩|⟨rfl,rfl,h1,h2⟩
 ·rcases h1 with rfl|rfl<;>rcases h2 with rfl|rfl<;>decide
 ·rcases h1 with rfl|rfl<;>rcases h2 with rfl|rfl<;>decide
theorem Qs {B C:Ly}(hB:Dih B)(hC:Dih C)(hd:c8 B=c8 C){p q:Int×Int}(R:Rq p q)(h1:aY B p=aY C p)(h2:aY B q=aY C q):B=C:=by
 have fB:=zG hB
 have fC:=zG hC
 obtain ⟨x,y⟩:=p
 obtain ⟨z,w⟩:=q
 unfold aY at h1 h2
 injection h1 with u1 u2
 injection h2 with v1 v2
 unfold Rq at R
 dsimp only at R u1 u2 v1 v2
 have key:B.a=C.a/\B.b=C.b/\B.c=C.c/\B.d=C.d:=by
  rcases R with ⟨rfl,_,⟨rfl,_⟩|⟨rfl,_⟩⟩|⟨rfl,_,⟨rfl,_⟩|⟨rfl,_⟩⟩|⟨_,_,rfl|rfl,rfl|rfl⟩|⟨_,_,rfl|rfl,rfl|rfl⟩<;>simp only [Int.mul_add,Int.mul_sub] at u1 u2 v1 v2<;>omega
 obtain ⟨k1,k2,k3,k4⟩:=key
 refine Ly.ext' k1 k2 k3 k4 ?_ ?_
 ·rw [k1,k2] at u1
  omega
 ·rw [k3,k4] at u2
  omega
noncomputable def eI (x y:Int):Bool:=x % 2 == y % 2&&(x % 2 == 1||!(x % 4 == y % 4))
noncomputable def sA (e:Int×Int):Int×Int:=if e.1 % 2=1 then (e.1,e.2+2 - e.2 % 4) else if e.2 % 4=0 then (e.1,e.2 - 1) else (e.1 - 1,e.2)
noncomputable def sB (e:Int×Int):Int×Int:=if e.1 % 2=1 then (e.1+2 - e.1 % 4,e.2) else if e.2 % 4=0 then (e.1,e.2+1) else (e.1+1,e.2)
theorem qC {e:Int×Int}(h:eI e.1 e.2=true):(e.1 % 2=1/\e.2 % 2=1)\/(e.1 % 2=0/\e.2 % 4=0/\e.1 % 4=2)\/(e.1 % 2=0/\e.2 % 4=2/\e.1 % 4=0):=by
 unfold eI at h
 simp only [RF,UT,beq_iff_eq,Wl,beq_eq_false_iff_ne] at h
 omega
theorem Ey {e:Int×Int}(h:eI e.1 e.2=true):Rq (sA e) (sB e):=by
 have:=qC h
 unfold Rq sA sB
 rcases this with ⟨h1,h2⟩|⟨h1,h2,h3⟩|⟨h1,h2,h3⟩
 ·simp only [if_pos h1];omega
 ·simp only [if_neg (show ¬ e.1 % 2=1 by omega),if_pos h2]
  exact .inl ⟨trivial,h3,.inr ⟨by omega,by omega⟩⟩
 ·simp only [if_neg (show ¬ e.1 % 2=1 by omega),if_neg (show ¬ e.2 % 4=0 by omega)]
  exact .inr (.inl ⟨trivial,h2,.inr ⟨by omega,by omega⟩⟩)
theorem Ez {e:Int×Int}(h:eI e.1 e.2=true):eD (sA e) e=sB e/\eD (sB e) e=sA e:=by
 have:=qC h
 unfold eD sA sB
 rcases this with ⟨h1,h2⟩|⟨h1,h2,h3⟩|⟨h1,h2,h3⟩
 ·simp only [if_pos h1]
  by_cases h3:e.1 % 4=e.2 % 4
  ·simp only [if_pos h3]
   refine ⟨Tc ?_ ?_,Tc ?_ ?_⟩<;>dsimp only<;>omega
  ·simp only [if_neg h3]
   refine ⟨Tc ?_ ?_,Tc ?_ ?_⟩<;>dsimp only<;>omega
 ·simp only [if_neg (show ¬ e.1 % 2=1 by omega),if_pos h2]
  refine ⟨Tc ?_ ?_,Tc ?_ ?_⟩<;>dsimp only<;>omega
 ·simp only [if_neg (show ¬ e.1 % 2=1 by omega),if_neg (show ¬ e.2 % 4=0 by omega)]
  refine ⟨Tc ?_ ?_,Tc ?_ ?_⟩<;>dsimp only<;>omega
noncomputable def EdF (F:Int×Int->Ly)(e:Int×Int):Prop:=(F (sA e)=F (sB e)/\Rq (aY (F (sA e)) (sA e)) (aY (F (sB e)) (sB e)))\/F (sA e)=c5 (iB e) (F (sB e))
theorem EdF.pos {F:Int×Int->Ly}{e:Int×Int}(he:eI e.1 e.2=true)(h:F (sA e)=c5 (iB e) (F (sB e))):aY (F (sA e)) (sA e)=aY (F (sB e)) (sB e):=by
 rw [h,mH,yQ,(Ez he).1]
theorem Qt (u n:Int):c5 (b6 u n) (b6 u n)=c9:=PF fun p=>by rw [mH,pX,sY]
theorem EdF.fold {F:Int×Int->Ly}(hF:∀ q,Dih (F q)){u n:Int}{a:Bool}(hu:0<=u/\u<4)(hn:n % 4=0){e:Int×Int}(he:eI e.1 e.2=true)(h:EdF F e):EdF (cI u n a F) e:=by
 rcases h with ⟨h1,h2⟩|h1
 ·by_cases hm:cN u n a (aY (F (sA e)) (sA e))=cN u n a (aY (F (sB e)) (sB e))
  ·refine .inl ⟨?_,?_⟩
   ·unfold cI
    rw [hm,h1]
   ·rw [zC,zC,hm]
    split
    ·exact Rq.mir h2 u hn
    ·exact h2
  ·have c1:=Rq.cross h2 hu hn hm
   have c2:aY (b6 u n) (aY (F (sB e)) (sB e))=aY (F (sA e)) (sA e):=by rw [<- c1,pX]
   obtain ⟨s1,s2⟩:=Ez he
   have X:c5 (F (sA e)) (b6 u n)=c5 (iB e) (F (sB e)):=by
    refine Qs (yT (hF _) (sZ u n)) (yT (DL e) (hF _)) ?_ (Ey he) ?_ ?_
    ·rw [yR,yR,Qr,DM,h1,Int.mul_comm]
    ·rw [mH,mH,yQ,s1]
     exact c1
    ·rw [mH,mH,yQ,s2,h1,c2,h1]
   refine .inr ?_
   unfold cI
   cases ha:cN u n a (aY (F (sA e)) (sA e)) with
   | true=>
    have hb:cN u n a (aY (F (sB e)) (sB e))=false:=by
     cases hb:cN u n a (aY (F (sB e)) (sB e)) with
     | false=>rfl
     | true=>exact absurd (ha.trans hb.symm) hm
    rw [hb]
    simp only [if_true,RE,if_false]
    exact X
   | false=>
    have hb:cN u n a (aY (F (sB e)) (sB e))=true:=by
     cases hb:cN u n a (aY (F (sB e)) (sB e)) with
     | true=>rfl
     | false=>exact absurd (ha.trans hb.symm) hm
    rw [hb]
    simp only [if_true,RE,if_false]
    rw [<- yS,<- X,yS,Qt,PD]
 ·have hp:=EdF.pos he h1
  refine .inr ?_
  unfold cI
  rw [hp]
  split
  ·rw [<- yS,<- h1]
  ·exact h1
noncomputable def JE (F:Int×Int->Ly):Prop:=(∀ q,Dih (F q))/\∀ e,eI e.1 e.2=true->EdF F e
theorem Qu:JE fun _=>c9:=⟨fun _=>DN,fun e he=>.inl ⟨rfl,by rw [sY,sY];exact Ey he⟩⟩
theorem Qv (F:Int×Int->Ly)(u n:Int)(a:Bool)(hu:0<=u/\u<4)(hn:n % 4=0)(h:JE F):JE (cI u n a F):=⟨Ep h.1,fun e he=>(h.2 e he).fold h.1 hu hn he⟩
noncomputable def dQ (w h:Int):List (Int×Int):=(iN 1 (4 * w - 1).toNat (4 * h - 1).toNat).filter fun p=>eI p.1 p.2
theorem Qw (k:Nat)(w h:Int)(hw:1<=w/\w<=3)(hh:1<=h/\h<=3)(μ:Hm)(Q:D×Hm->Prop)(H:Q (.loc μ.length,μ++[.lst ((dQ w h).map PP)])):W (f (k+1) "_law_rims" [.int w,.int h] μ) Q:=by
 rw [Pa,W_fin]
 simp only [aP,bI,gO,aM]
 refine ⟨SF _,?_⟩
 simp only [RA,RB,eM,sV,aR,aM,bC,aT,aE,aF,pV]
 refine ⟨by omega,?_⟩
 refine DV _ eI _ _ _ _ 1 (4 * h - 1).toNat (fun o1 o2 μ Q=>?_) (fun x y μ Q=>?_) (4 * w - 1).toNat (DW hw hh).2 _ (bP _ _) _ fun o1 o2=>?_
 ·simp only [sV,aR,aM,bC,aT,aE,aF,pV]
  exact and_iff_right (by omega)
 ·simp only [pR,pQ,cZ,aT,aE,aF,bC,pW,nU,hW,yH]
  unfold eI
  cases x % 2 == y % 2<;>cases x % 2 == 1<;>cases x % 4 == y % 4<;>simp
 ·simp only [w_mRet,aE,aF]
  rw [DT]
  exact H
theorem qD:∀ w∈[(1:Int),2,3],∀ h∈[(1:Int),2,3],(dQ w h).length<=48/\pY ((dQ w h).map aU)=true/\∀ e∈dQ w h,eI e.1 e.2=true/\sA e∈cO w h/\sB e∈cO w h:=by decide +kernel
theorem EA (k:Nat)(e:Int×Int)(μ:Hm)(Q:D×Hm->Prop)(H:∀ b μ',μ <+: μ'->μ'[b]? = some (.lst [PP (sA e),PP (sB e)])->Q (.loc b,μ')):W (f (k+1) "_law_beside" [PP e] μ) Q:=by
 rw [Pb]
 unfold sA sB at H
 refine yP rfl (DH rfl (fun h=>⟨_,rfl,?_⟩) fun h=>DH rfl (fun h2=>⟨_,rfl,?_⟩) fun h2=>⟨_,rfl,?_⟩)
 ·have h:e.1 % 2=1:=by simpa using h
  simp only [if_pos h] at H
  exact H _ _ (a8 _ _) (bP _ _)
 ·have h:¬ e.1 % 2=1:=by simpa using h
  have h2:e.2 % 4=0:=by simpa using h2
  simp only [if_neg h,if_pos h2] at H
  exact H _ _ (a8 _ _) (bP _ _)
 ·have h:¬ e.1 % 2=1:=by simpa using h
  have h2:¬ e.2 % 4=0:=by simpa using h2
  simp only [if_neg h,if_neg h2] at H
  exact H _ _ (a8 _ _) (bP _ _)
theorem Qx (μ:Hm)(A B:Ly):bZ 8 μ (LD A) (LD B)=some (decide (A=B)):=by
 have:bZ 8 μ (LD A) (LD B)=some (A.a == B.a&&(A.b == B.b&&(A.c == B.c&&(A.d == B.d&&(A.e == B.e&&(A.g == B.g&&true)))))):=rfl
 rw [this]
 congr 1
 rw [a0n,decide_eq_true_iff]
 simp only [RF,beq_iff_eq,and_true]
 constructor
 ·rintro ⟨h1,h2,h3,h4,h5,h6⟩
  exact Ly.ext' h1 h2 h3 h4 h5 h6
 ·rintro rfl
  exact ⟨rfl,rfl,rfl,rfl,rfl,rfl⟩
theorem w_neLD {μ:Hm}{A B:Ly}{Q:D×Hm->Prop}:W (aW true (LD A) (LD B) μ) Q↔Q (.bl (!decide (A=B)),μ):=by
 have:aW true (LD A) (LD B) μ=some (.bl (!decide (A=B)),μ):=by
  unfold aW
  rw [Qx]
  rfl
 rw [this]
 exact W_some
noncomputable def eQ (w h:Int)(F:Int×Int->Ly):List (Int×Int):=(dQ w h).filter fun e=>!decide (F (sA e)=F (sB e))
theorem Qy (k:Nat){μ:Hm}{a:Nat}{w h:Int}(hw:1<=w/\w<=3)(hh:1<=h/\h<=3){F:Int×Int->Ly}(nd:(cO w h).Nodup)(ha:μ[a]? = some (.dT (aX (fun q=>LD (F q)) (cO w h))))(Q:D×Hm->Prop)
  (H:∀ b μ',μ <+: μ'->μ'[b]? = some (.lst ((eQ w h F).map PP))->Q (.loc b,μ')):W (f (k+2) "_law_creased" [.loc a,.int w,.int h] μ) Q:=by
 obtain ⟨f1,_,f3⟩:=qD _ (fR hw) _ (fR hh)
 rw [Pj,W_fin,aP]
 simp only [bI,gO,aM,RA,RB]
 refine ⟨SF _,?_⟩
 rw [aP]
 simp only [eM,w_iSeq,bF,aR,aM,aE,aF]
 refine Qw k w h hw hh _ _ ((j8 (bP _ _)).mpr ?_)
 have l1:(μ++[C.lst []]).length=μ.length+1:=by simp
 have g0:((μ++[C.lst []])++[C.lst ((dQ w h).map PP)])[μ.length+1]? = some (.lst ((dQ w h).map PP)):=by rw [<- l1];exact bP _ _
 have g1:((μ++[C.lst []])++[C.lst ((dQ w h).map PP)])[μ.length]? = some (.lst []):=aJ (a8 _ _) (bP _ _)
 have p1:μ <+: ((μ++[C.lst []])++[C.lst ((dQ w h).map PP)]):=(a8 _ _).trans (a8 _ _)
 rw [l1]
 generalize (μ++[C.lst []])++[C.lst ((dQ w h).map PP)]=μ1 at g0 g1 p1
 refine kZ (fun i ρ' μ'=>∃ x4 x5 x6,ρ'=[some (.loc a),some (.int w),some (.int h),some (.loc μ.length),x4,x5,x6]/\μ <+: μ'/\μ'[μ.length]? = some (.lst ((((dQ w h).take i).filter fun e=>!decide (F (sA e)=F (sB e))).map PP))/\μ'[μ.length+1]? = some (.lst ((dQ w h).map PP)))
  ⟨none,none,none,rfl,p1,g1,g0⟩ (fun _ _ _ ⟨_,_,_,_,_,_,h⟩=>h) ?_ ?_
 ·rintro i d ρ' μ2 hd ⟨x4,x5,x6,rfl,p2,g2,g3⟩
  obtain ⟨e,he,rfl⟩:=nV hd
  refine ⟨_,rfl,?_⟩
  obtain ⟨_,q1,q2⟩:=f3 e (Sf he)
  simp only [RA,RB]
  rw [aP]
  simp only [mD,bF,aR,aM,aE,aF]
  refine EA k e _ _ fun b μ3 p3 g4=>?_
  refine (Dw g4).mpr ?_
  simp only [RA,RB,cY,cZ,aT,aE,aF]
  have ga:=aJ (p2.trans p3) ha
  refine (eP (.inl ga) (cH _) (jI nd q1)).mpr ((eP (.inl ga) (cH _) (jI nd q2)).mpr (w_neLD.mpr ?_))
  have g23:=aJ p3 g2
  have g33:=aJ p3 g3
  have et:(dQ w h).take (i+1)=(dQ w h).take i++[e]:=fS he
  have lt:(((dQ w h).take i).filter fun e=>!decide (F (sA e)=F (sB e))).length<=48:=SQ (SY _ _) (SQ (Zc _ _) f1)
  cases hc:decide (F (sA e)=F (sB e)) with
  | true=>
   simp only [To,RE,if_false,cU]
   refine ⟨_,_,_,rfl,p2.trans p3,?_,g33⟩
   rw [et,Td,RW (by simp [of_decide_eq_true hc]),WH,US]
   exact g23
  | false=>
   simp only [TV,if_true,kW]
   refine mE ?_
   simp only [aE,aF,aR,aM]
   refine ⟨mF g23,(pU g23 (by rw [Ro,Sh];omega)).mpr ?_⟩
   refine ⟨_,_,_,rfl,cT (p2.trans p3) (RD _) _,?_,by rw [Rz (by omega)];exact g33⟩
   rw [cC g23,et,Td,RZ (by simp [of_decide_eq_false hc]),WH,Se]
   rfl
 ·rintro ρ' μ2 ⟨x4,x5,x6,rfl,p2,g2,g3⟩
  rw [Ro,Tu] at g2
  simp only [w_mRet,aE,aF]
  exact H _ _ p2 g2
noncomputable def flat (G:Gr):List (Int×Int):=G.flatMap (·.2)
noncomputable def bU (G:Gr)(q:Int×Int):Int:=match G.find? (fun g=>g.2.contains q) with|some g=>(g.2.idxOf q:Nat)|none=>0
theorem zH (G:Gr)(g:(Int×Int)×List (Int×Int)):flat (G++[g])=flat G++g.2:=by
 unfold flat
 rw [W0]
 simp
theorem mem_flat {G:Gr}{q:Int×Int}:q∈flat G↔∃ g∈G,q∈g.2:=List.mem_flatMap
theorem Pil.one {qs:List (Int×Int)}{f:Int×Int->Int×Int}{G:Gr}(P:Pil qs f G){g:(Int×Int)×List (Int×Int)}(hg:g∈G){q:Int×Int}(hq:q∈g.2):q∈qs/\f q=g.1:=by
 have h:=P.pm g.1
 rw [eH P.kd hg] at h
 have:=SR.mp (h.mem_iff.mp hq)
 exact ⟨this.1,of_decide_eq_true this.2⟩
theorem Pil.nd {qs:List (Int×Int)}{f:Int×Int->Int×Int}{G:Gr}(nd:qs.Nodup)(P:Pil qs f G){g:(Int×Int)×List (Int×Int)}(hg:g∈G):g.2.Nodup:=by
 have h:=P.pm g.1
 rw [eH P.kd hg] at h
 exact h.nodup_iff.mpr (nd.sublist VX)
theorem EB {f:Int×Int->Int×Int}:∀ {G:Gr},(G.map (·.1)).Nodup->(∀ g∈G,g.2.Nodup/\∀ q∈g.2,f q=g.1)->(flat G).Nodup
 | [],_,_=>V4
 | g::G,kd,h=>by
  rw [RM,Sv] at kd
  show (g.2++flat G).Nodup
  rw [Uu]
  refine ⟨(h g (RX ..)).1,EB kd.2 fun x hx=>h x (RP _ hx),fun a ha b hb e=>?_⟩
  subst e
  obtain ⟨x,hx,hax⟩:=mem_flat.mp hb
  have e1:=(h g (RX ..)).2 a ha
  have e2:=(h x (RP _ hx)).2 a hax
  exact kd.1 (RG.mpr ⟨x,hx,by rw [<- e2,e1]⟩)
theorem Pil.flat {qs:List (Int×Int)}{f:Int×Int->Int×Int}{G:Gr}(nd:qs.Nodup)(P:Pil qs f G):(Lw.flat G).Perm qs:=by
 have h1:(Lw.flat G).Nodup:=EB (f:=f) P.kd fun g hg=>⟨P.nd nd hg,fun q hq=>(P.one hg hq).2⟩
 refine (List.perm_ext_iff_of_nodup h1 nd).mpr fun q=>?_
 rw [mem_flat]
 constructor
 ·rintro ⟨g,hg,hq⟩
  exact (P.one hg hq).1
 ·intro hq
  obtain ⟨g,hg,e⟩:=RG.mp (P.key.mpr ⟨q,hq,rfl⟩)
  refine ⟨g,hg,?_⟩
  have h:=P.pm g.1
  rw [eH P.kd hg] at h
  exact h.mem_iff.mpr (SR.mpr ⟨hq,decide_eq_true e.symm⟩)
theorem qE {qs:List (Int×Int)}{f:Int×Int->Int×Int}{G:Gr}(nd:qs.Nodup)(P:Pil qs f G){g:(Int×Int)×List (Int×Int)}(hg:g∈G){i:Nat}{q:Int×Int}(hq:g.2[i]? = some q):bU G q=i:=by
 have hm:=Sf hq
 have hf:G.find? (fun x=>x.2.contains q)=some g:=by
  cases h:G.find? (fun x=>x.2.contains q) with
  | none=>exact absurd (S1.mpr hm) (by have:=V5.mp h g hg;simpa using this)
  | some x=>
   have hx:=List.mem_of_find?_eq_some h
   have hqx:q∈x.2:=by
    have hx2:=List.find?_some h
    exact S1.mp hx2
   have e:x.1=g.1:=by rw [<- (P.one hx hqx).2,(P.one hg hm).2]
   have e2:=eH P.kd hx
   have e3:=eH P.kd hg
   rw [e,e3] at e2
   rw [show x=g from Tc e e2.symm]
 unfold bU
 rw [hf]
 have hi:i<g.2.length:=(Rw.mp hq).1
 have e:=(Rw.mp hq).2
 have:g.2.idxOf q=i:=by
  rw [<- e]
  exact (P.nd nd hg).idxOf_getElem i hi
 show ((g.2.idxOf q:Nat):Int)=i
 rw [this]
theorem EC {ν μ:Hm}{l b:Nat}{v:Int×Int->D}{L K:List (Int×Int)}(hv:∀ (i:Nat) q,L[i]? = some q->v q=.int (i:Int))(hK:∀ q∈L,q∉K)(nd:L.Nodup)(hl:K.length+L.length<=1000){x0 x2 x3 x4:Option D}(pre:ν <+: μ)(lo:ν.length<=b)(gl:ν[l]? = some (.lst (L.map PP)))(gb:μ[b]? = some (.dT (aX v K)))(Q:Fl×aH×Hm->Prop)
  (H:∀ x y μ',ν <+: μ'->μ'[b]? = some (.dT (aX v (K++L)))->Q (.nx,[x0,some (.loc b),x2,x,y],μ')) :
  W (dS (lV (.loc l)) (cL [3,4]) (cB (aA 1) (aA 4) (aA 3)) ((L.map PP).length+1) 0 [x0,some (.loc b),x2,x3,x4] μ) Q:=by
 refine OH (fun i ρ' μ'=>∃ x y,ρ'=[x0,some (.loc b),x2,x,y]/\ν <+: μ'/\μ'[b]? = some (.dT (aX v (K++L.take i)))) ⟨x3,x4,rfl,pre,by rw [V3,US];exact gb⟩ (fun _ _ _ ⟨_,_,_,p,_⟩=>aJ p gl) ?_ ?_
 ·rintro i d ρ' μ' hd ⟨x,y,rfl,p,g⟩
  obtain ⟨q,hq,rfl⟩:=nV hd
  refine ⟨_,rfl,?_⟩
  have hi:i<L.length:=(Rw.mp hq).1
  show W (cB (aA 1) (aA 4) (aA 3) [x0,some (.loc b),x2,some (.int i),some (PP q)] μ') _
  simp only [iA,aE,aF]
  refine (iM g (cH q) (by rw [Ro,RV,SJ,Sh];omega)).mpr ?_
  refine ⟨_,_,rfl,cT p lo _,?_⟩
  rw [cC g,<- hv i q hq,tG,fS hq,ZS]
  intro w
  rcases S8.mp w with w|w
  ·exact hK q (Sf hq) w
  ·exact k7 nd hq w
 ·rintro ρ' μ' ⟨x,y,rfl,p,g⟩
  rw [Ro,Tu] at g
  exact H x y μ' p g
theorem Qz {i j:Nat}{body:MS}{m2:MS}{ρ:aH}{μ:Hm}{a:Nat}{kvs:List (List Int×D)}{Q:Fl×aH×Hm->Prop}(hi:ρ[i]? = some (some (.loc a)))(hc:μ[a]? = some (.dT kvs))(I:Nat->aH->Hm->Prop)
  (h0:I 0 ρ (μ.set a (.dF kvs)))(go:∀ n k d ρ' μ',kvs[n]? = some (k,d)->I n ρ' μ'->W (body (ρ'.set j (some d)) μ') fun p=>p.1=.nx/\I (n+1) p.2.1 p.2.2)
  (stop:∀ ρ' μ',I kvs.length ρ' μ'->μ'[a]? = some (.dF kvs)/\Q (.nx,ρ',μ'.set a (.dT kvs))):W (dW i (bX (nM (aA i)) (cA j) body) m2 ρ μ) Q:=by
 refine y1 hi hc ?_
 have gF:(μ.set a (.dF kvs))[a]? = some (.dF kvs):=cC hc
 have hit:nM (aA i) ρ (μ.set a (.dF kvs))=some (dU (.tup (iJ kvs)),kvs.length+1,μ.set a (.dF kvs)):=by
  simp only [nM,aA,hi,R6,gF]
 rw [eM,hit,W_some]
 refine kY (N:=kvs.length) I (fun n ρ' μ' hn hI=>?_) (fun ρ' μ' hI=>⟨?_,stop ρ' μ' hI⟩) kvs.length 0 ρ _ (by omega) h0
 ·have e:kvs[n]? = some (kvs[n].1,kvs[n].2):=RN hn
  refine ⟨kvs[n].2,_,?_,rfl,bQ (go n _ _ ρ' μ' e hI) fun p q=>?_⟩
  ·show some ((iJ kvs)[n]?)=_
   unfold iJ
   rw [RR,e]
   rfl
  ·rw [q.1]
   exact q.2
 ·show some ((iJ kvs)[kvs.length]?)=_
  rw [Ts (by unfold iJ;simp)]
theorem zI {Z:Zr}{i:Nat}{z:(Int×Int)×List (Int×Int)×Nat}(h:Z[i]? = some z):(GZ Z).take (i+1)=(GZ Z).take i++[(z.1,z.2.1)]:=fS (by unfold GZ;rw [RR,h];rfl)
theorem ED {qs:List (Int×Int)}{g:Int×Int->Int×Int}(nd:qs.Nodup)(hl:qs.length<=100){Z:Zr}(P:Pil qs g (GZ Z)){i:Nat}{z:(Int×Int)×List (Int×Int)×Nat}(hz:Z[i]? = some z) :
  (∀ (j:Nat) q,z.2.1[j]? = some q->(fun q=>D.int (bU (GZ Z) q)) q=.int (j:Int))/\(∀ q∈z.2.1,q∉flat ((GZ Z).take i))/\z.2.1.Nodup/\(flat ((GZ Z).take i)).length+z.2.1.length<=1000:=by
 have hm:(z.1,z.2.1)∈GZ Z:=RG.mpr ⟨z,Sf hz,rfl⟩
 refine ⟨fun j q hq=>by dsimp only;rw [qE nd P hm hq],fun q hq w=>?_,P.nd nd hm,?_⟩
 ·obtain ⟨x,hx,hqx⟩:=mem_flat.mp w
  have hx':=Za hx
  have e:x.1=z.1:=by rw [<- (P.one hx' hqx).2,(P.one hm hq).2]
  have:z.1∉((GZ Z).take i).map (·.1):=by
   rw [Yv,eE]
   have kd:=P.kd
   rw [eE] at kd
   exact k7 kd (by rw [RR,hz];rfl)
  exact this (e ▸ RG.mpr ⟨x,hx,rfl⟩)
 ·have h1:=(P.flat nd).length_eq
  have h2:(flat ((GZ Z).take i)).length+z.2.1.length=(flat ((GZ Z).take (i+1))).length:=by rw [zI hz,zH,RV]
  have h3:(flat ((GZ Z).take (i+1))).length<=(flat (GZ Z)).length:=by
   have:GZ Z=(GZ Z).take (i+1)++(GZ Z).drop (i+1):=(YZ _ _).symm
   conv=>rhs;rw [this]
   unfold flat
   rw [W0,RV]
   omega
  omega
theorem QC (k:Nat){qs:List (Int×Int)}{g:Int×Int->Int×Int}(nd:qs.Nodup)(hl:qs.length<=100){μ:Hm}{h:Nat}{Z:Zr}(I:HI μ h Z)(hh:μ[h]? = some (.dT (aN Z)))(P:Pil qs g (GZ Z))(Q:D×Hm->Prop)
  (H:∀ b μ',μ <+: μ'->μ'[b]? = some (.dT (aX (fun q=>.int (bU (GZ Z) q)) (flat (GZ Z))))->Q (.loc b,μ')):W (f (k+1) "_law_ranks" [.loc h] μ) Q:=by
 have hhl:h<μ.length:=(Rw.mp hh).1
 rw [Pk,W_fin,aP]
 simp only [bI,jD,RA,RB]
 rw [aP]
 have IF:=I.frz hh
 have len0:(μ.set h (.dF (aN Z))).length=μ.length:=SE
 have hpF:μ.set h (.dF (aN Z)) <+: (μ++[C.dT []]).set h (.dF (aN Z)):=by
  rw [U2 _ _ hhl]
  exact Vi _ _
 refine tD rfl (aJ (a8 _ _) hh) (fun i ρ' μ'=>∃ x y z,ρ'=[some (.loc h),some (.loc μ.length),x,y,z]/\μ.set h (.dF (aN Z)) <+: μ'/\μ'[μ.length]? = some (.dT (aX (fun q=>.int (bU (GZ Z) q)) (flat ((GZ Z).take i)))))
  ⟨none,none,none,rfl,hpF,by rw [Rz (by omega)];exact bP _ _⟩ ?_ ?_
 ·rintro i kk d ρ' μ' hk ⟨x,y,z',rfl,p1,g1⟩
  obtain ⟨z,hz,hzi,rfl,rfl⟩:=tE hk
  have ew:D.tup ((aU z.1).map D.int)=PP z.1:=rfl
  simp only [RA,RB,ew,eM]
  refine DF ?_
  simp only [aR,aM,aT,aE,aF]
  refine (eP (IF.more p1).dic (cH z.1) (k6 I.kd hz)).mpr ⟨z.2.2,z.2.1.map PP,rfl,(IF.more p1).at_ z hz,?_⟩
  obtain ⟨r1,r2,r3,r4⟩:=ED nd hl P hzi
  refine EC (v:=fun q=>.int (bU (GZ Z) q)) (K:=flat ((GZ Z).take i)) r1 r2 r3 r4 p1 (by rw [len0];exact RD _) (IF.at_ z hz) g1 _ fun x' y' μ2 p2 g2=>?_
  refine ⟨rfl,_,_,_,rfl,p2,?_⟩
  rw [zI hzi,zH]
  exact g2
 ·rintro ρ' μ' ⟨x,y,z,rfl,p1,g1⟩
  have gF:μ'[h]? = some (.dF (aN Z)):=aJ p1 (cC hh)
  refine ⟨gF,?_⟩
  simp only [w_mRet,aE,aF]
  refine H _ _ (pZ hh p1) ?_
  rw [Rz (by omega),g1,UI (by rw [jF,GZ,Ro];exact RD _)]
theorem QD (k:Nat){qs:List (Int×Int)}{g:Int×Int->Int×Int}(nd:qs.Nodup)(hl:qs.length<=100){μ:Hm}{h:Nat}{Z:Zr}(I:HI μ h Z)(hh:μ[h]? = some (.dT (aN Z)))(P:Pil qs g (GZ Z))(Q:D×Hm->Prop)
  (H:∀ b μ',μ <+: μ'->μ'[b]? = some (.dT (aX (fun q=>.int (bU (GZ Z) q)) (flat (GZ Z))))->Q (.loc b,μ')):W (f (k+1) "heights_in" [.loc h] μ) Q:=by
 have hhl:h<μ.length:=(Rw.mp hh).1
 rw [O1,W_fin,aP]
 simp only [bI,jD,RA,RB]
 rw [aP]
 have IF:=I.frz hh
 have len0:(μ.set h (.dF (aN Z))).length=μ.length:=SE
 have hpF:μ.set h (.dF (aN Z)) <+: (μ++[C.dT []]).set h (.dF (aN Z)):=by
  rw [U2 _ _ hhl]
  exact Vi _ _
 refine Qz rfl (aJ (a8 _ _) hh) (fun i ρ' μ'=>∃ x y z,ρ'=[some (.loc h),some (.loc μ.length),x,y,z]/\μ.set h (.dF (aN Z)) <+: μ'/\μ'[μ.length]? = some (.dT (aX (fun q=>.int (bU (GZ Z) q)) (flat ((GZ Z).take i)))))
  ⟨none,none,none,rfl,hpF,by rw [Rz (by omega)];exact bP _ _⟩ ?_ ?_
 ·rintro i kk d ρ' μ' hk ⟨x,y,z',rfl,p1,g1⟩
  obtain ⟨z,hz,hzi,rfl,rfl⟩:=tE hk
  simp only [RA,RB,eM]
  refine DF ?_
  simp only [aR,aM,aE,aF]
  refine ⟨z.2.2,z.2.1.map PP,rfl,(IF.more p1).at_ z hz,?_⟩
  obtain ⟨r1,r2,r3,r4⟩:=ED nd hl P hzi
  refine EC (v:=fun q=>.int (bU (GZ Z) q)) (K:=flat ((GZ Z).take i)) r1 r2 r3 r4 p1 (by rw [len0];exact RD _) (IF.at_ z hz) g1 _ fun x' y' μ2 p2 g2=>?_
  refine ⟨rfl,_,_,_,rfl,p2,?_⟩
  rw [zI hzi,zH]
  exact g2
 ·rintro ρ' μ' ⟨x,y,z,rfl,p1,g1⟩
  have gF:μ'[h]? = some (.dF (aN Z)):=aJ p1 (cC hh)
  refine ⟨gF,?_⟩
  simp only [w_mRet,aE,aF]
  refine H _ _ (pZ hh p1) ?_
  rw [Rz (by omega),g1,UI (by rw [jF,GZ,Ro];exact RD _)]
noncomputable def cE (F:Int×Int->Ly)(r:Int×Int->Int)(e:Int×Int):Str:=if (decide (r (sB e)<r (sA e)) == decide (c8 (F (sA e))<0))=true then "v" else "h"
noncomputable abbrev MD (p:(Int×Int)×Str):D:=.tup [PP p.1,.str p.2]
theorem EE {l:List ((Int×Int)×Str)}{i:Nat}{d:D}(h:(l.map MD)[i]? = some d):∃ p,l[i]? = some p/\d=MD p:=by
 rw [RR] at h
 obtain ⟨p,h1,h2⟩:=Rv.mp h
 exact ⟨p,h1,h2.symm⟩
noncomputable def k8 (w h:Int)(F:Int×Int->Ly)(r:Int×Int->Int):List ((Int×Int)×Str):=(eQ w h F).map fun e=>(e,cE F r e)
theorem EF {w h:Int}(hw:1<=w/\w<=3)(hh:1<=h/\h<=3){F:Int×Int->Ly}{e:Int×Int}(he:e∈eQ w h F):eI e.1 e.2=true/\sA e∈cO w h/\sB e∈cO w h/\F (sA e)≠F (sB e):=by
 obtain ⟨h1,h2⟩:=SR.mp he
 obtain ⟨a,b,c⟩:=(qD _ (fR hw) _ (fR hh)).2.2 e h1
 exact ⟨a,b,c,by simpa using h2⟩
theorem zJ {w h:Int}(hw:1<=w/\w<=3)(hh:1<=h/\h<=3)(F:Int×Int->Ly):(eQ w h F).length<=48:=SQ (SY _ _) (qD _ (fR hw) _ (fR hh)).1
theorem QF (k:Nat){w h:Int}(hw:1<=w/\w<=3)(hh:1<=h/\h<=3){F:Int×Int->Ly}(nd:(cO w h).Nodup)(hl:(cO w h).length<=36)(hF:∀ q,Dih (F q)){μ:Hm}{a b:Nat}(ha:μ[a]? = some (.dT (aX (fun q=>LD (F q)) (cO w h)))){g:Int×Int->Int×Int}{Z:Zr}(I:HI μ b Z)(hb:μ[b]? = some (.dT (aN Z)))(P:Pil (cO w h) g (GZ Z))(Q:D×Hm->Prop)
  (H:∀ c μ',μ <+: μ'->μ'[c]? = some (.lst ((k8 w h F (bU (GZ Z))).map MD))->Q (.loc c,μ')):W (f (k+3) "_law_marks" [.loc a,.loc b,.int w,.int h] μ) Q:=by
 have pf:=P.flat nd
 have ndf:(flat (GZ Z)).Nodup:=pf.nodup_iff.mpr nd
 rw [Pl,W_fin,aP]
 simp only [bI,bF,aR,aM,aE,aF]
 refine QC (k+1) nd (by omega) I hb P _ fun r μ1 p1 g1=>?_
 simp only [RA,RB]
 rw [aP]
 simp only [bI,gO,aM,RA,RB]
 refine ⟨SF _,?_⟩
 rw [aP]
 simp only [eM,w_iSeq,bF,aR,aM,aE,aF]
 have p2:=a8 μ1 (C.lst [])
 refine Qy k hw hh nd (aJ (p1.trans p2) ha) _ fun l μ2 p3 gl=>?_
 refine (j8 gl).mpr ?_
 have lc:μ1.length≠l\/True:=.inr trivial
 have hc0:μ2[μ1.length]? = some (.lst []):=aJ p3 (bP _ _)
 have q2:μ1 <+: μ2:=p2.trans p3
 by_cases hne:l=μ1.length
 ·-- no crease: the list of creases is empty,like the list that is made
  subst hne
  rw [hc0] at gl
  have e0:eQ w h F=[]:=by
   injection gl with gl
   injection gl with gl
   exact Vc.mp gl.symm
  rw [e0]
  refine kZ (xs:=([]:List (Int×Int)).map PP) (fun i ρ' μ'=>ρ'=[some (.loc a),some (.loc b),some (.int w),some (.int h),some (.loc r),some (.loc μ1.length),none,none,none,none,none,none,none,none,none,none]/\μ'=μ2) ⟨rfl,rfl⟩ (fun _ _ _ ⟨_,e⟩=>by rw [e];exact hc0) (fun i d ρ' μ' hd=>by simp at hd) ?_
  rintro ρ' μ' ⟨rfl,rfl⟩
  simp only [w_mRet,aE,aF]
  refine H _ _ (p1.trans q2) ?_
  unfold k8
  rw [e0]
  exact hc0
 refine kZ (fun i ρ' μ'=>∃ x6 x7 x8 x9 x10 x11 x12 x13 x14 x15,ρ'=[some (.loc a),some (.loc b),some (.int w),some (.int h),some (.loc r),some (.loc μ1.length),x6,x7,x8,x9,x10,x11,x12,x13,x14,x15]/\μ1 <+: μ'/\μ'[μ1.length]? = some (.lst ((((eQ w h F).take i).map fun e=>(e,cE F (bU (GZ Z)) e)).map MD))/\μ'[l]? = some (.lst ((eQ w h F).map PP)))
  ⟨none,none,none,none,none,none,none,none,none,none,rfl,q2,hc0,gl⟩ (fun _ _ _ ⟨_,_,_,_,_,_,_,_,_,_,_,_,_,h⟩=>h) ?_ ?_
 ·rintro i d ρ' μ3 hd ⟨x6,x7,x8,x9,x10,x11,x12,x13,x14,x15,rfl,p4,g4,g5⟩
  obtain ⟨e,he,rfl⟩:=nV hd
  refine ⟨_,rfl,?_⟩
  obtain ⟨_,m1,m2,_⟩:=EF hw hh (Sf he)
  simp only [RA,RB]
  rw [aP]
  simp only [mD,bF,aR,aM,aE,aF]
  refine EA (k+1) e _ _ fun b' μ4 p5 g6=>?_
  refine (Dw g6).mpr ?_
  simp only [RA,RB]
  have p14:=p4.trans p5
  rw [aP]
  simp only [mD,aT,aE,aF]
  refine (eP (.inl (aJ (p1.trans p14) ha)) (cH _) (jI nd m1)).mpr ?_
  simp only [yW,RA,RB]
  rw [aP]
  simp only [bI,aT,aE,aF]
  have gr:=aJ p14 g1
  refine (eP (.inl gr) (cH _) (jI ndf (pf.mem_iff.mpr m1))).mpr ((eP (.inl gr) (cH _) (jI ndf (pf.mem_iff.mpr m2))).mpr ?_)
  simp only [pT,RA,RB,kW]
  refine mE ?_
  have g44:=aJ p5 g4
  simp only [aE,aF,aR,aM]
  refine ⟨mF g44,?_⟩
  obtain ⟨h1,h2,h3,h4⟩:=(hF (sA e)).sm
  simp only [e8,aR,aM,aE,aF,pP,cZ,aT,bC,iC h1,iC h2,yG,pS]
  refine w_eqBl.mpr ?_
  have lt:((((eQ w h F).take i).map fun e=>(e,cE F (bU (GZ Z)) e)).map MD).length<RL:=by
   rw [Ro,Ro,Sh]
   have:=zJ hw hh F
   have:=Zc i (eQ w h F)
   omega
  have et:(eQ w h F).take (i+1)=(eQ w h F).take i++[e]:=fS he
  have fin':∀ s:Str,s=cE F (bU (GZ Z)) e->W (fN (.loc μ1.length) [.tup [PP e,.str s]] μ4) fun p=>∃ x6 x7 x8 x9 x10 x11 x12 x13 x14 x15,[some (.loc a),some (.loc b),some (.int w),some (.int h),some (.loc r),some (.loc μ1.length),some (PP e),some (PP (sA e)),some (PP (sB e)),some (.int (F (sA e)).a),some (.int (F (sA e)).b),some (.int (F (sA e)).c),some (.int (F (sA e)).d),some (.int (F (sA e)).e),some (.int (F (sA e)).g),some (.bl (decide (bU (GZ Z) (sB e)<bU (GZ Z) (sA e))))]=[some (.loc a),some (.loc b),some (.int w),some (.int h),some (.loc r),some (.loc μ1.length),x6,x7,x8,x9,x10,x11,x12,x13,x14,x15]/\μ1 <+: p.2/\p.2[μ1.length]? = some (.lst ((((eQ w h F).take (i+1)).map fun e=>(e,cE F (bU (GZ Z)) e)).map MD))/\p.2[l]? = some (.lst ((eQ w h F).map PP)):=fun s es=>by
   refine (pU g44 lt).mpr ⟨_,_,_,_,_,_,_,_,_,_,rfl,cT p14 (RD _) _,?_,by rw [Rz (So hne)];exact aJ p5 g5⟩
   rw [cC g44,et,Se,Se,es]
   rfl
  have em:cE F (bU (GZ Z)) e=if (decide (bU (GZ Z) (sB e)<bU (GZ Z) (sA e)) == decide ((F (sA e)).a * (F (sA e)).d - (F (sA e)).b * (F (sA e)).c<0))=true then ("v":Str) else ("h":Str):=rfl
  by_cases hc:(decide (bU (GZ Z) (sB e)<bU (GZ Z) (sA e)) == decide ((F (sA e)).a * (F (sA e)).d - (F (sA e)).b * (F (sA e)).c<0))=true
  ·rw [if_pos hc] at em
   simp only [hc,if_true]
   exact ⟨eN,fin' _ em.symm⟩
  ·rw [if_neg hc] at em
   simp only [ZT.mpr hc,RE,if_false]
   exact ⟨eN,fin' _ em.symm⟩
 ·rintro ρ' μ3 ⟨x6,x7,x8,x9,x10,x11,x12,x13,x14,x15,rfl,p4,g4,g5⟩
  rw [Ro,Tu] at g4
  simp only [w_mRet,aE,aF]
  exact H _ _ (p1.trans p4) g4
noncomputable def mK (q:Int×Int):List (Int×Int):=[(q.1 - 1,q.2),(q.1,q.2 - 1),(q.1,q.2+1),(q.1+1,q.2)]
noncomputable def iP (p:Int×Int):Bool:=if p.1 % 2=1 then p.2 % 4 == 2 else p.1 % 4 == 2&&p.2 % 2 == 1
theorem QH:(4:Nat)<=RL:=by decide
theorem QK (k:Nat)(x y:Int)(μ:Hm)(Q:D×Hm->Prop):W (f (k+1) "is_quarter" [P x y] μ) Q↔Q (.bl (iP (x,y)),μ):=by
 rw [OR,W_fin]
 simp only [aP,w_mRet,cU,cY,cZ,kX,aT,bC,aE,nT,jC,hW,yH,pW,nU]
 unfold iP
 by_cases h:x % 2=1
 ·simp [h]
 ·have e:(x % 2 == 1)=false:=by simpa using h
  simp only [e,h,RE,if_false]
  cases x % 4 == 2<;>simp
theorem QL (k:Nat)(q:Int×Int)(μ:Hm):f (k+1) "beside" [PP q] μ=some (.loc μ.length,μ++[C.lst [P (q.1 - 1) q.2,P q.1 (q.2 - 1),P q.1 (q.2+1),P (q.1+1) q.2]]):=by
 rw [OS]
 kernel_rfl
theorem QM (k:Nat)(q:Int×Int)(μ:Hm)(Q:D×Hm->Prop)(H:∀ a μ',μ <+: μ'->μ'[a]? = some (.lst (((mK q).filter iP).map PP))->Q (.loc a,μ')):W (f (k+2) "sides_of" [PP q] μ) Q:=by
 rw [OT,W_fin]
 simp only [w_mRet]
 refine sW (xs:=(mK q).map PP) (p:=fun d=>iP (jE d)) (v:=fun d=>d) ?_
 refine w_iSeq.mpr (Pw rfl ?_)
 rw [QL,W_some]
 have g1:(μ++[C.lst [P (q.1 - 1) q.2,P q.1 (q.2 - 1),P q.1 (q.2+1),P (q.1+1) q.2]])[μ.length]? = some (.lst ((mK q).map PP)):=bP _ _
 refine (j8 g1).mpr ⟨Dy g1,rfl,QH,fun d μ' hd hp=>?_,fun d μ' hd _ hp=>?_,fun μ' hp hg=>?_⟩
 ·obtain ⟨u,v,rfl⟩:=PB hd
  simp only [Tj,UR,iL,bF,aR,aM,aE,aF,QK,hX]
  exact ⟨rfl,Ti _⟩
 ·simp only [Tj,UR,aE,aF]
  exact ⟨trivial,Ti _⟩
 ·refine H _ _ ((a8 _ _).trans hp) ?_
  rw [hg,Pz iP]
theorem QN {e:Int×Int}(h:eI e.1 e.2=true):(mK e).filter iP=[sA e,sB e]\/(mK e).filter iP=[sB e,sA e]:=by
 have:=qC h
 obtain ⟨x,y⟩:=e
 dsimp only at this
 have q:∀ a b:Int,iP (a,b)=true↔((a % 2=1/\b % 4=2)\/(a % 4=2/\b % 2=1)):=fun a b=>by
  unfold iP
  dsimp only
  split
  ·simp only [beq_iff_eq];omega
  ·simp only [RF,beq_iff_eq];omega
 have qf:∀ a b:Int,iP (a,b)=false↔¬ ((a % 2=1/\b % 4=2)\/(a % 4=2/\b % 2=1)):=fun a b=>by rw [<- q,Bool.not_eq_true]
 unfold mK sA sB
 dsimp only
 rcases this with ⟨h1,h2⟩|⟨h1,h2,h3⟩|⟨h1,h2,h3⟩
 ·have a1:x % 4=1\/x % 4=3:=by omega
  have a2:y % 4=1\/y % 4=3:=by omega
  simp only [if_pos h1]
  rcases a1 with a1|a1<;>rcases a2 with a2|a2
  ·rw [RW (by rw [qf _ _ |>.mpr (by omega)];exact RO),RW (by rw [qf _ _ |>.mpr (by omega)];exact RO),RZ ((q _ _).mpr (by omega)),RZ ((q _ _).mpr (by omega)),a1,a2]
   exact .inl (by simp;omega)
  ·rw [RW (by rw [qf _ _ |>.mpr (by omega)];exact RO),RZ ((q _ _).mpr (by omega)),RW (by rw [qf _ _ |>.mpr (by omega)];exact RO),RZ ((q _ _).mpr (by omega)),a1,a2]
   exact .inl (by simp;omega)
  ·rw [RZ ((q _ _).mpr (by omega)),RW (by rw [qf _ _ |>.mpr (by omega)];exact RO),RZ ((q _ _).mpr (by omega)),RW (by rw [qf _ _ |>.mpr (by omega)];exact RO),a1,a2]
   exact .inr (by simp;omega)
  ·rw [RZ ((q _ _).mpr (by omega)),RZ ((q _ _).mpr (by omega)),RW (by rw [qf _ _ |>.mpr (by omega)];exact RO),RW (by rw [qf _ _ |>.mpr (by omega)];exact RO),a1,a2]
   exact .inr (by simp;omega)
 ·simp only [if_neg (show ¬ x % 2=1 by omega),if_pos h2]
  rw [RW (by rw [qf _ _ |>.mpr (by omega)];exact RO),RZ ((q _ _).mpr (by omega)),RZ ((q _ _).mpr (by omega)),RW (by rw [qf _ _ |>.mpr (by omega)];exact RO)]
  exact .inl rfl
 ·simp only [if_neg (show ¬ x % 2=1 by omega),if_neg (show ¬ y % 4=0 by omega)]
  rw [RZ ((q _ _).mpr (by omega)),RW (by rw [qf _ _ |>.mpr (by omega)];exact RO),RW (by rw [qf _ _ |>.mpr (by omega)];exact RO),RZ ((q _ _).mpr (by omega))]
  exact .inl rfl
noncomputable def nZ (F:Int×Int->Ly)(r:Int×Int->Int)(s t:Int×Int):Str:=if (if c8 (F s) = -1 then decide (r t<r s) else decide (r s<r t))=true then "v" else "h"
theorem QR {F:Int×Int->Ly}{r:Int×Int->Int}{e:Int×Int}(hF:∀ q,Dih (F q))(hd:F (sA e)=c5 (iB e) (F (sB e)))(hr:r (sA e)≠r (sB e)):nZ F r (sA e) (sB e)=cE F r e/\nZ F r (sB e) (sA e)=cE F r e:=by
 have h1:c8 (F (sA e)) = -c8 (F (sB e)):=by rw [hd,yR,DM];omega
 have h2:=zG (hF (sB e))
 unfold nZ cE
 have h3:c8 (F (sB e))=1\/c8 (F (sB e)) = -1:=h2.imp (·.1) (·.1)
 rw [h1]
 rcases h3 with h3|h3
 ·rw [h3]
  constructor<;>(by_cases ha:r (sB e)<r (sA e)<;>by_cases hb:r (sA e)<r (sB e)<;>simp [ha,hb]<;>omega)
 ·rw [h3]
  constructor<;>(by_cases ha:r (sB e)<r (sA e)<;>by_cases hb:r (sA e)<r (sB e)<;>simp [ha,hb]<;>omega)
theorem QU (k:Nat){F:Int×Int->Ly}(hF:∀ q,Dih (F q)){r:Int×Int->Int}{row fl:List (Int×Int)}(nr:row.Nodup)(nf:fl.Nodup){μ:Hm}{a b:Nat}(ha:μ[a]? = some (.dT (aX (fun q=>.int (r q)) fl)))(hb:μ[b]? = some (.dT (aX (fun q=>LD (F q)) row)))
  {e:Int×Int}(he:eI e.1 e.2=true)(m1:sA e∈row/\sB e∈row)(m2:sA e∈fl/\sB e∈fl)(hd:F (sA e)=c5 (iB e) (F (sB e)))(hr:r (sA e)≠r (sB e))(Q:D×Hm->Prop)(H:∀ μ',μ <+: μ'->Q (.str (cE F r e),μ')) :
  W (f (k+4) "mark_by_heights" [.loc a,.loc b,PP e] μ) Q:=by
 have main:∀ s t:Int×Int,s∈row->t∈row->s∈fl->t∈fl->nZ F r s t=cE F r e->(mK e).filter iP=[s,t]->W (f (k+4) "mark_by_heights" [.loc a,.loc b,PP e] μ) Q:=fun s t hs ht fs ft em ef=>by
  rw [O4,W_fin,aP]
  simp only [bI,bF,aR,aM,aE,aF]
  rw [O3,W_fin,aP]
  simp only [bI,bF,aR,aM,aE,aF]
  refine QM k e _ _ fun l μ1 p1 g1=>?_
  rw [ef] at g1
  simp only [RA,RB]
  rw [aP]
  have i0:atI ([s,t].map PP) 0=some (PP s):=rfl
  have i1:atI ([s,t].map PP) 1=some (PP t):=rfl
  have hb1:=aJ p1 hb
  simp only [cY,iL,bF,aR,aM,aT,aE,aF,bC]
  refine (hZ g1 i0).mpr ((eP (.inl hb1) (cH s) (jI nr hs)).mpr ((PH (k+1) (F s) (hF s) _ _).mpr ?_))
  simp only [hX]
  have last:∀ (x y:Int×Int)(c:Nat)(μ2:Hm),μ <+: μ2->μ2[c]? = some (.lst ([x,y].map PP))->x∈fl->y∈fl->(if decide (r y<r x)=true then ("v":Str) else "h")=cE F r e->
    W (fY (dN (aK (f (k+3) "is_above") (aC (aA 0) (aC (aB aL (aA 3) (mC (.int 0))) (aC (aB aL (aA 3) (mC (.int 1))) aD))))) (mC (.str "v")) (mC (.str "h")) [some (.loc a),some (.loc b),some (PP e),some (.loc c)] μ2) fun p=>Q (p.1,p.2):=fun x y c μ2 p2 g2 hx hy ey=>by
   simp only [pP,iL,bF,aR,aM,aT,aE,aF,bC]
   refine (hZ g2 (show atI ([x,y].map PP) 0=some (PP x) from rfl)).mpr ((hZ g2 (show atI ([x,y].map PP) 1=some (PP y) from rfl)).mpr ?_)
   rw [O2,W_fin]
   simp only [w_mRet,aT,aE,aF]
   have ha2:=aJ p2 ha
   refine (eP (.inl ha2) (cH x) (jI nf hx)).mpr ((eP (.inl ha2) (cH y) (jI nf hy)).mpr ?_)
   simp only [pT,hX]
   have hq:=H μ2 p2
   rw [<- ey] at hq
   split
   ·rename_i hc
    rw [if_pos hc] at hq
    exact hq
   ·rename_i hc
    rw [if_neg hc] at hq
    exact hq
  cases ht:c8 (F s) == -1 with
  | true=>
   simp only [if_true,w_mRet,aE,aF,RA,RB]
   refine last s t l μ1 p1 g1 fs ft ?_
   rw [<- em]
   unfold nZ
   simp only [show c8 (F s) = -1 by simpa using ht,if_true]
  | false=>
   simp only [RE,if_false,cU,w_mRet,gO,aR,aM,aT,aE,aF,bC]
   refine (hZ g1 i1).mpr ((hZ g1 i0).mpr ⟨eN,?_⟩)
   simp only [RA,RB]
   refine last t s μ1.length _ (p1.trans (a8 _ _)) (bP _ _) ft fs ?_
   rw [<- em]
   unfold nZ
   simp only [show ¬ c8 (F s) = -1 by simpa using ht,if_false]
 obtain ⟨e1,e2⟩:=QR hF hd hr
 rcases QN he with h|h
 ·exact main _ _ m1.1 m1.2 m2.1 m2.2 e1 h
 ·exact main _ _ m1.2 m1.1 m2.2 m2.1 e2 h
theorem EG {a b c:D}{μ:Hm}{Q:D×Hm->Prop}:W (aL (.tup [a,b,c]) (.int 2) μ) Q↔Q (c,μ):=W_some
noncomputable def SH (w h:Int)(S:List ((Int×Int)×Str)):D:=.tup [.int w,.int h,.tup (S.map MD)]
noncomputable def tI:D->D
 | .tup (a::_)=>a
 | _=>.non
noncomputable def EH:D->D
 | .tup [_,b]=>b
 | _=>.non
theorem QV {qs:List (Int×Int)}{g:Int×Int->Int×Int}{G:Gr}(nd:qs.Nodup)(P:Pil qs g G){a b:Int×Int}(ha:a∈qs)(hb:b∈qs)(ne:a≠b)(e:g a=g b):bU G a≠bU G b:=by
 obtain ⟨x,hx,e1⟩:=RG.mp (P.key.mpr ⟨a,ha,rfl⟩)
 have h:=P.pm x.1
 rw [eH P.kd hx] at h
 have h1:a∈x.2:=h.mem_iff.mpr (SR.mpr ⟨ha,decide_eq_true e1.symm⟩)
 have h2:b∈x.2:=h.mem_iff.mpr (SR.mpr ⟨hb,decide_eq_true (e.symm.trans e1.symm)⟩)
 obtain ⟨i,hi⟩:=VO h1
 obtain ⟨j,hj⟩:=VO h2
 rw [qE nd P hx hi,qE nd P hx hj]
 intro w
 have w':i=j:=by omega
 subst w'
 rw [hi] at hj
 exact ne (RY hj)
theorem QX {e:Int×Int}(h:eI e.1 e.2=true):sA e≠sB e:=by
 have:=qC h
 unfold sA sB
 intro w
 rcases this with ⟨h1,h2⟩|⟨h1,h2,h3⟩|⟨h1,h2,h3⟩
 ·rw [if_pos h1,if_pos h1] at w
  injection w with w1 w2
  omega
 ·simp only [if_neg (show ¬ e.1 % 2=1 by omega),if_pos h2] at w
  injection w with w1 w2
  omega
 ·simp only [if_neg (show ¬ e.1 % 2=1 by omega),if_neg (show ¬ e.2 % 4=0 by omega)] at w
  injection w with w1 w2
  omega
structure CrF (qs:List (Int×Int))(F:Int×Int->Ly)(e:Int×Int):Prop where
 r:eI e.1 e.2=true
 a:sA e∈qs
 b:sB e∈qs
 m:F (sA e)=c5 (iB e) (F (sB e))
theorem zK (k:Nat){w h:Int}{qs:List (Int×Int)}(nd:qs.Nodup)(hl:qs.length<=36){F:Int×Int->Ly}(hF:∀ q,Dih (F q)){row:List (Int×Int)}(hrow:row.Perm qs){S:List ((Int×Int)×Str)}(lS:S.length<=48)(hS:∀ p∈S,CrF qs F p.1)
  {μ:Hm}{a b:Nat}(ha:μ[a]? = some (.dT (aX (fun q=>LD (F q)) row))){Z:Zr}(I:HI μ b Z)(hb:μ[b]? = some (.dT (aN Z)))(P:Pil qs (fun q=>aY (F q) q) (GZ Z))(Q:D×Hm->Prop)
  (H:∀ c μ',μ <+: μ'->μ.length<=c->μ'[c]? = some (.lst ((S.map fun p=>(p.1,cE F (bU (GZ Z)) p.1)).map MD))->Q (.loc c,μ')):W (f (k+5) "marks_by" [SH w h S,.loc a,.loc b] μ) Q:=by
 rw [O5,W_fin,aP]
 simp only [bI,bF,aR,aM,aE,aF]
 refine QD (k+3) nd (by omega) I hb P _ fun c μ1 p1 g1=>?_
 simp only [RA,RB,w_mRet]
 have pf:=P.flat nd
 refine OJ (xs:=S.map MD) (x:=fun d=>[some (tI d),some (EH d)]) (p:=fun _=>true) (v:=fun d=>MD (jE (tI d),cE F (bU (GZ Z)) (jE (tI d)))) ?_
 simp only [SH,w_iSeq,aT,aE,aF,bC,EG]
 refine w_seqT.mpr ⟨Dz,rfl,by rw [Ro,Sh];omega,fun d μ' hd=>?_,fun d μ' hd hp=>w_mTrue.mpr ⟨rfl,Ti _⟩,fun d μ' hd _ hp=>?_,fun μ2 p2 g2=>?_⟩
 ·obtain ⟨m,_,rfl⟩:=RG.mp hd
  rfl
 ·obtain ⟨m,hm,rfl⟩:=RG.mp hd
  simp only [Tj,UR,e8,bF,aR,aM,aE,aF,tI,EH]
  obtain ⟨r1,r2,r3,r4⟩:=hS m hm
  refine QU k hF (hrow.nodup_iff.mpr nd) (pf.nodup_iff.mpr nd) (aJ hp g1) (aJ (p1.trans hp) ha) r1 ⟨hrow.mem_iff.mpr r2,hrow.mem_iff.mpr r3⟩ ⟨pf.mem_iff.mpr r2,pf.mem_iff.mpr r3⟩ r4 (QV nd P r2 r3 (QX r1) (EdF.pos r1 r4)) _ fun μ3 p3=>?_
  exact ⟨eN,rfl,p3⟩
 ·refine H _ _ (p1.trans p2) p1.length_le ?_
  rw [g2,Zi.mpr fun _ _=>rfl,RU,RU]
  rfl
noncomputable def mL (F:Int×Int->Ly)(r:Int×Int->Int)(S:List ((Int×Int)×Str)):Bool:=S.all fun p=>p.2 == "o" || p.2 == cE F r p.1
theorem QY (k:Nat){w h:Int}{qs:List (Int×Int)}(nd:qs.Nodup)(hl:qs.length<=36){F:Int×Int->Ly}(hF:∀ q,Dih (F q)){row:List (Int×Int)}(hrow:row.Perm qs){S:List ((Int×Int)×Str)}(lS:S.length<=48)(hS:∀ p∈S,CrF qs F p.1)
  {μ:Hm}{a b:Nat}(ha:μ[a]? = some (.dT (aX (fun q=>LD (F q)) row))){Z:Zr}(I:HI μ b Z)(hb:μ[b]? = some (.dT (aN Z)))(P:Pil qs (fun q=>aY (F q) q) (GZ Z))(Q:D×Hm->Prop)
  (H:∀ μ',μ <+: μ'->Q (.bl (mL F (bU (GZ Z)) S),μ')):W (f (k+6) "keeps" [SH w h S,.loc a,.loc b] μ) Q:=by
 rw [O6,W_fin,aP,eM]
 refine OL ?_
 simp only [aR,aM,aT,bC,bF,aE,aF]
 rw [show SH w h S=.tup [.int w,.int h,.tup (S.map MD)] from rfl,EG]
 refine zK (w:=w) (h:=h) k nd hl hF hrow lS hS ha I hb P _ fun c μ1 p1 _ g1=>?_
 refine ⟨c,S.map MD,_,rfl,g1,?_⟩
 rw [Ro,Ro,Ro,a1c]
 generalize hT:(S.map fun p=>(p.1,cE F (bU (GZ Z)) p.1))=T at g1
 have src:∀ μ',μ1 <+: μ'->∀ i,l6 (.tup (S.map MD)) (.loc c) μ' i=some ((S[i]?).map fun p=>.tup [MD p,MD (p.1,cE F (bU (GZ Z)) p.1)]):=fun μ' hp i=>by
  simp only [l6,bJ,aJ hp g1,R6,Sb]
  rw [<- hT,RU,RR,RR]
  cases S[i]?<;>rfl
 refine kY (N:=S.length) (fun i ρ' μ'=>(∃ x y,ρ'=[some (SH w h S),some (.loc a),some (.loc b),x,y])/\μ1 <+: μ'/\mL F (bU (GZ Z)) (S.take i)=true) (fun i ρ' μ' hi hI=>?_) (fun ρ' μ' hI=>⟨?_,?_⟩) S.length 0 _ _ (by omega) ⟨⟨_,_,rfl⟩,Ti _,by rw [V3];rfl⟩
 ·obtain ⟨⟨x,y,rfl⟩,p2,hk⟩:=hI
  have e:S[i]? = some S[i]:=RN hi
  generalize hp:S[i]=p at e
  refine ⟨_,[some (SH w h S),some (.loc a),some (.loc b),some (MD p),some (MD (p.1,cE F (bU (GZ Z)) p.1))],by rw [src μ' p2 i,e];rfl,rfl,?_⟩
  simp only [RA,RB,cY,pQ,cZ,aT,aE,aF,bC,MD,jC,Ot]
  have tk:mL F (bU (GZ Z)) (S.take (i+1))=(p.2 == "o" || p.2 == cE F (bU (GZ Z)) p.1):=by
   unfold mL at hk ⊢
   rw [fS e,List.all_append,hk]
   simp
  cases h1:p.2 == ("o":Str) with
  | true=>
   simp only [To,RE,if_false,cU]
   exact ⟨⟨_,_,rfl⟩,p2,by rw [tk,h1];rfl⟩
  | false=>
   simp only [TV,if_true]
   cases h2:p.2 == cE F (bU (GZ Z)) p.1 with
   | true=>
    simp only [To,RE,if_false,cU]
    exact ⟨⟨_,_,rfl⟩,p2,by rw [tk,h2,Bool.or_true]⟩
   | false=>
    simp only [TV,if_true,w_mRet,bC]
    have:mL F (bU (GZ Z)) S=false:=by
     rw [h1,h2] at tk
     unfold mL at tk ⊢
     rw [ZT]
     intro w
     rw [UG] at w
     have:=List.all_eq_false.mp tk
     obtain ⟨q,hq,hq2⟩:=this
     exact hq2 (w q (Za hq))
    rw [<- this]
    exact H _ (p1.trans p2)
 ·obtain ⟨_,p2,_⟩:=hI
  rw [src μ' p2,Ts (RD _)]
  rfl
 ·obtain ⟨⟨x,y,rfl⟩,p2,hk⟩:=hI
  simp only [w_mRet,bC]
  rw [Tu] at hk
  rw [<- hk]
  exact H _ (p1.trans p2)
theorem EI {μ:Hm}{a:Nat}{xs:List D}{Q:D×Hm->Prop}(h:μ[a]? = some (.lst xs)):W (lP (.loc a) [] μ) Q↔Q (.non,μ.set a (.lst xs.reverse)):=by
 simp only [lP,h]
 exact W_some
theorem EJ (k:Nat)(a:Nat)(ps:List (Int×Int))(v:Int×Int->D)(nd:ps.Nodup)(hl:ps.length<64)(n:Int)(μ:Hm)(ha:μ[a]? = some (.dT (aX v ps)))(Q:D×Hm->Prop)
  (H:∀ ks b μ',ks.Perm ps->μ <+: μ'->μ.length<=b->μ'[b]? = some (.dT (aX v ks))->Q (.loc b,μ')):W (f (k+1) "_law_in_turn" [.loc a,.int n] μ) Q:=by
 rw [Po,W_fin]
 simp only [aP,bI,bF,aR,aM,aE,aF]
 refine (Eh ha hl).mpr ?_
 simp only [RA,RB]
 have p1:=a8 μ (C.lst ((cF ps).map PP))
 have g1:=bP μ (C.lst ((cF ps).map PP))
 generalize μ++[C.lst ((cF ps).map PP)]=μ1 at p1 g1
  -- turned about
 refine bQ (Q:=fun p:Fl×aH×Hm=>p.1=.nx/\p.2.1=[some (.loc a),some (.int n),some (.loc μ.length),none,none]/\μ <+: p.2.2/\∃ ks:List (Int×Int),ks.Perm ps/\p.2.2[μ.length]? = some (.lst (ks.map PP))) ?_ ?_
 ·simp only [cY,cZ,aT,aE,aF,bC]
  refine (dX (by decide)).mpr ?_
  simp only [hW]
  cases n % 3 == 1 with
  | true=>
   simp only [if_true,kW]
   refine mE ?_
   simp only [aE,aF,aM]
   refine ⟨mF g1,(EI g1).mpr ⟨trivial,trivial,cT p1 (RD _) _,(cF ps).reverse,(Vt _).trans (jJ ps),?_⟩⟩
   rw [cC g1,U6]
  | false=>
   simp only [RE,if_false,cU]
   exact ⟨trivial,trivial,p1,cF ps,jJ ps,g1⟩
 rintro ⟨fl,ρ,μ2⟩ ⟨rfl,rfl,p2,ks,hk,g2⟩
 clear g1 p1
 dsimp only at p2 g2 ⊢
 have hkl:=hk.length_eq
  -- every second one first
 refine bQ (Q:=fun p:Fl×aH×Hm=>p.1=.nx/\∃ (l:Nat)(ks':List (Int×Int)),p.2.1=[some (.loc a),some (.int n),some (.loc l),none,none]/\μ <+: p.2.2/\ks'.Perm ps/\p.2.2[l]? = some (.lst (ks'.map PP))) ?_ ?_
 ·simp only [cY,cZ,aT,aE,aF,bC]
  refine (dX (by decide)).mpr ?_
  simp only [hW]
  cases n % 3 == 2 with
  | true=>
   simp only [if_true,bI,aT]
   refine DE ?_
   simp only [aE,aF]
   refine ⟨_,rfl,⟨_,rfl,⟨_,rfl,⟨_,rfl,by simp,_,g2,?_,?_⟩⟩⟩⟩
   ·have:=(tF ks (by omega)).length_eq
    dsimp only
    rw [nY,Ro,Sh]
    rw [RV] at this
    omega
   refine DE ?_
   simp only [aE,aF]
   refine ⟨_,rfl,⟨_,rfl,⟨_,rfl,⟨_,rfl,by simp,_,aJ (a8 _ _) g2,?_,?_⟩⟩⟩⟩
   ·have:=(tF ks (by omega)).length_eq
    dsimp only
    rw [nY,Ro,Sh]
    rw [RV] at this
    omega
   refine (sX (aJ (a8 _ _) (bP _ _)) (bP _ _) ?_).mpr ?_
   ·have:=(tF ks (by omega)).length_eq
    dsimp only
    rw [nY,nY,Ro,Ro,Sh]
    rw [RV] at this
    omega
   refine ⟨trivial,_,cS ks (some 1) none (some 2)++cS ks none none (some 2),rfl,p2.trans (((a8 _ _).trans (a8 _ _)).trans (a8 _ _)),(tF ks (by omega)).trans hk,?_⟩
   rw [Se,<- nY,<- nY]
   exact bP _ _
  | false=>
   simp only [RE,if_false,cU]
   exact ⟨trivial,_,ks,rfl,p2,hk,g2⟩
 rintro ⟨fl,ρ,μ3⟩ ⟨rfl,l,ks',rfl,p3,hk',g3⟩
 dsimp only at p3 g3 ⊢
 have hl':=hk'.length_eq
 simp only [bI,jD,RA,RB,eM,w_iSeq,aE,aF]
 have g4:=aJ (a8 μ3 (C.dT [])) g3
 refine (j8 g4).mpr ?_
 refine P9 (i:=0) (j:=4) (c:=3) (b:=μ3.length) (v:=v) (ps:=ps) (ks:=ks') rfl rfl rfl (by decide) (by decide) (p3.trans (a8 _ _)) p3.length_le (bP _ _) ha g4 nd hk' (by omega) _ fun o μ' h1 h2=>?_
 simp only [RA,RB,w_mRet,aE,aF]
 exact H _ _ _ hk' h1 p3.length_le h2
theorem QZ {qs:List (Int×Int)}{g:Int×Int->Int×Int}{G K:Gr}(nd:qs.Nodup)(P:Pil qs g G)(R:Pil qs g K)(h:∀ p,bR K p=bR G p){q:Int×Int}(hq:q∈qs):bU K q=bU G q:=by
 obtain ⟨x,hx,e1⟩:=RG.mp (P.key.mpr ⟨q,hq,rfl⟩)
 obtain ⟨y,hy,e2⟩:=RG.mp (R.key.mpr ⟨q,hq,rfl⟩)
 have hp:=P.pm x.1
 rw [eH P.kd hx] at hp
 have h1:q∈x.2:=hp.mem_iff.mpr (SR.mpr ⟨hq,decide_eq_true e1.symm⟩)
 obtain ⟨i,hi⟩:=VO h1
 have e:y.2=x.2:=by rw [<- eH P.kd hx,<- eH R.kd hy,e1,e2];exact h _
 rw [qE nd P hx hi,qE nd R hy (by rw [e];exact hi)]
theorem Pil.re {qs:List (Int×Int)}{g:Int×Int->Int×Int}{Z:Zr}(P:Pil qs g (GZ Z)){ks:List (Int×Int)}(hk:ks.Perm (Z.map (·.1))):Pil qs g (GZ (gQ Z ks)):=by
 have kd:(Z.map (·.1)).Nodup:=by rw [<- eE];exact P.kd
 refine ⟨by rw [eE,tH];exact hk.nodup_iff.mpr kd,fun x hx=>?_,fun p=>by rw [Eo kd hk];exact P.pm p⟩
 obtain ⟨z,hz,rfl⟩:=RG.mp hx
 exact P.ne _ (RG.mpr ⟨z,Em kd hk hz,rfl⟩)
theorem HI.re {μ μ':Hm}{a b:Nat}{Z:Zr}(I:HI μ a Z)(p:μ <+: μ'){ks:List (Int×Int)}(hk:ks.Perm (Z.map (·.1)))(hb:μ'[b]? = some (.dT (aX (j9 Z) ks))):HI μ' b (gQ Z ks)/\μ'[b]? = some (.dT (aN (gQ Z ks))):=by
 have g:μ'[b]? = some (.dT (aN (gQ Z ks))):=by rw [Qg I.kd hk];exact hb
 exact ⟨⟨.inl g,by rw [tH];exact hk.nodup_iff.mpr I.kd,fun z hz=>aJ p (I.at_ z (Em I.kd hk hz))⟩,g⟩
theorem Q0 {qs:List (Int×Int)}{F:Int×Int->Ly}{r r':Int×Int->Int}{e:Int×Int}(h:CrF qs F e)(hr:∀ q∈qs,r q=r' q):cE F r e=cE F r' e:=by
 unfold cE
 rw [hr _ h.a,hr _ h.b]
theorem Pil.turn {qs:List (Int×Int)}{g:Int×Int->Int×Int}{G K:Gr}(P:Pil qs g G)(kd:(K.map (·.1)).Nodup)(hk:(K.map (·.1)).Perm (G.map (·.1)))(h:∀ x∈K,x.2.Perm (bR G x.1)):Pil qs g K:=by
 refine ⟨kd,fun x hx e=>?_,fun p=>?_⟩
 ·obtain ⟨y,hy,e1⟩:=RG.mp (hk.mem_iff.mp (RG.mpr ⟨x,hx,rfl⟩))
  have e1:y.1=x.1:=e1
  have h1:=h x hx
  rw [e,<- e1,eH P.kd hy] at h1
  exact P.ne y hy h1.symm.eq_nil
 ·by_cases hp:p∈K.map (·.1)
  ·obtain ⟨x,hx,rfl⟩:=RG.mp hp
   rw [eH kd hx]
   exact (h x hx).trans (P.pm x.1)
  ·rw [jH hp,<- jH (G:=G) (p:=p) fun w=>hp (hk.mem_iff.mpr w)]
   exact P.pm p
theorem EK {n:Int}(h:0<=n/\n<2147483647):(-(2 ^ 64)<n/\n<2 ^ 64)\/(-(2 ^ 64)<n/\n<2 ^ 64):=.inl ⟨by omega,by omega⟩
theorem EL (n c:Int):0<=(n * n+c) % 2147483629/\(n * n+c) % 2147483629<2147483647:=by
 have:=Vk (n * n+c) (show (2147483629:Int)≠0 by decide)
 have:=UQ (n * n+c) (show (0:Int)<2147483629 by decide)
 omega
theorem Q1 (k:Nat){μ:Hm}{h:Nat}{Z:Zr}(I:HI μ h Z)(hh:μ[h]? = some (.dT (aN Z)))(lZ:Z.length<64)(n:Int)(hn:0<=n/\n<2147483647)(Q:D×Hm->Prop)
  (H:∀ b Z' μ',GI μ μ' b Z'->(Z'.map (·.1)).Perm (Z.map (·.1))->(∀ z∈Z',z.2.1.Perm (bR (GZ Z) z.1))->Q (.loc b,μ')):W (f (k+1) "_law_some_turned" [.loc h,.int n] μ) Q:=by
 rw [Pm,W_fin,aP]
 simp only [bI,jD,RA,RB]
 rw [aP]
 simp only [eM,w_iSeq,bF,aR,aM,aE,aF]
 refine (Ej I.kd (aJ (a8 _ _) hh) lZ).mpr ?_
 have hks:=jJ (Z.map (·.1))
 generalize cF (Z.map (·.1))=ks at hks
 have lks:ks.length=Z.length:=by rw [hks.length_eq,Ro]
 refine (j8 (bP _ _)).mpr ?_
 have p0:μ <+: (μ++[C.dT []])++[C.lst (ks.map PP)]:=(a8 _ _).trans (a8 _ _)
 have gl:((μ++[C.dT []])++[C.lst (ks.map PP)])[μ.length+1]? = some (.lst (ks.map PP)):=by
  have:=bP (μ++[C.dT []]) (C.lst (ks.map PP))
  rw [RV] at this
  exact this
 rw [show (μ++[C.dT []]).length=μ.length+1 by simp]
 refine kZ (fun i ρ' μ'=>∃ m x Y,ρ'=[some (.loc h),some (.int m),some (.loc μ.length),x]/\(0<=m/\m<2147483647)/\GI μ μ' μ.length Y/\Y.map (·.1)=ks.take i/\(∀ z∈Y,z.2.1.Perm (bR (GZ Z) z.1))/\(∀ z∈Y,z.2.2≠μ.length+1)/\μ'[μ.length+1]? = some (.lst (ks.map PP)))
  ⟨n,none,[],rfl,hn,⟨p0,RD _,aJ (a8 _ _) (bP _ _),V4,V4,fun z hz=>nomatch hz⟩,by rw [V3];rfl,(fun z hz=>nomatch hz),(fun z hz=>nomatch hz),gl⟩ (fun _ _ _ ⟨_,_,_,_,_,_,_,_,_,g⟩=>g) ?_ ?_
 ·rintro i d ρ' μ' hd ⟨m,x,Y,rfl,hm,J,ek,hp,hne,g1⟩
  obtain ⟨p,he,rfl⟩:=nV hd
  refine ⟨_,rfl,?_⟩
  simp only [RA,RB]
  rw [aP]
  simp only [bI,aT,aE,aF,bC]
  refine (jB (EK hm)).mpr ?_
  rw [gP,dX (by decide)]
  have hm2:=EL m 17
  generalize (m * m+17) % 2147483629=m2 at hm2
  simp only [RA,RB]
  rw [aP]
  simp only [iA,bF,aR,aM,aT,aE,aF]
  obtain ⟨z,hz,rfl⟩:=nW (hks.mem_iff.mp (Sf he))
  refine (eP (.inl (aJ J.pre hh)) (cH z.1) (k6 I.kd hz)).mpr ((ON (aJ J.pre (I.at_ z hz))).mpr ?_)
  have hYl:Y.length<=63:=by
   have:=congrArg Ss ek
   rw [Ro,SJ] at this
   omega
  have J1:=J.more (a8 μ' (C.lst (z.2.1.map PP)))
  have ndk:ks.Nodup:=hks.nodup_iff.mpr I.kd
  have hnk:z.1∉Y.map (·.1):=by rw [ek];exact k7 ndk he
  refine (iM J1.dic (cH z.1) (by rw [jF,Sh];omega)).mpr ?_
  have big:μ.length+1<μ'.length:=(Rw.mp g1).1
  have J2:=J1.new hnk (qs:=z.2.1) (b:=μ'.length) (bP _ _) J.pre.length_le (fun y hy=>RT (Rw.mp (J.at_ y hy).2).1)
  have hzt:(z.1,z.2.1,μ'.length)∈Y++[(z.1,z.2.1,μ'.length)]:=S8.mpr (.inr (Sk.mpr rfl))
  have ek2:(Y++[(z.1,z.2.1,μ'.length)]).map (·.1)=ks.take (i+1):=by
   rw [Se,ek,fS he]
   rfl
  have pz:=qA I.kd hz
  have hp2:∀ y∈Y++[(z.1,z.2.1,μ'.length)],y.2.1.Perm (bR (GZ Z) y.1):=fun y hy=>by
   rcases S8.mp hy with hy|hy
   ·exact hp y hy
   ·rw [Sk.mp hy]
    show z.2.1.Perm (bR (GZ Z) z.1)
    rw [pz]
  have hne2:∀ y∈Y++[(z.1,z.2.1,μ'.length)],y.2.2≠μ.length+1:=fun y hy=>by
   rcases S8.mp hy with hy|hy
   ·exact hne y hy
   ·rw [Sk.mp hy]
    show μ'.length≠_
    omega
  have g2:((μ'++[C.lst (z.2.1.map PP)]).set μ.length (.dT (dC (aN Y) (aU z.1) (.loc μ'.length))))[μ.length+1]? = some (.lst (ks.map PP)):=by
   rw [Rz (by omega)]
   exact aJ (a8 _ _) g1
  simp only [cY,cZ,aT,aE,aF,bC]
  refine (j6 (by decide) (by decide)).mpr ?_
  rw [dX (by decide),hW]
  cases m2 / 8 % 3 == 1 with
  | false=>
   simp only [RE,if_false,cU]
   exact ⟨m2,_,_,rfl,hm2,J2,ek2,hp2,hne2,g2⟩
  | true=>
   simp only [if_true,kW]
   refine mE ?_
   simp only [aT,aE,aF,aM]
   refine (eP (.inl J2.dic) (cH z.1) (k6 (z:=(z.1,z.2.1,μ'.length)) J2.kd hzt)).mpr ⟨mF (J2.at_ _ hzt).2,(EI (J2.at_ _ hzt).2).mpr ?_⟩
   have J3:=J2.mut hzt z.2.1.reverse
   rw [U6] at J3
   refine ⟨m2,_,_,rfl,hm2,J3,?_,fun y hy=>?_,fun y hy=>?_,?_⟩
   ·rw [<- ek2,RU]
    refine Sg fun y _=>?_
    show (if y.1=z.1 then (y.1,z.2.1.reverse,y.2.2) else y).1=y.1
    split<;>rfl
   ·obtain ⟨y',hy',rfl⟩:=RG.mp hy
    split
    ·rename_i e
     have e':y'.1=z.1:=e
     show z.2.1.reverse.Perm (bR (GZ Z) y'.1)
     rw [e',pz]
     exact Vt _
    ·exact hp2 y' hy'
   ·obtain ⟨y',hy',rfl⟩:=RG.mp hy
    split
    ·exact hne2 y' hy'
    ·exact hne2 y' hy'
   ·rw [Rz (by show μ'.length≠_;omega)]
    exact g2
 ·rintro ρ' μ' ⟨m,x,Y,rfl,hm,J,ek,hp,hne,g1⟩
  simp only [w_mRet,aE,aF]
  refine H _ Y _ J ?_ hp
  rw [ek,Ro,Tu]
  exact hks
theorem Q2 {μ:Hm}{A B:Nat}{ds:List D}{Q:D×Hm->Prop}(hA:μ[A]? = some (.lst ds))(hB:μ[B]? = some (.lst [])):W (aW true (.loc A) (.loc B) μ) Q↔Q (.bl (!ds.isEmpty),μ):=by
 have kd:∀ {x:Nat}{xs:List D},μ[x]? = some (.lst xs)->dB μ (.loc x)=some (.lst xs):=fun h=>by simp only [dB,h]
 have e:bZ 8 μ (.loc A) (.loc B)=some ds.isEmpty:=by
  show (dB μ (.loc A)).bind (fun u=>(dB μ (.loc B)).bind fun v=>gX (bZ 7 μ) u v)=_
  rw [kd hA,kd hB]
  show fH (bZ 7 μ) ds []=_
  cases ds<;>rfl
 unfold aW
 rw [e]
 exact W_some
theorem tJ {n i:Nat}(h:i<n):fV n (i:Int)=some i:=by
 unfold fV
 rw [if_pos (by omega),if_pos (by omega)]
 rfl
noncomputable def jK (s:Str):Prop:=s = "o"\/s = "v"\/s = "h"
theorem Q3 (k:Nat){μ:Hm}{a:Nat}{T:List ((Int×Int)×Str)}(lT:T.length<=48)(hT:∀ p∈T,jK p.2)(ha:μ[a]? = some (.lst (T.map MD)))(n:Int)(hn:0<=n/\n<2147483647)(Q:D×Hm->Prop)
  (H:∀ c (S:List ((Int×Int)×Str)) μ',μ <+: μ'->μ.length<=c->μ'[c]? = some (.lst (S.map MD))->S.map (·.1)=T.map (·.1)->(∀ p∈S,jK p.2)->Q (.loc c,μ')):W (f (k+1) "_law_handed" [.loc a,.int n] μ) Q:=by
 rw [Pn,W_fin,aP]
 simp only [bI,gO,aM,RA,RB]
 refine ⟨SF _,?_⟩
 rw [aP]
 simp only [bI,aT,aE,aF,bC]
 rw [dX (by decide),gP]
 generalize 1+n % 9=sh
 simp only [RA,RB]
 rw [aP]
 simp only [eM,w_iSeq,aE,aF]
 refine (j8 (aJ (a8 _ _) ha)).mpr ?_
 refine kZ (fun i ρ' μ'=>∃ m x y z,∃ S:List ((Int×Int)×Str),ρ'=[some (.loc a),some (.int m),some (.loc μ.length),some (.int sh),x,y,z,none]/\(0<=m/\m<2147483647)/\μ <+: μ'/\μ'[μ.length]? = some (.lst (S.map MD))/\S.map (·.1)=(T.take i).map (·.1)/\∀ p∈S,jK p.2)
  ⟨n,none,none,none,[],rfl,hn,a8 _ _,bP _ _,by rw [V3],fun p hp=>nomatch hp⟩ (fun _ _ _ ⟨_,_,_,_,_,_,_,p,_⟩=>aJ p ha) ?_ ?_
 ·rintro i d ρ' μ' hd ⟨m,x,y,z,S,rfl,hm,p1,g1,e1,ok⟩
  obtain ⟨p,hp,rfl⟩:=EE hd
  refine ⟨_,rfl,?_⟩
  have lS:S.length<=48:=by
   have:=congrArg Ss e1
   rw [Ro,Ro,SJ] at this
   omega
  show W (aG _ _ [some (.loc a),some (.int m),some (.loc μ.length),some (.int sh),some (PP p.1),some (.str p.2),z,none] μ') _
  rw [aP]
  simp only [bI,aT,aE,aF,bC]
  refine (jB (EK hm)).mpr ?_
  rw [gP,dX (by decide)]
  have hm2:=EL m 29
  generalize (m * m+29) % 2147483629=m2 at hm2
  simp only [RA,RB]
  rw [aP]
  simp only [bI,aE,aF,RA,RB]
  rw [aP]
  have fin':∀ s:Str,jK s->W (eV (d9 fN (aA 2) (aC (bV (aC (aA 4) (aC (aA 6) aD))) aD)) [some (.loc a),some (.int m2),some (.loc μ.length),some (.int sh),some (PP p.1),some (.str p.2),some (.str s),none] μ') fun q=>match q.1 with
    | .nx=>∃ m x y z,∃ S:List ((Int×Int)×Str),q.2.1=[some (.loc a),some (.int m),some (.loc μ.length),some (.int sh),x,y,z,none]/\(0<=m/\m<2147483647)/\μ <+: q.2.2/\q.2.2[μ.length]? = some (.lst (S.map MD))/\S.map (·.1)=(T.take (i+1)).map (·.1)/\∀ p∈S,jK p.2
    | _=>False:=fun s hs=>by
   simp only [kW]
   refine mE ?_
   simp only [aE,aF,aR,aM,e8]
   refine ⟨mF g1,⟨eN,(pU g1 (by rw [Ro,Sh];omega)).mpr ?_⟩⟩
   refine ⟨m2,_,_,_,S++[(p.1,s)],rfl,hm2,cT p1 (RD _) _,?_,?_,fun r hr=>?_⟩
   ·rw [cC g1,Se]
    rfl
   ·rw [Se,e1,fS hp,Se]
    rfl
   ·rcases S8.mp hr with hr|hr
    ·exact ok r hr
    ·rw [Sk.mp hr]
     exact hs
  simp only [cY,cZ,aT,aE,aF,bC]
  refine (j6 (by decide) (by decide)).mpr ?_
  rw [dX (by decide),pS]
  cases decide (m2 / 8 % 10<sh) with
  | true=>
   simp only [if_true,bI,bC,RA,RB]
   refine bQ (fin' "o" (.inl rfl)) fun q hq=>?_
   obtain ⟨fl,ρ2,μ2⟩:=q
   cases fl<;>first|exact hq|exact hq.elim
  | false=>
   simp only [RE,if_false,cU]
   refine bQ (fin' p.2 (hT p (Sf hp))) fun q hq=>?_
   obtain ⟨fl,ρ2,μ2⟩:=q
   cases fl<;>first|exact hq|exact hq.elim
 ·rintro ρ' μ' ⟨m,x,y,z,S,rfl,hm,p1,g1,e1,ok⟩
  rw [Ro,Tu] at e1
  have lS:S.length=T.length:=by
   have:=congrArg Ss e1
   rw [Ro,Ro] at this
   exact this
  have ha':=aJ p1 ha
  rw [aP]
  simp only [bI,aT,bF,aR,aM,aE,aF,bC]
  refine (j6 (by decide) (by decide)).mpr ((yM g1).mpr ?_)
  rw [OG,Ro,dX (by omega)]
  simp only [RA,RB]
  rw [aP]
  have done:∀ (ν:Hm)(S':List ((Int×Int)×Str))(w7:Option D),μ <+: ν->ν[μ.length]? = some (.lst (S'.map MD))->S'.map (·.1)=T.map (·.1)->(∀ p∈S',jK p.2)->W (bE (aA 2) [some (.loc a),some (.int m),some (.loc μ.length),some (.int sh),x,y,z,w7] ν) fun p=>match p.1 with|.rt d=>Q (d,p.2.2)|.nx=>Q (.non,p.2.2)|_=>False:=fun ν S' w7 hν g e o=>by
   simp only [w_mRet,aE,aF]
   exact H _ S' _ hν (RD _) g e o
  simp only [cY,pQ,cZ,aT,aE,aF,bC]
  refine (j6 (by decide) (by decide)).mpr ?_
  rw [dX (by decide),hW]
  cases m / 4096 % 2 == 1 with
  | false=>
   simp only [RE,if_false,cU]
   exact done _ S _ p1 g1 e1 ok
  | true=>
   simp only [if_true,gO,aM]
   refine ⟨SF _,(Q2 (aJ (a8 _ _) g1) (bP _ _)).mpr ?_⟩
   have g2:=aJ (a8 μ' (C.lst [])) g1
   have ha2:=aJ (a8 μ' (C.lst [])) ha'
   have p2:=p1.trans (a8 μ' (C.lst []))
   generalize μ'++[C.lst []]=μ2 at g2 ha2 p2
   cases hS:(S.map MD).isEmpty with
   | true=>
    simp only [To,RE,if_false,cU]
    exact done _ S _ p2 g2 e1 ok
   | false=>
    simp only [TV,if_true]
    have h0:0<S.length:=by
     cases S with
     | nil=>cases hS
     | cons=>simp
    have hj:=Vk (m / 16) (show (max 1 (S.length:Int))≠0 by omega)
    have hj2:=UQ (m / 16) (show 0<(max 1 (S.length:Int)) by omega)
    obtain ⟨j,ej⟩:=Int.eq_ofNat_of_zero_le hj
    rw [ej] at hj2 ⊢
    have hjl:j<S.length:=by omega
    have hjT:j<T.length:=by omega
    have eT:T[j]? = some T[j]:=RN hjT
    generalize T[j]=t at eT
    have ai:atI (T.map MD) (j:Int)=some (MD t):=by
     unfold atI
     rw [Ro,tJ hjT]
     simp [eT]
    simp only [iA,e8,aR,aM,pP,cZ,aT,aE,aF,bC]
    refine (hZ ha2 ai).mpr ?_
    rw [nT]
    refine (hZ ha2 ai).mpr ?_
    rw [jC,Oq]
    have fin2:∀ s:Str,jK s->W (jZ (.loc μ.length) (.int (j:Int)) (.tup [PP t.1,.str s]) μ2) fun ν=>W (bE (aA 2) [some (.loc a),some (.int m),some (.loc μ.length),some (.int sh),x,y,z,some (.int (j:Int))] ν) fun p=>match p.1 with|.rt d=>Q (d,p.2.2)|.nx=>Q (.non,p.2.2)|_=>False:=fun s hs=>by
     refine (OK g2 (by rw [Ro];exact tJ hjl)).mpr ?_
     refine done _ (S.set j (t.1,s)) _ (cT p2 (RD _) _) ?_ ?_ fun r hr=>?_
     ·rw [cC g2,a0Q]
     ·rw [a0Q,e1]
      refine Vv fun i=>?_
      by_cases e:j=i
      ·subst e
       rw [SA (by rw [Ro];exact hjT),RR,eT]
       rfl
      ·rw [Rz e]
     ·rcases List.mem_or_eq_of_mem_set hr with hr|hr
      ·exact ok r hr
      ·rw [hr]
       exact hs
    cases t.2 == ("v":Str) with
    | true=>
     simp only [if_true]
     exact ⟨eN,fin2 _ (.inr (.inr rfl))⟩
    | false=>
     simp only [RE,if_false]
     exact ⟨eN,fin2 _ (.inr (.inl rfl))⟩
theorem EM (k:Nat)(i:Int)(μ:Hm)(Q:D×Hm->Prop):W (f (k+1) "is_whole" [.int i] μ) Q↔Q (.bl true,μ):=by
 rw [OO,W_fin]
 simp only [w_mRet,kX,Ol,bF,aR,aM,aE,bC,OC,OB,if_true,TV]
theorem EO (k:Nat){i:Int}(h:1<=i/\i<=6)(μ:Hm)(Q:D×Hm->Prop)(H:Q (.bl true,μ)):W (f (k+2) "is_size" [.int i] μ) Q:=by
 rw [OU,W_fin]
 simp only [w_mRet,kX,bF,aR,aM,aE,bC,EM,if_true,DD,Ou,decide_eq_true h.1,decide_eq_true h.2]
 exact H
theorem Q4 (k:Nat){w h:Int}(hw:1<=w/\w<=6)(hh:1<=h/\h<=6)(μ:Hm)(Q:D×Hm->Prop)(H:Q (.non,μ)):W (f (k+3) "check_size" [.int w,.int h] μ) Q:=by
 rw [OV,W_fin]
 simp only [cY,mB,pQ,iL,bF,aR,aM,aE,aF]
 refine EO k hw _ _ ?_
 simp only [hX,if_true]
 refine EO k hh _ _ ?_
 simp only [hX,To,RE,if_false,cU]
 exact H
theorem Q5 (k:Nat){s:Str}(h:jK s)(μ:Hm)(Q:D×Hm->Prop)(H:Q (.bl true,μ)):W (f (k+1) "is_mark" [.str s] μ) Q:=by
 rw [OW,W_fin]
 simp only [w_mRet,kX,bF,aR,aM,aE,bC,OE,if_true,aT]
 have e:cX false (.str s) yO μ=some (.bl true,μ):=by
  rcases h with rfl|rfl|rfl<;>rfl
 rw [e,W_some]
 exact H
theorem Q6 (k:Nat){w h:Int}{e:Int×Int}(he:eI e.1 e.2=true)(h1:0<e.1/\e.1<4 * w)(h2:0<e.2/\e.2<4 * h)(μ:Hm)(Q:D×Hm->Prop)(H:Q (.bl true,μ)):W (f (k+3) "is_inner_edge" [.int w,.int h,PP e] μ) Q:=by
 rw [OY,W_fin]
 simp only [w_mRet,kX,bF,aR,aM,aE,aF]
 rw [OP,W_fin]
 simp only [w_mRet,kX,bF,aR,aM,aE,aF,bC,aT,DB,if_true]
 rw [show fP [PP e] μ=some (.int 2,μ) from rfl,W_some]
 simp only [hW,beq_self_eq_true,if_true,PP,P,nT,jC,EM]
 rw [OX,W_fin]
 simp only [w_mRet,kX,DD,aE,aF,bC,aT,nT,jC,pV,pS,decide_eq_true h1.1,decide_eq_true h1.2,decide_eq_true h2.1,decide_eq_true h2.2,if_true]
 rw [OQ,W_fin]
 simp only [aP,w_mRet,cY,cU,kX,cZ,aE,aF,bC,aT,nT,jC,pW,nU,hW,yH]
 have:=qC he
 cases e1:e.1 % 2 == 1 with
 | true=>
  simp only [if_true]
  have e2:(e.2 % 2 == 1)=true:=by
   simp only [beq_iff_eq] at e1 ⊢
   omega
  rw [e2]
  exact H
 | false=>
  simp only [RE,if_false]
  have e1':¬ e.1 % 2=1:=by simpa using e1
  have e2:(e.2 % 2 == 0)=true:=by
   simp only [beq_iff_eq]
   omega
  have e3:(e.1 % 4 == e.2 % 4)=false:=by
   simp only [beq_eq_false_iff_ne]
   omega
  simp only [e2,e3,if_true,TV]
  exact H
theorem Q7:∀ w∈[(1:Int),2,3],∀ h∈[(1:Int),2,3],∀ e∈dQ w h,(0<e.1/\e.1<4 * w)/\0<e.2/\e.2<4 * h:=by decide +kernel
noncomputable def n3 (S:List ((Int×Int)×Str))(e:Int×Int):D:=match S.find? (fun p=>decide (p.1=e)) with|some p=>.str p.2|none=>.non
theorem zL:∀ {S:List ((Int×Int)×Str)},(S.map (·.1)).Nodup->∀ {p:(Int×Int)×Str},p∈S->n3 S p.1=.str p.2
 | [],_,_,h=>nomatch h
 | x::S,nd,p,h=>by
  rw [RM,Sv] at nd
  unfold n3
  rw [SK]
  rcases Sa.mp h with rfl|h
  ·rw [decide_eq_true rfl]
  ·have e:decide (x.1=p.1)=false:=decide_eq_false fun e=>nd.1 (by rw [e];exact RG.mpr ⟨p,h,rfl⟩)
   rw [e]
   exact zL nd.2 h
theorem Q8 (k:Nat){w h:Int}(hw:1<=w/\w<=3)(hh:1<=h/\h<=3){S:List ((Int×Int)×Str)}(lS:S.length<=48)(hs:((S.map (·.1)).map aU).Pairwise fun x y=>HT.lexLt x y=true)(hR:∀ p∈S,p.1∈dQ w h)(ok:∀ p∈S,jK p.2)
  {μ:Hm}{a:Nat}(ha:μ[a]? = some (.lst (S.map MD).reverse))(Q:D×Hm->Prop)(H:∀ μ',μ <+: μ'->Q (SH w h S,μ')):W (f (k+4) "sheet_of" [.int w,.int h,.loc a] μ) Q:=by
 have nd:(S.map (·.1)).Nodup:=by
  have:((S.map (·.1)).map aU).Nodup:=hs.imp fun {x y} h1 e=>by rw [e,lR] at h1;cases h1
  exact a1e aU (fun a b h1 e=>h1 (by rw [e])) this
 rw [<- U6] at ha
 have ndR:(S.reverse.map (·.1)).Nodup:=by rw [U6];exact (Vt _).nodup_iff.mpr nd
 rw [OZ,W_fin,aP]
 simp only [kW,bF,aR,aM,aE,aF]
 refine Q4 k (by omega) (by omega) _ _ ?_
 rw [aP]
 simp only [bI,jD,RA,RB]
 rw [aP]
 simp only [eM,w_iSeq,aE,aF]
 refine (j8 (aJ (a8 _ _) ha)).mpr ?_
 refine kZ (fun i ρ' μ'=>∃ x y,ρ'=[some (.int w),some (.int h),some (.loc a),some (.loc μ.length),x,y]/\μ <+: μ'/\μ'[μ.length]? = some (.dT (aX (n3 S) ((S.reverse.take i).map (·.1)))))
  ⟨none,none,rfl,a8 _ _,by rw [V3];exact bP _ _⟩ (fun _ _ _ ⟨_,_,_,p,_⟩=>aJ p ha) ?_ ?_
 ·rintro i d ρ' μ' hd ⟨x,y,rfl,p1,g1⟩
  obtain ⟨p,hp,rfl⟩:=EE hd
  refine ⟨_,rfl,?_⟩
  have hpS:p∈S:=List.mem_reverse.mp (Sf hp)
  have hpR:=hR p hpS
  obtain ⟨b1,b2⟩:=Q7 _ (fR hw) _ (fR hh) p.1 hpR
  have r1:=((qD _ (fR hw) _ (fR hh)).2.2 p.1 hpR).1
  simp only [RA,RB]
  rw [aP]
  simp only [bI,aT,aE,aF,bC,MD,nT,RA,RB]
  rw [aP]
  simp only [cY,mB,iL,bF,aR,aM,aE,aF]
  refine Q6 k r1 b1 b2 _ _ ?_
  simp only [hX,To,RE,if_false,cU]
  rw [aP]
  simp only [cY,mB,iL,bF,aR,aM,aT,aE,aF,bC,jC]
  refine Q5 (k+2) (ok p hpS) _ _ ?_
  simp only [hX,To,RE,if_false,cU]
  rw [aP]
  have hnk:p.1∉(S.reverse.take i).map (·.1):=by
   rw [Yv]
   exact k7 ndR (by rw [RR,hp];rfl)
  simp only [cY,cZ,aT,aE,aF]
  refine (OM g1 (cH p.1)).mpr ?_
  rw [y9 hnk]
  simp only [Y9,RE,if_false,cU,iA,aT,aE,aF,bC,jC]
  have ll:(aX (n3 S) ((S.reverse.take i).map (·.1))).length<RL:=by
   rw [Ro,Ro,SJ,UD,Sh]
   omega
  refine (iM g1 (cH p.1) ll).mpr ⟨_,_,rfl,cT p1 (RD _) _,?_⟩
  rw [cC g1,<- zL nd hpS,tG hnk,fS hp,Se]
  rfl
 ·rintro ρ' μ' ⟨x,y,rfl,p1,g1⟩
  rw [Ro,Tu] at g1
  simp only [w_mRet,e8,aR,aM,aE,aF]
  have e:r6 (.loc μ.length) μ'=some (.tup (S.map MD),μ'):=by
   have e1:cF (S.reverse.map (·.1))=S.map (·.1):=by
    have:(S.reverse.map (·.1)).Perm (S.map (·.1)):=by rw [U6];exact Vt _
    rw [srt_eq.mpr this]
    exact Qb (hs.imp fun h1=>P7 h1)
   simp only [r6,g1]
   rw [if_pos (by rw [Ro,Ro,UD];omega),Eg,e1]
   unfold aX
   rw [RU,RU]
   have:S.map ((r0 ∘ fun q=>(aU q,n3 S q)) ∘ fun x=>x.1)=S.map MD:=Sg fun p hp=>by
    show D.tup [.tup ((aU p.1).map D.int),n3 S p.1]=MD p
    rw [zL nd hp]
    rfl
   rw [this]
  unfold o7
  simp only [W_bind,aE,aF]
  rw [e,W_some]
  exact ⟨by show (3:Nat)<=RL;decide,H _ p1⟩
theorem Q9 (μ:Hm)(p:(Int×Int)×Str):bZ 7 μ (MD p) (MD p)=some true:=by
 obtain ⟨⟨x,y⟩,s⟩:=p
 have e:bZ 7 μ (MD ((x,y),s)) (MD ((x,y),s))=some ((x == x&&(y == y&&true))&&((s == s)&&true)):=by
  kernel_rfl
 rw [e]
 simp
theorem ER (μ:Hm):∀ T:List ((Int×Int)×Str),fH (bZ 7 μ) (T.map MD) (T.map MD)=some true
 | []=>rfl
 | p::T=>by
  show (bZ 7 μ (MD p) (MD p)).bind (fun b=>(fH (bZ 7 μ) (T.map MD) (T.map MD)).map fun c=>b&&c)=_
  rw [Q9,ER μ T]
  rfl
theorem Ra {μ:Hm}{a b:Nat}{T:List ((Int×Int)×Str)}{Q:D×Hm->Prop}(ha:μ[a]? = some (.lst (T.map MD)))(hb:μ[b]? = some (.lst (T.map MD))):W (aW true (.loc a) (.loc b) μ) Q↔Q (.bl false,μ):=by
 have kd:∀ {x:Nat}{xs:List D},μ[x]? = some (.lst xs)->dB μ (.loc x)=some (.lst xs):=fun h=>by simp only [dB,h]
 have e:bZ 8 μ (.loc a) (.loc b)=some true:=by
  show (dB μ (.loc a)).bind (fun u=>(dB μ (.loc b)).bind fun v=>gX (bZ 7 μ) u v)=_
  rw [kd ha,kd hb]
  exact ER μ T
 unfold aW
 rw [e]
 exact W_some
theorem ES (k:Nat){μ:Hm}{a b:Nat}{T:List ((Int×Int)×Str)}(lT:T.length<=48)(ha:μ[a]? = some (.lst (T.map MD)))(hb:μ[b]? = some (.lst (T.map MD)))(Q:D×Hm->Prop)(H:∀ μ',μ <+: μ'->Q (.bl true,μ')):W (f (k+1) "_law_told" [.loc a,.loc b] μ) Q:=by
 rw [Pp,W_fin,aP]
 simp only [cY,pR,mB,iL,cZ,bF,aR,aM,aE,aF,bC,aT]
 refine (OF ha).mpr ?_
 simp only [hX,To,RE,if_false]
 refine (Ra ha hb).mpr ?_
 simp only [RE,if_false,cU,w_mRet,aT]
 refine sW (xs:=T.map MD) (p:=fun _=>false) (v:=fun d=>d) ?_
 simp only [w_iSeq,aE,aF]
 refine (j8 ha).mpr ⟨Dy ha,rfl,by rw [Ro,Sh];omega,fun d μ' hd hp=>?_,(fun d μ' hd h _=>by cases h),fun μ' hp hg=>?_⟩
 ·obtain ⟨p,_,rfl⟩:=RG.mp hd
  simp only [Tj,UR,mB,iL,bF,aR,aM,aE,aF,bC,DB,hX]
  exact ⟨rfl,Ti _⟩
 ·simp only [gO,aM]
  refine ⟨SF _,(D3 (aJ (a8 _ _) hg) (bP _ _)).mpr ?_⟩
  have e:(((T.map MD).filter fun _=>false).map fun d=>d).isEmpty=true:=by
   rw [Uh.mpr fun _ _ h=>by cases h]
   rfl
  rw [e]
  exact H _ (hp.trans (a8 _ _))
theorem Rb {s a b:Str}{μ:Hm}{Q:D×Hm->Prop}:W (cX true (.str s) (.tup [.str a,.str b]) μ) Q↔Q (.bl (!((a == s)||((b == s)||false))),μ):=W_some
noncomputable def pG (S T:List ((Int×Int)×Str)):D->Bool
 | .int i=>match S[i.toNat]?,T[i.toNat]? with
  | some s,some t=>!(("o" == s.2)||((t.2 == s.2)||false))
  | _,_=>false
 | _=>false
theorem Rc {S:List ((Int×Int)×Str)}{g:Int×Int->Str}{v:D->D}:(((j7 0 S.length).filter (pG S (S.map fun p=>(p.1,g p.1)))).map v).isEmpty=S.all fun p=>p.2 == "o" || p.2 == g p.1:=by
 rw [a0n,List.isEmpty_iff,Vc,Uh,UG]
 have one:∀ (i:Nat)(p:(Int×Int)×Str),S[i]? = some p->(¬ pG S (S.map fun p=>(p.1,g p.1)) (.int (0+(i:Int)))=true↔(p.2 == "o" || p.2 == g p.1)=true):=fun i p hp=>by
  have e:(0+(i:Int)).toNat=i:=by omega
  unfold pG
  dsimp only
  rw [e,RR,hp]
  dsimp only [Sb]
  rw [BEq.comm (a:=("o":Str)),BEq.comm (a:=g p.1),Xa]
  cases (p.2 == ("o":Str))<;>cases (p.2 == g p.1)<;>simp
 constructor
 ·intro h p hp
  obtain ⟨i,hi⟩:=VO hp
  refine (one i p hi).mp (h _ ?_)
  have:i<S.length:=(Rw.mp hi).1
  unfold j7
  exact RG.mpr ⟨i,S9.mpr this,rfl⟩
 ·intro h d hd
  unfold j7 at hd
  obtain ⟨i,hi,rfl⟩:=RG.mp hd
  have hi:=S9.mp hi
  have e:S[i]? = some S[i]:=RN hi
  exact (one i _ e).mpr (h _ (VF hi))
theorem ET {z:Int}{μ:Hm}{Q:D×Hm->Prop}:W (bH (.int z) (.int 3) μ) Q↔Q (.int (z % 3),μ):=dX (by decide)
theorem Rf {z:Int}{μ:Hm}{Q:D×Hm->Prop}:W (d8 (.int z) (.int 3) μ) Q↔Q (.int (z / 3),μ):=j6 (by decide) (by decide)
theorem Rg {x0 x1 x2 x3 x4 x5 x8 x9 x10 x11 x12:Option D}{μ:Hm}{c6 c7:Nat}{S:List ((Int×Int)×Str)}{g:Int×Int->Str}(lS:S.length<=48)(h7:μ[c7]? = some (.lst (S.map MD)))(h6:μ[c6]? = some (.lst ((S.map fun p=>(p.1,g p.1)).map MD)))(Q:D×Hm->Prop)
  (H:∀ μ',μ <+: μ'->Q (.bl (S.all fun p=>p.2 == "o" || p.2 == g p.1),μ')) :
  W (aB (aW false) (kD (lM (aC (aK fP (aC (aA 6) aD)) aD)) (bD (aB (cX true) (aB aL (aB aL (aA 7) (aA 13)) (mC (.int 1))) (bV (aC (mC (.str "o")) (aC (aB aL (aB aL (aA 6) (aA 13)) (mC (.int 1))) aD))))) (aA 13)) (cK aD) [x0,x1,x2,x3,x4,x5,some (.loc c6),some (.loc c7),x8,x9,x10,x11,x12] μ) Q:=by
 rw [aT]
 refine sW (xs:=j7 0 S.length) (p:=pG S (S.map fun p=>(p.1,g p.1))) (v:=fun d=>d) ?_
 simp only [Dx (j:=0),aR,aM,bF,aE,aF]
 refine (yM h6).mpr ?_
 rw [Ro,Ro]
 refine ⟨by omega,OA,by rw [Uw];unfold j7;rw [Ro,Vu],by unfold j7;rw [Ro,Vu,Sh];omega,fun d μ' hd hp=>?_,fun d μ' hd _ hp=>?_,fun μ' hp hg=>?_⟩
 ·unfold j7 at hd
  obtain ⟨i,hi,rfl⟩:=RG.mp hd
  have hi:=S9.mp hi
  have e:S[i]? = some S[i]:=RN hi
  generalize S[i]=p at e
  have a7:atI (S.map MD) (0+(i:Int))=some (MD p):=by
   unfold atI
   rw [Y1,Ro,tJ hi]
   simp [e]
  have a6:atI ((S.map fun p=>(p.1,g p.1)).map MD) (0+(i:Int))=some (MD (p.1,g p.1)):=by
   unfold atI
   rw [Y1,Ro,Ro,tJ hi]
   simp [e]
  simp only [Tj,UR,cZ,aT,e8,aR,aM,aE,aF,bC]
  refine (hZ (aJ hp h7) a7).mpr ?_
  rw [jC]
  refine (hZ (aJ hp h6) a6).mpr ?_
  rw [jC]
  refine ⟨eN,?_⟩
  rw [Rb]
  refine ⟨?_,Ti _⟩
  unfold pG
  dsimp only
  rw [show (0+(i:Int)).toNat=i by omega,RR,e]
  rfl
 ·simp only [Tj,UR,aE,aF]
  exact ⟨trivial,Ti _⟩
 ·simp only [gO,aM]
  refine ⟨SF _,(D3 (aJ (a8 _ _) hg) (bP _ _)).mpr ?_⟩
  rw [Rc]
  exact H _ (hp.trans (a8 _ _))
theorem Rh (F:Int×Int->Ly)(r:Int×Int->Int)(e:Int×Int):jK (cE F r e):=by
 unfold cE
 split
 ·exact .inr (.inl rfl)
 ·exact .inr (.inr rfl)
theorem Ri (k:Nat)(ns:List Int)(μ:Hm):W (f (k+7) "law" [.rol (ns.map D.int)] μ) fun r=>r.1=.bl true:=by
 rw [Pq,W_fin,aP]
 simp only [bI,bF,aR,aM,aE,bC]
 refine nX (k+4) ns 0 (by decide) _ _ fun v μ1 v0 v1 p1=>?_
 simp only [RA,RB]
 rw [aP]
 simp only [bI,aT,aE,aF,bC,ET,gP,RA,RB]
 rw [aP]
 simp only [bI,aT,aE,aF,bC,Rf,ET,gP,RA,RB]
 have hw:1<=1+v % 3/\1+v % 3<=3:=by omega
 have hh:1<=1+v / 3 % 3/\1+v / 3 % 3<=3:=by omega
 have hm5:0<=v / 9 % 5/\v / 9 % 5<=10:=by omega
 generalize 1+v % 3=w at hw
 generalize 1+v / 3 % 3=h at hh
 obtain ⟨f1,f2,f3⟩:=P5 _ (fR hw) _ (fR hh)
 obtain ⟨f4,f5,f6⟩:=qD _ (fR hw) _ (fR hh)
 have up:=yZ f3
 have nd:(cO w h).Nodup:=by
  rw [Xj] at up
  exact up.imp fun {x y} h e=>by
   rw [e,lR] at h
   exact RO h
 rw [aP]
 simp only [mD,bF,aR,aM,aT,aE,aF,bC]
 refine w_div9.mpr (w_mod5.mpr ?_)
 refine Qq JE Qu Qv (k+3) ns _ _ hw hh 2 (v / 9 % 5) (by decide) hm5 nd f1 f2 _ _ fun a b F Z μ2 p2 G J=>?_
 simp only [yI,RA,RB]
 obtain ⟨lZ,mZ⟩:=G.pl.lenZ
 rw [aP]
  -- some piles turned about
 refine bQ (Q:=fun p:Fl×aH×Hm=>p.1=.nx/\∃ c Y,p.2.1=[some (.rol (ns.map D.int)),some (.int v),some (.int w),some (.int h),some (.loc a),some (.loc c),none,none,none,none,none,none,none]/\μ2 <+: p.2.2/\HI p.2.2 c Y/\p.2.2[c]? = some (.dT (aN Y))/\Pil (cO w h) (fun q=>aY (F q) q) (GZ Y)) ?_ ?_
 ·simp only [cY,cZ,aT,aE,aF,bC]
  refine (j6 (by decide) (by decide)).mpr ?_
  rw [dX (by decide),hW]
  cases v / 45 % 2 == 1 with
  | false=>
   simp only [RE,if_false,cU]
   exact ⟨trivial,b,Z,rfl,Ti _,G.hi,G.hh,G.pl⟩
  | true=>
   simp only [if_true,bI,bF,aR,aM,aE,aF,bC]
   refine nX (k+4) ns 7 (by decide) _ _ fun n μ3 n0 n1 p3=>?_
   refine Q1 (k+5) (G.hi.more p3) (aJ p3 G.hh) (by omega) n ⟨n0,n1⟩ _ fun c Y μ4 I4 hk hp=>?_
   refine ⟨trivial,c,Y,rfl,p3.trans I4.pre,I4.hi,I4.dic,G.pl.turn (by rw [eE];exact I4.kd) (by rw [eE,eE];exact hk) fun x hx=>?_⟩
   obtain ⟨z,hz,rfl⟩:=RG.mp hx
   exact hp z hz
 rintro ⟨fl,ρ,μ3⟩ ⟨rfl,c,Y,rfl,p3,I3,g3,P3⟩
 dsimp only at p3 I3 g3 ⊢
 have hw3:=aJ p3 G.hw
 obtain ⟨lY,mY⟩:=P3.lenZ
 have hF:=G.di
 clear G p1 p2 p3 v0 v1 hm5 lZ mZ
 rw [aP]
 simp only [bI,bF,aR,aM,aE,aF]
 refine QF (k+3) hw hh nd f1 hF hw3 I3 g3 P3 _ fun c6 μ4 p4 g6=>?_
 simp only [RA,RB]
 generalize hr:bU (GZ Y)=r at g6
 have cr:∀ e∈eQ w h F,CrF (cO w h) F e:=fun e he=>by
  obtain ⟨e1,e2,e3,e4⟩:=EF hw hh he
  rcases J.2 e e1 with ⟨e5,_⟩|e5
  ·exact absurd e5 e4
  ·exact ⟨e1,e2,e3,e5⟩
 have lT:(k8 w h F r).length<=48:=by unfold k8;rw [Ro];exact zJ hw hh F
 have kT:(k8 w h F r).map (·.1)=eQ w h F:=by unfold k8;rw [RU];exact WR _
 rw [aP]
 simp only [bI,bF,aR,aM,aE,aF,bC]
 refine nX (k+4) ns 1 (by decide) _ _ fun n μ5 n0 n1 p5=>?_
 refine Q3 (k+5) lT (fun p hp=>by obtain ⟨e,_,rfl⟩:=RG.mp hp;exact Rh F r e) (aJ p5 g6) n ⟨n0,n1⟩ _ fun c7 S μ6 p6 _ g7 eS ok=>?_
 rw [kT] at eS
 simp only [RA,RB]
 have lS:S.length<=48:=by
  have:=congrArg Ss eS
  rw [Ro] at this
  rw [this]
  exact zJ hw hh F
 have hS:∀ p∈S,CrF (cO w h) F p.1:=fun p hp=>cr _ (eS ▸ RG.mpr ⟨p,hp,rfl⟩)
 have eT:k8 w h F r=S.map fun p=>(p.1,cE F r p.1):=by
  unfold k8
  rw [<- eS,RU]
  rfl
 have hRi:∀ p∈S,p.1∈dQ w h:=fun p hp=>(SR.mp (show p.1∈eQ w h F from eS ▸ RG.mpr ⟨p,hp,rfl⟩)).1
 have hpw:((S.map (·.1)).map aU).Pairwise fun x y=>HT.lexLt x y=true:=by
  rw [eS]
  exact (yZ f5).sublist ((VX (l:=dQ w h)).map aU)
 rw [eT] at g6 lT
 rw [aP]
 simp only [bI,bF,aR,aM,aE,aF]
 refine (DG g7).mpr ?_
 refine Q8 (k+2) hw hh lS hpw hRi ok (bP _ _) _ fun μ7 p7=>?_
 simp only [RA,RB]
 have q7:μ6 <+: μ7:=(a8 _ _).trans p7
 have q37:μ3 <+: μ7:=((p4.trans p5).trans p6).trans q7
 have g6':=aJ ((p5.trans p6).trans q7) g6
 have g7':=aJ q7 g7
 have hw7:=aJ q37 hw3
 have I7:=I3.more q37
 have gh7:=aJ q37 g3
 clear p4 p5 p6 p7 q7 q37 g6 g7 hw3 I3 g3
 rw [aP]
 simp only [bI,bF,aR,aM,aE,aF,bC]
 refine nX (k+4) ns 8 (by decide) _ _ fun n8 μ8 _ _ p8=>?_
 refine EJ (k+5) a (cO w h) (fun q=>LD (F q)) nd (by omega) n8 μ8 (aJ p8 hw7) _ fun row b9 μ9 hrow p9 _ g9=>?_
 simp only [RA,RB]
 rw [aP]
 simp only [bI,bF,aR,aM,aE,aF,bC]
 refine nX (k+4) ns 9 (by decide) _ _ fun n9 μA _ _ pA=>?_
 have q7A:=(p8.trans p9).trans pA
 have kdY:(Y.map (·.1)).Nodup:=I7.kd
 refine EJ (k+5) c (Y.map (·.1)) (j9 Y) kdY (by rw [Ro];omega) n9 μA (by rw [<- Ei kdY];exact aJ q7A gh7) _ fun ks bB μB hks pB _ gB=>?_
 have q7B:=q7A.trans pB
 obtain ⟨IB,gB'⟩:=(I7.more q7A).re pB hks gB
 refine zK (w:=w) (h:=h) (k+1) nd f1 hF hrow lS hS (aJ (pA.trans pB) g9) IB gB' (P3.re hks) _ fun c10 μC pC lC gC=>?_
 simp only [RA,RB]
 have eC:(S.map fun p=>(p.1,cE F (bU (GZ (gQ Y ks))) p.1))=S.map fun p=>(p.1,cE F r p.1):=Sg fun p hp=>by
  rw [Q0 (hS p hp) (r':=r) fun q hq=>by rw [<- hr];exact QZ nd P3 (P3.re hks) (fun p=>Eo kdY hks p) hq]
 rw [eC] at gC
 have q7C:=q7B.trans pC
 rw [aP]
 simp only [cY,mB,iL,bF,aR,aM,aE,aF]
 refine ES (k+5) lT gC (aJ q7C g6') _ fun μD pD=>?_
 simp only [hX,To,RE,if_false,cU]
 rw [aP]
 simp only [kW]
 have gD:=aJ pD gC
 refine mE ?_
 simp only [aE,aF,aR,aM,bC]
 refine ⟨mF gD,(pU gD (by rw [Ro,Sh];omega)).mpr ?_⟩
  -- what stood before the marks were told stands still
 have pE:μB <+: μD.set c10 (.lst ((S.map fun p=>(p.1,cE F r p.1)).map MD++[.int 7])):=cT (pC.trans pD) lC _
 have q7E:=q7B.trans pE
 have g9E:=aJ ((pA.trans pB).trans pE) g9
 generalize μD.set c10 (.lst ((S.map fun p=>(p.1,cE F r p.1)).map MD++[.int 7]))=μE at pE q7E g9E
 rw [aP]
 simp only [bI]
 refine Rg lS (aJ q7E g7') (aJ q7E g6') _ fun μF pF=>?_
 simp only [RA,RB]
 have q7F:=q7E.trans pF
 rw [aP]
 simp only [bI,bF,aR,aM,aE,aF]
 refine QY (w:=w) (h:=h) k nd f1 hF hrow lS hS (aJ pF g9E) (I7.more q7F) (aJ q7F gh7) P3 _ fun μG pG'=>?_
 simp only [RA,RB]
 have q7G:=q7F.trans pG'
 rw [aP]
 simp only [cY,pR,mB,iL,cZ,bF,aR,aM,aE,aF,bC,aT,OD,hX,To,RE,if_false]
 have ek:mL F (bU (GZ Y)) S=S.all fun p=>p.2 == "o" || p.2 == cE F r p.1:=by rw [hr];rfl
 rw [ek]
 refine w_neB.mpr ?_
 simp only [beq_self_eq_true,To,RE,if_false,cU,w_mRet,bF,aR,aM,aE,aF]
 refine zK (w:=w) (h:=h) (k+1) nd f1 hF (List.Perm.refl _) lS hS (aJ q7G hw7) (I7.more q7G) (aJ q7G gh7) P3 _ fun c11 μH pH _ gH=>?_
 rw [hr] at gH
 exact ES (k+5) lT gH (aJ (q7G.trans pH) g6') _ fun μI _=>rfl
theorem Rj:∀ ns:List Int,ns.length<=63->∃ μ',jA S ds 7 "law" [.rol (ns.map D.int)] []=some (.bl true,μ'):=fun ns _=>by
 obtain ⟨⟨d,μ'⟩,h1,h2⟩:=Ri 0 ns []
 dsimp only at h2
 subst h2
 refine ⟨μ',?_⟩
 unfold f at h1
 exact h1
end Lw
namespace Lw
open PySem L2 L3
theorem dz (Q:Vp):sT (Kx Q) ds:=by unfold sT;kernel_rfl
theorem cz (Q:Vp):Du (Kx Q) S.con=true:=by kernel_rfl
theorem nz (Q:Vp):S.no.map (Wu (Kx Q) TF)=S.no.map fun _=>some none:=by kernel_rfl
theorem Rk {P:R8}{w:Sy}{Q:Vp}
  {h:SO}{mg:Str → Option Ru}(X:(Kx Q).In h)(G:h.Ns TF mg):TxtOk P w (Kx Q) mg S ds ∧ ∃ f fd,Fun (Kx Q) "law" "law" (aO 49) f fd ∧ mg "law" = some (.ref f) ∧ ∀ (s:RC)(u:Ru),X4 s fd ⟨[u],[]⟩ [("_law_script",u)]:=by
 refine ⟨⟨Oc (by decide +kernel),Od fun p hp=>(Dr X G (dz Q) p hp).1,Oe (Oj X G (cz Q)),fun x kvs e=>?_,Of (Oi X G (nz Q))⟩,Oh X G (dz Q) (by kernel_rfl) (by kernel_rfl)⟩
 ·cases e
end Lw
open PySem PySem.W PyProof.Rows
set_option maxRecDepth 100000 in
set_option maxHeartbeats 0 in
theorem PySem.Challenge.cw_creasecourt_k63_marks_by_piles_holds : PySem.Challenge.rw_creasecourt_k63_marks_by_piles.Holds := by
 w_on
 refine holds_law (by decide +kernel) fun said=>?_
 refine holds_open (q:=Lw.Vw) (loose:=[]) (Xt:=fun s=>xlAt Lw.Vw [] s&&recOk (a0O (ZP (YC Tq))) s) (XP:=XL Lw.Vw []) (Yf:=Hook.obs (a1R Lw.Kx Lw.As Lw.oF)) (Ya:=Hook.val (a1R Lw.Kx Lw.As Lw.oF)) (YP:=Hook.says (a1R Lw.Kx Lw.As Lw.oF)) (N:=4880) Lw.run (Hook.of _) (Hook.keeps _) (fun s e=>xl_of s (U3.mp e).1) XL.keeps (by rfl) (by rfl) (by rfl) (fun s e=>recFacts_of (U3.mp e).2) (by rfl) (by first|assumption|decide +kernel) (by decide +kernel) ⟨rfl,rfl,rfl,rfl,rfl,by decide +kernel⟩ ?hw ?hc
 case hw=>w_witness2
 k_fill
 refine L3.walkM (l:=Tq) (S:=Lw.S) (ds:=Lw.ds) (k:=7) (st:=Lw.aO 49) (x:="_law_script") rfl rfl ⟨rfl,by decide,by decide⟩ (fun w h Y=>PySem.W.kIn_of Y) (by kernel_rfl) (by kernel_rfl) ?F (fun ns h _=>Lw.Rj ns h)
 case F=>
  intro w mg h KX G
  refine' Lw.Rk (P:=Tr) (w:=w)  KX G
