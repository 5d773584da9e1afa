import PyProof.Rows.All
import Wide.All
import OpenK.AllK
import Wide.FinOn
import PyProof.EqAt
import PyProof.EqKinds
import PyProof.TupleCall
import KE.KDictSum
import PyProof.SliceStr2
import PyProof.NeKinds
import PyProof.StrWalks
import PyProof.ConsumeWalk
import KE.KSortTup
import PyProof.StationsW
import OpenK.KOwn
import PyProof.RulesAs
import PyProof.NsDelKeeps
import PyProof.InstStoreFacts
import OpenK.KCls
import PyProof.ExcArgs
import PyProof.ExcAttrAll.ValueError
import KE.KIsAll
import PyProof.Rows.SetFrom
import PyProof.Rows.SortStr
import PyProof.SumAny
import PyProof.EnumMake
import KE.KRevIter
import PyProof.MeetsStr
import PyProof.ListRange
import PyProof.Rows.Range3
import KE.KDictList
import PyProof.PureStr
import PyProof.WalkInts
import PyProof.ConsumeS
import PyProof.ZipIter
import PyProof.AttrMissHeap
import KE.KDictOf
import PyProof.DictItems
import KE.KItemsList
import KE.KEqDict
import PyProof.DictValues
import PyProof.DictWalks
import PyProof.Rows.StrNews
import KE.KPairComp
import KE.KPar
import PySem.Challenge.RW_creasecourt_k86_outlines_drawn
open Array renaming getElem?_toList->UO,mk->UY,getD->VG,getElem?_eq_getElem->Wz,length_toList->WA,getElem?_eq_none->XU,replicate->Y2,getElem?_eq_some_iff->Zh,mem_toList_iff->a0h,append_assoc->a0E,toList_inj->a1q,toList->a2i,map->a3q
open Bool renaming and_eq_true->To,false_eq_true->Tw,false_ne_true->Uc,not_true->Vs,not_false->VD,and_eq_true_iff->Ws,or_eq_true->Xf,eq_iff_iff->Xg,not_eq_true'->XE,or_eq_false_iff->a0t,false_and->a1S,and_false->a1T,or_false->a2f,false_or->a2g,and_true->a2h
open Classical renaming byContradiction->Wm,choose->Yu,choose_spec->Zm
open False renaming elim->Vb
open ForInStep renaming yield->Wy
open Function renaming comp_apply->W9
open Int renaming emod_lt_of_pos->We,emod_nonneg->WK,toNat_natCast->a1B,mul_le_mul->a2e
open List renaming length_map->Tc,getElem?_eq_some_iff->Tf,set_cons_zero->Tj,set_cons_succ->Tn,map_cons->Tq,mem_map->Ts,getElem?_set_ne->Tv,length_append->Tz,map_map->TF,getElem?_map->TH,map_append->TM,size_toArray->TN,getElem?_append_left->TR,getElem?_set_self->TU,getElem?_eq_getElem->TV,mem_cons->T1,length_cons->T6,mem_cons_of_mem->Ua,length_set->Ud,mem_of_getElem?->Ue,range->Ui,map_congr_left->Ul,mem_cons_self->Um,length->Uo,zipWith_cons_cons->Up,all_cons->Ur,getElem?_append_right->Us,length_take->Uv,getElem?_eq_none_iff->Ux,mem_singleton->UA,prefix_refl->UI,cons_append->UJ,mem_filter->UK,find?_cons->UL,append_nil->UM,contains_iff_mem->UP,filter_cons_of_neg->UQ,nodup_cons->UU,mem_append_right->U2,length_filter_le->U3,filter_cons_of_pos->U4,mem_append->U7,all_eq_true->Vd,length_reverse->Vf,getElem_of_mem->Vg,length_singleton->Vj,mem_range->Vk,prefix_append->Vn,append_assoc->Vt,filterMap_cons->Vu,take_append_drop->Vx,take_length->Vy,filter_append->Vz,replicate->VB,lookup->VC,nil_append->VH,length_pos_iff->VM,length_replicate->VT,getD->V1,any_cons->V2,getElem?_replicate->V5,filter_eq_nil_iff->Wa,getElem?_eq_none->Wh,reverse_cons->Wj,pairwise_map->Wl,getD_eq_getElem?_getD->Wr,not_mem_nil->Wv,length_drop->Ww,filter_eq_self->WB,filter_nil->WI,range'->WM,nodup_append->WR,map_nil->WS,length_range->WT,set_append_right->W3,lookup_cons->W4,mem_erase_of_ne->Xb,range_succ->Xd,filter_sublist->Xm,zipWith->Xo,pairwise_iff_getElem->XA,exists_mem_of_ne_nil->XB,ext_getElem?->XD,map_take->XG,length_erase_of_mem->XH,range'_succ->XO,filter_cons->XQ,take_of_length_le->XY,length_pos_of_mem->XZ,drop_of_length_le->X0,set_append_left->Ye,mem_of_mem_take->Yg,forall_mem_cons->Yh,mem_filterMap->Yw,set_set->YA,any_map->YB,any_eq_false->YC,map_reverse->YT,any_eq_true->YU,map_id->YZ,of_mem_zip->Y4,foldl_cons->Y5,filter_map->Y6,drop_eq_getElem_cons->Zv,map_drop->ZD,getElem?_take_of_lt->ZE,length_eq_zero_iff->ZN,getElem?_cons_succ->ZO,all_eq_not_any_not->ZP,range_succ_eq_map->ZW,append_eq_nil_iff->ZX,singleton_append->a0c,perm_append_comm->a0d,mem_iff_getElem?->a0e,pairwise_append->a0o,mem_of_mem_drop->a0p,mem_append_left->a0q,getElem?_of_mem->a0r,map_eq_nil_iff->a0B,flatMap_append->a0C,find?_eq_none->a0M,take_sublist->a1n,map_inj_left->a1o,foldl_append->a1p,nodup_range->a1x,getElem_mem->a1y,getElem_inj->a1z,ext_getElem->a1A,range_zero->a1J,length_nil->a1K,map->a1P,drop_zero->a1Q
open List.Pairwise renaming map->X7,nil->a2G,filterMap->a2H
open List.cons renaming injEq->XI
open Nat renaming le_refl->Tt,ne_of_lt->TY,lt_of_lt_of_le->T9,zero_le->Uz,le_trans->UE,lt_succ_self->Ve,lt_irrefl->VA,lt_or_ge->Wc,not_lt_zero->WJ,sub_self->WZ,not_lt->W8,ne_of_gt->Xr,le_of_eq->Xs,lt_succ_of_lt->XF,succ_pos->X4,lt_trans->X5,add_zero->X6,mul_le_mul->Ym,zero_add->YL,succ_mul->YM,lt_trichotomy->YN,le_of_lt->YO,le_succ->Y3,lt_succ_iff->Ze,exists_eq_add_of_le->ZV,sub_zero->a0b,mul_le_mul_right->a0A,le_of_lt_succ->a1w,log2_lt->a3f,mod_lt->a3G
open Ne renaming symm->Uu
open Option renaming bind_eq_some_iff->S9,map_eq_some_iff->Tg,bind_some->TZ,map_some->Ub,isSome_map->Xx,getD_none->Yz,isSome_some->a0n,none->a2d
open Option.some renaming inj->TL
open Or renaming inr->a0m,inl->a1v
open PUnit renaming unit->a2E
open Prod renaming ext->WD
open Prod.mk renaming inj->X3
open PyProof.Rows renaming seqObj->UZ,callWith_type1->Vi,Keyed->V8,listUpdate_at->Xn,seqEpoch_at->XX,IntsAre->Yn,AllBare->YE,subscriptTail->YR,envOfC->Zd,list_sort_plain->ZH,get?_update_seq->ZI,entry_list_sort->ZJ,sortedHeap->Z1,slot_list_sort->Z2,args_list_sort->Z6,Subscript_->Z7,SortSt->Z8,subscriptTail_builtinR->a0S,listItems_at->a0V,arrOf->a1I,boot_range->a2c,wpAny_notIn_heap->a2Q,pow_int_small->a2R,pow_int->a2S,oneLt_int->a2T,mul_int->a2U,mirror_perm->a2V,lt_int->a2W,kindOf->a2X,floordiv_int->a2Y,call_len_slot->a2Z,callWith_builtin1->a3a,bubble_perm->a3b,bubble->a3c,assign_Tuple_tuple->a3d,assign_Tuple->a3e,tail_any->a3s,sortedHeap_old->a3t,failedOf->a3D
open PyProof.Rows.Boot renaming list->WX,dict->WY,str->Yd,tuple->a1c,sorted->a1d,reversed->a1e,min->a1f,max->a1g,len->a1h,isinstance->a1i,int->a1j,bool->a1k
open PyProof.Rows.SortSt renaming mk'->Yp
open PySem renaming wpAny_bind->Td,Value->Te,Shared->Th,wpAny_pure->Tr,sizeLine->TC,wpAny->TX,Program->T3,sizeLine_eq->T5,model->T7,starEach->T8,Around->Ug,World->Uk,wpAny_mono->Uy,compareOp->UG,DictEntry->UH,sysModules->UR,mainGlobals->US,Heap->UW,wpAny_dictEntries->UX,mem_of_lookup->U0,wpAny_holding->U6,bootBuiltins->Vh,Pos->Vl,FuncData->Vo,Params->Vr,backTo->Vv,wpAny_call_entry->VE,sliceBounds->VI,wpAny_truthy_bool->VN,wpAny_newObj_type->VO,assignEach->VQ,cLine->VS,tupleKind->VW,wpAny_Call_Name_kw->VZ,Scope->V0,treeTable->V3,NameKind->V4,keywordEach->Wg,intKind->Wi,wpAny_dictEpoch->Wn,behindInMarks->Wo,attributeBase->Wq,wpAny_notOrdered_dict->Wt,foldedSetIterable->Wu,Keyword->Wx,binaryOp->WC,wpAny_isInstance->WG,CmpOp->WN,wpAny_specialOf->WO,wpAny_ite_split->WQ,wpAny_setField_rec->WV,compEnvC->W5,wpAny_typeNameOfWhole_itemiter->Xh,swapsWith->Xi,Paired->Xl,backToKw->Xp,atKey->Xq,IsRangeIter->Xu,wpAny_passesOwn->Xw,codeAny->XC,rawInt->XN,wpAny_pyIter_list->XW,wpAny_newList->X1,SetTable->X9,Env->Yi,wpAny_isOneOf_itemiter->Yj,OsState->Yl,letOwnedTupleGo->Yo,wpAny_newTuple->Yx,firstArgMember->Yy,assign->YX,IsItemIter->Y0,slot_list_getitem->Y9,codeAny_mono->Zb,callerA->Zc,BindsTo->Zg,pyNext->Zo,pyIter->Zp,getMethod->Zs,wpAny_field->Zw,subscripted->Zx,wpAny_execs_nil->ZG,Within->ZK,wpAny_richCompare_same_room->ZR,valueAt->ZS,getItem->ZT,wpAny_setField->ZZ,typeLookup->Z0,sliceRange->Z3,bindArgs->Z5,Result->Z9,Operator->a0a,wpAny_standAt->a0u,wpAny_getItem_list_slice->a0v,wpAny_attempt->a0w,swappedStores->a0x,wpAny_callSpecial?_slot->a0F,slicePick->a0G,bindL->a0J,bindC->a0K,wpAny_pyNext_range_end->a0O,wpAny_pyNext_list_item->a0P,wpAny_pyIter_rangeiter->a0Q,wpAny_Call_method_late->a0R,standAt->a0T,isTrue->a0X,call_meetsIn->a0Y,Sem->a1a,wpAny_pyNext_list_end->a1r,wpAny_isOneOf_keyiter->a1s,builtinLookup_eq_fast->a1t,wpAny_pyIter_keyiter->a1E,setField->a1F,lookup_relabel_local->a1H,IntMulOk->a1L,GenState->a1M,wpAny_pyIter_range->a1U,wpAny_Name->a1V,typeOf->a1W,typeIs_str->a1X,closureFor->a1Z,call_meets->a2a,builtinsNs->a2b,wpAny_pyIter_slot->a2j,wpAny_pyIter_enum->a2k,wpAny_assign_Name->a2l,storedH->a2m,relabel->a2n,wpAny_forIn_list->a2u,wpAny_execs_cons->a2v,lastMarks->a2w,cellsFrom->a2y,call->a2A,PassesOwn->a2D,typeLookup_type->a2L,size_of_entries->a2M,importedModules->a2N,Fin->a2P,wpAny_fieldsOf->a3r,recursionLimit->a3u,putAt->a3v,newExc->a3w,methodCallForm->a3x,isSubtype_stop->a3C,callWith->a3E,callType_codes->a3F,Model->a3H
open PySem.Around renaming under->ZF
open PySem.Builtin renaming sorted->a0g
open PySem.Builtin.Dict renaming showsAll->VL,dictSlotArgs->Wf,entriesForEmpty->Yq,updateFrom->YQ,samePairs->YW,quietEq->Y8,selfAndRest->a3j,readDirectly->a3k,pendingCount->a3l,noArgs->a3m,mergeDict->a3n,merge->a3o,dictSlotNone->a3p
open PySem.Builtin.Dict_items renaming ownsTuple->WE,ownedTupleIsFree->Xy,ownedTupleFields->Xz,pairFromOwner->XJ,newIterator->a1C,dictOf->a1D
open PySem.Builtin.Int renaming intBits->Uj,intTooBig->WL
open PySem.Builtin.List renaming listExtendWith->V7,listTooLong->Xe,listLengthHint->Yv,listSameRef->YD,listItems->YV,listUpdate->a3i
open PySem.Builtin.Range renaming rangeSize->Ut,small->a2K
open PySem.Builtin.Str renaming glued->Uq,occurrences->U8,tooLong->W2
open PySem.Builtin.Tuple renaming tupleHashOf->a2J
open PySem.Calls renaming callWith_builtin->XT,Name_function_global->Zf,call_function_entry->Zn,evalArgs_plain->a0f,spliced_cons->a0D,spliced_nil->a0N
open PySem.Challenge renaming rw_creasecourt_k86_outlines_drawn->Tp,pw_creasecourt_k86_outlines_drawn->UD
open PySem.Code renaming isFrame->ZY,frames->a2I
open PySem.Data renaming fields->TK,dict->VR,cls->XS,cell->ZQ
open PySem.F renaming slot_dict_items->Zj,plainAttrs_dict->Zk,sub_dict_dict->ZA,slot_dict_get->ZC,slot_dict_ne->ZL,slot_dict_eq->ZM
open PySem.Heap renaming get?_push_of_some->Ti,lt_size->TB,get?_push_size->TJ,SameBut->VP,get?_update_other->Wb,size_push->WU,get?_update_self->X8,ExtBut->Y1
open PySem.Heap.DictOfH renaming new->a3h
open PySem.Heap.IsSliceOf renaming new->Y7
open PySem.Heap.SameBut renaming update->XR,refl->a3g
open PySem.IsRange renaming new->a1R
open PySem.NameKind renaming free->VJ,cell->VY
open PySem.Obj renaming mapSeq->Vc,data_mapFields->a1m,mapFields->a2t
open PySem.Obj.ExactDict renaming mapDictKeys->a2F
open PySem.Paired renaming snoc->YK,length->Zl
open PySem.PassesOwn renaming never->a0l
open PySem.SeqAt renaming ne_of_list_tuple->Vq,EqAt->a0y
open PySem.SetTable renaming below->UT,has->Zi,slot->a0Z
open PySem.SetTable.below renaming go->W7
open PySem.SetTable.layClean renaming free->Xc
open PySem.SetTable.probe renaming go->W6
open PySem.Str renaming ofString->UC
open PySem.StrLaws renaming glued_eq_join->Zy
open PySem.Value renaming type->Tu,ref->Tx,builtin->Uw,int->UB,bool->UN,none->Vm,str->YF,float->a2q,bytes->a2r
open PySem.W renaming Frag->Ta,fnOf->TQ,behindTheImports->Uh,findIn->U1,boot_drawn->U9,keepIn->Va,emptyDict->Vp,kia_one->VF,instObj->VU,kasC_bind->VX,nsIn->V6,kasC_pure->WH,plainGet->WW,boot_heap->W0,codeIn->Xj,hasDictIn->Xv,topFrame->XM,lookIn->X2,plainGet_of->Yb,mg_of->Yc,callWith_K->Yk,plainOver->Yr,methodObj->Ys,isFn->Yt,takerIn->YI,makesIn->YJ,kas_rev->Za,hashAt->Zq,boot_toks->Zt,cellsFrom_some->Zu,methodCall_KW->Zz,callWith_K0->ZU,kasC_get->Z4,specialIn->a0i,kitx_list->a0j,kitx_dict->a0k,handedIn->a0z,kas_tail3->a0H,kasC_cons->a0I,OpenLaw->a0L,segRun->a0U,kas_descPart->a0W,kitOne->a1b,WalkO->a1u,piecesOf->a1G,kasC_range->a1Y,kas_place->a2x,kas_sort->a3y,kas_desc->a3z,kasC->a3A,kHook->a3B,KasT->a3I
open PySem.W.KasT renaming ret->a0s
open PySem.W.Looks renaming here->a2C
open PySem.W.OpenLaw renaming row->U5
open PySem.W.OpenRow renaming toRowW->a1l
open PySem.W.RowW renaming records->a2s
open PySem.W.WData renaming int->Xa,weightAll->Xk,layable->YS,weight->YY,layableAll->a2B
open PySem.W.WShape renaming has->a2p
open PySem.Walks renaming range->a2o,list->a2z
open PySem.Within renaming cons->a2O
open Std.Legacy.Range renaming size->a1N,forIn_eq_forIn_range'->a1O
open Sum renaming inr->YG,inl->YH
open True renaming intro->V9
local macro_rules|`(tactic| omega) => `(tactic| lia)
set_option compiler.extract_closed false
set_option bootstrap.genMatcherCode false
set_option Elab.async false
set_option linter.all false
set_option maxRecDepth 100000
set_option linter.all false
namespace L2
open PySem PySem.Spec PyProof.Rows
noncomputable abbrev aN:=Sum Int Str
noncomputable def uH:aN->Te->Bool
 | .inl k,v=>Value.isInt k v
 | .inr x,v=>Value.isStrOf x v
noncomputable def zW (w:Uk):aN->Int
 | .inl k=>hashInt k
 | .inr x=>hashStr w x
theorem jN:∀ {k:aN}{v:Te},uH k v=true->(∃ i t,k=YH i/\v=UB i t)\/(∃ x t,k=YG x/\v=YF x t)
 | .inl i,v,h=>by
  obtain ⟨t,e⟩:=Value.isInt_shape (k:=i) (v:=v) h
  exact .inl ⟨i,t,rfl,e⟩
 | .inr x,v,h=>by
  obtain ⟨t,e⟩:=Value.isStrOf_shape (x:=x) (v:=v) h
  exact .inr ⟨x,t,rfl,e⟩
theorem Fx (a b:Int):decide ((YH a:aN)=YH b)=(a == b):=by
 by_cases e:a=b
 ·subst e;simp
 ·have h:¬ (YH a:aN)=YH b:=fun q=>e (Sum.inl.inj q)
  rw [decide_eq_false h]
  exact (beq_eq_false_iff_ne.mpr e).symm
theorem Fy (a b:Str):decide ((YG a:aN)=YG b)=decide (a=b):=by
 by_cases e:a=b
 ·subst e;simp
 ·have h:¬ (YG a:aN)=YG b:=fun q=>e (Sum.inr.inj q)
  rw [decide_eq_false h,decide_eq_false e]
theorem Fz (a:Int)(b:Str):decide ((YH a:aN)=YG b)=false:=decide_eq_false (fun q=>nomatch q)
theorem FA (a:Str)(b:Int):decide ((YG a:aN)=YH b)=false:=decide_eq_false (fun q=>nomatch q)
noncomputable def l0 (prog:T3)(w:Uk):PySem.KeyKind prog w aN where
 is:=uH
 hash:=zW w
 inj:=fun v a b g d=>by
  rcases jN g with ⟨i,t,rfl,rfl⟩|⟨x,t,rfl,rfl⟩
  ·rcases jN d with ⟨j,u,rfl,e⟩|⟨y,u,rfl,e⟩
   ·injection e with e1 _;rw [e1]
   ·exact nomatch e
  ·rcases jN d with ⟨j,u,rfl,e⟩|⟨y,u,rfl,e⟩
   ·exact nomatch e
   ·injection e with e1 _;rw [e1]
 byValue:=fun k v h=>by
  rcases jN h with ⟨i,t,rfl,rfl⟩|⟨x,t,rfl,rfl⟩<;>rfl
 pyHash:=fun c h=>by
  rcases jN c with ⟨i,t,rfl,rfl⟩|⟨x,t,rfl,rfl⟩
  ·exact wpAny_pyHash_int h
  ·exact wpAny_pyHash_str h
 eqBool:=fun l c h=>by
  rcases jN l with ⟨i,t,rfl,rfl⟩|⟨x,t,rfl,rfl⟩
  ·rcases jN c with ⟨j,u,rfl,rfl⟩|⟨y,u,rfl,rfl⟩
   ·rw [Fx] at h;exact wpAny_eqBool_int h
   ·rw [Fz] at h;exact SeqAt.EqAt.int_str i t y u _ _ _ _ h
  ·rcases jN c with ⟨j,u,rfl,rfl⟩|⟨y,u,rfl,rfl⟩
   ·rw [FA] at h;exact SeqAt.EqAt.str_int x t j u _ _ _ _ h
   ·rw [Fy] at h;exact wpAny_eqBool_str h
 «strs»:=fun k x t v h=>by
  rcases jN h with ⟨i,u,rfl,e⟩|⟨y,u,rfl,e⟩
  ·exact nomatch e
  ·injection e with e1 _
   subst e1
   cases v<;>rfl
end L2
namespace L2
open PySem PySem.Spec PyProof.Rows
inductive V where
 | non|bl (b:Bool)|int (i:Int)|str (x:Str)|byt (b:Array UInt8)|flt (b:UInt64)|ref (a:Addr)|ty (n:String)
 deriving DecidableEq
noncomputable def RelV:V->Te->Prop
 | .non,u=>u=Vm
 | .bl b,u=>u=UN b
 | .int i,u=>∃ t,u=UB i t
 | .str x,u=>∃ t,u=YF x t
 | .byt b,u=>∃ t,u=a2r b t
 | .flt b,u=>∃ t,u=a2q b t
 | .ref a,u=>u=Tx a
 | .ty n,u=>u=Tu n
noncomputable abbrev Vals:List V->List Te->Prop:=Xl RelV
theorem Vals.length {xs:List V}{us:List Te}(r:Vals xs us):xs.length=us.length:=Zl r
theorem Vals.get:∀ {xs:List V}{us:List Te}{i:Nat}{x:V},Vals xs us->xs[i]? = some x->∃ u,us[i]? = some u/\RelV x u
 | _,_,_,_,.nil,e=>by simp at e
 | _,_,0,_,.cons r _,e=>by simp at e;subst e;exact ⟨_,rfl,r⟩
 | _,_,i+1,x,.cons _ t,e=>by
  obtain ⟨u,a,b⟩:=Vals.get (i:=i) (x:=x) t (by simpa using e)
  exact ⟨u,by simpa using a,b⟩
theorem Vals.set {x:V}{u:Te}(r:RelV x u):∀ {xs:List V}{us:List Te}(i:Nat),Vals xs us->Vals (xs.set i x) (us.set i u)
 | _,_,_,.nil=>.nil
 | _,_,0,.cons _ t=>.cons r t
 | _,_,i+1,.cons q t=>.cons q (Vals.set r i t)
theorem Vals.append:∀ {xs a:List V}{us ws:List Te},Vals xs us->Vals a ws->Vals (xs++a) (us++ws)
 | _,_,_,_,.nil,s=>s
 | _,_,_,_,.cons r t,s=>.cons r (Vals.append t s)
theorem Vals.take:∀ {xs:List V}{us:List Te}(n:Nat),Vals xs us->Vals (xs.take n) (us.take n)
 | _,_,0,_=>.nil
 | _,_,_+1,.nil=>.nil
 | _,_,n+1,.cons r t=>.cons r (Vals.take n t)
theorem Vals.drop:∀ {xs:List V}{us:List Te}(n:Nat),Vals xs us->Vals (xs.drop n) (us.drop n)
 | _,_,0,r=>r
 | _,_,_+1,.nil=>.nil
 | _,_,n+1,.cons _ t=>Vals.drop n t
theorem Vals.none_of:∀ {xs:List V}{us:List Te}{i:Nat},Vals xs us->xs[i]? = none->us[i]? = none:=fun {xs us i} r e=>by
 have a:=r.length
 have b:xs.length<=i:=Ux.mp e
 exact Ux.mpr (by omega)
noncomputable def RelO:Option V->Option Te->Prop
 | some v,some u=>RelV v u
 | none,none=>True
 | _,_=>False
noncomputable def KV {κ:Type}:List (κ×V)->List (κ×Te)->Prop:=Xl fun (p:κ×V)(q:κ×Te)=>p.1=q.1/\RelV p.2 q.2
noncomputable def kV:aN->V
 | .inl i=>.int i
 | .inr x=>.str x
inductive HO where
 | lst (xs:List V)
 | tup (xs:List V)
 | dK (kvs:List (aN×V))|dT (kvs:List (List aN×V))
 | set (S:Int->Bool)(n:Nat)
 | ins (C dx:Addr)(fs:List (Str×V))
 | own (x:Addr)
 | xd (fs:List (Str×V))
 | met (f x:Addr)
 | rng (lo hi:Int)
 | frz (o:Obj)(u:HO)
 | tbl (ps:Array Te)
 | ext (φ:UW->Prop)
noncomputable abbrev Hp:=Addr->Option HO
noncomputable def aO (H:Hp)(a:Addr)(o:HO):Hp:=fun b=>if b=a then some o else H b
theorem c9 {H:Hp}{a:Addr}{o:HO}:aO H a o a=some o:=by unfold aO;rw [if_pos rfl]
theorem bI {H:Hp}{a b:Addr}{o:HO}(h:b≠a):aO H a o b=H b:=by unfold aO;rw [if_neg h]
theorem gH {H:Hp}{a b:Addr}{o:HO}(h:H a=some o)(h':H b=none):a≠b:=by
 intro e;subst e;rw [h] at h';cases h'
section
variable (P:T3)(w:Uk)
noncomputable def TupN (h:UW)(a:Addr)(xs:Array Te):Prop:=∃ o,h.get? a=some o/\o.cls=.type "tuple"/\∃ n,o.data=.seq xs n/\o.dict=none
theorem TupN.tup {h:UW}{a:Addr}{xs:Array Te}(x:TupN h a xs):IsTup h a xs:=let ⟨o,e,c,n,d,_⟩:=x;⟨o,e,c,n,d⟩
theorem TupN.new (h:UW)(a:Array Te):TupN (h.push { cls:=.type "tuple",data:=.seq a }) h.objs.size a:=⟨_,TJ _ rfl,rfl,_,rfl,rfl⟩
noncomputable def ObjOk (H:Hp)(h:UW)(a:Addr):HO->Prop
 | .lst b=>b.length<=TC/\∃ (its:List Te)(n:Nat),Vals b its/\h.get? a=some { cls:=.type "list",data:=.seq its.toArray n }
 | .tup b=>b.length<=TC/\∃ its:List Te,Vals b its/\TupN h a its.toArray
 | .dK kvs=>kvs.length<=TC/\(a == UR)=false/\∃ i,KV kvs i/\h.DictOf (l0 P w) a i
 | .dT kvs=>kvs.length<=TC/\(a == UR)=false/\∃ b:List (List aN×Addr×Te),
   Xl (fun (p:List aN×V)(q:List aN×Addr×Te)=>p.1=q.1/\H q.2.1=some (.tup (p.1.map kV))/\RelV p.2 q.2.2) kvs b /\
   ∃ o d j,h.get? a=some o/\o.ExactDict/\o.data=.dict d j/\d.toList=b.map (entryOfKey (VW (l0 P w)))/\(b.map (·.1)).Nodup
 | .set S n=>h.SetOf (Wi P w) a S n
 | .ins C dx fs=>H dx=some (.own a)/\fs.length<=1000/\dx≠a/\h.get? a=some (VU C dx) /\
   ∃ c,h.Ns1 dx c/\(∀ f,RelO (fs.lookup f) (c f))/\ZK c (fs.map (·.1))
 | .own _=>∃ o,h.get? a=some o
 | .xd fs=>∃ c,h.Ns1 a c/\∀ f,RelO (fs.lookup f) (c f)
 | .rng lo hi=>∃ t u v,h.get? a=some { cls:=.type "range",data:=.fields #[.int lo t,.int hi u,.int 1 v] }
 | .frz o u=>h.get? a=some o/\ObjOk H h a u
 | .tbl ps=>h.get? a=some { cls:=.none,data:=.fields ps }
 | .met f x=>h.get? a=some (Ys (.ref f) (.ref x))
 | .ext φ=>φ h/\(∃ o,h.get? a=some o)/\∀ e g:UW,φ e->(∀ o,e.get? a=some o->g.get? a=some o)->φ g
noncomputable def HOk (H:Hp)(h:UW):Prop:=∀ a o,H a=some o->ObjOk P w H h a o
end
section
variable {P:T3}{w:Uk}{H H':Hp}{h h':UW}{a:Addr}{o:HO}
theorem ObjOk.lt (x:ObjOk P w H h a o):a<h.objs.size:=by
 cases o with
 | lst c=>obtain ⟨_,_,_,_,e⟩:=x;exact TB e
 | tup c=>obtain ⟨_,_,_,p⟩:=x;exact p.tup.lt
 | dK b=>obtain ⟨_,_,_,_,o,_,_,e,_⟩:=x;exact TB e
 | dT b=>obtain ⟨_,_,_,_,o,_,_,e,_⟩:=x;exact TB e
 | set S n=>obtain ⟨o,_,_,_,e,_⟩:=x;exact TB e
 | ins C d fs=>obtain ⟨_,_,_,e,_⟩:=x;exact TB e
 | own y=>obtain ⟨_,e⟩:=x;exact TB e
 | xd fs=>obtain ⟨_,⟨_,_,_,e,_⟩,_⟩:=x;exact TB e
 | rng i g=>obtain ⟨_,_,_,e⟩:=x;exact TB e
 | frz j u=>obtain ⟨e,_⟩:=x;exact TB e
 | tbl l=>exact TB (show h.get? a=some _ from x)
 | met f y=>exact TB (show h.get? a=some _ from x)
 | ext m=>obtain ⟨_,⟨_,e⟩,_⟩:=x;exact TB e
theorem Xl.mapP {c d:Type}{F G:c->d->Prop}:∀ {l₁:List c}{l₂:List d},Xl F l₁ l₂->(∀ a b,F a b->G a b)->Xl G l₁ l₂
 | _,_,.nil,_=>.nil
 | _,_,.cons r t,f=>.cons (f _ _ r) (Xl.mapP t f)
theorem ObjOk.stay (x:ObjOk P w H h a o)(k:∀ b u,(b=a\/H b=some (.own a))->h.get? b=some u->h'.get? b=some u)
  (I:∀ b,H b=some (.own a)->H' b=some (.own a))(J:∀ b m,H b=some (.tup m)->H' b=some (.tup m)):ObjOk P w H' h' a o:=by
 induction o with
 | lst m=>obtain ⟨z,l,n,r,e⟩:=x;exact ⟨z,l,n,r,k _ _ (.inl rfl) e⟩
 | tup m=>obtain ⟨z,l,r,g,e,c⟩:=x;exact ⟨z,l,r,g,k _ _ (.inl rfl) e,c⟩
 | dK s=>obtain ⟨z,y,L,r,g,j,i,e,c⟩:=x;exact ⟨z,y,L,r,g,j,i,k _ _ (.inl rfl) e,c⟩
 | dT s=>
  obtain ⟨z,y,m,r,g,j,i,e,c⟩:=x
  exact ⟨z,y,m,Xl.mapP r fun p q z=>⟨z.1,J _ _ z.2.1,z.2.2⟩,g,j,i,k _ _ (.inl rfl) e,c⟩
 | set S n=>obtain ⟨g,j,i,t,e,c⟩:=x;exact ⟨g,j,i,t,k _ _ (.inl rfl) e,c⟩
 | ins C M fs=>
  obtain ⟨d,z,ne,e,A,⟨B,j,i,G,c⟩,r⟩:=x
  exact ⟨I _ d,z,ne,k _ _ (.inl rfl) e,A,⟨B,j,i,k _ _ (.inr d) G,c⟩,r⟩
 | own y=>obtain ⟨g,e⟩:=x;exact ⟨g,k _ _ (.inl rfl) e⟩
 | xd fs=>obtain ⟨A,⟨B,j,i,e,c⟩,r⟩:=x;exact ⟨A,⟨B,j,i,k _ _ (.inl rfl) e,c⟩,r⟩
 | rng O N=>obtain ⟨t,u,v,e⟩:=x;exact ⟨t,u,v,k _ _ (.inl rfl) e⟩
 | frz g u K=>obtain ⟨e,q⟩:=x;exact ⟨k _ _ (.inl rfl) e,K q⟩
 | tbl E=>
  have e:h.get? a=some { cls:=.none,data:=.fields E }:=x
  show h'.get? a=some { cls:=.none,data:=.fields E }
  exact k a _ (.inl rfl) e
 | met f y=>
  have e:h.get? a=some (Ys (.ref f) (.ref y)):=x
  show h'.get? a=some (Ys (.ref f) (.ref y))
  exact k a _ (.inl rfl) e
 | ext Q=>obtain ⟨p,⟨o,e⟩,st⟩:=x;exact ⟨st _ _ p fun o q=>k _ _ (.inl rfl) q,⟨o,k _ _ (.inl rfl) e⟩,st⟩
theorem HOk.lt (x:HOk P w H h)(e:H a=some o):a<h.objs.size:=(x a o e).lt
theorem HOk.fresh (x:HOk P w H h)(e:h.objs.size<=a):H a=none:=by
 cases q:H a with
 | none=>rfl
 | some u=>exact absurd (T9 (x.lt q) e) (VA _)
theorem HOk.kept (x:HOk P w H h)(k:∀ b u,h.get? b=some u->h'.get? b=some u):HOk P w H h':=fun a o e=>
 (x a o e).stay (fun b u _ q=>k b u q) (fun _ q=>q) fun _ _ q=>q
theorem HOk.laid (x:HOk P w H h)(k:∀ b u,h.get? b=some u->h'.get? b=some u)(i:h.objs.size<=a)(new:ObjOk P w (aO H a o) h' a o):HOk P w (aO H a o) h':=fun b u e=>by
 have g:=x.fresh i
 by_cases d:b=a
 ·subst d;rw [c9] at e;cases e;exact new
 ·rw [bI d] at e
  exact (x b u e).stay (fun c v _ q=>k c v q) (fun c q=>by rw [bI (gH q g)];exact q) fun c j q=>by rw [bI (gH q g)];exact q
end
noncomputable def Rd (H:Hp)(a:Addr)(u:HO):Prop:=H a=some u\/∃ o,H a=some (.frz o u)
theorem Rd.of {H:Hp}{a:Addr}{u:HO}(h:H a=some u):Rd H a u:=.inl h
theorem Rd.ok {P:T3}{w:Uk}{H:Hp}{h:UW}{a:Addr}{u:HO}(r:Rd H a u)(x:HOk P w H h):ObjOk P w H h a u:=by
 rcases r with r|⟨o,r⟩
 ·exact x a u r
 ·obtain ⟨_,q⟩:=x a _ r
  exact q
noncomputable def oX:Option HO->Prop
 | some (.lst _)=>True
 | some (.dK _)=>True
 | some (.dT _)=>True
 | some (.set _ _)=>True
 | some (.ins _ _ _)=>True
 | some (.ext _)=>True
 | _=>False
section
variable {P:T3}{w:Uk}{H:Hp}{h h':UW}{x e:Addr}{o':HO}
theorem HOk.write (ok:HOk P w H h)(j:oX (H x))(n:e=x\/H e=some (.own x))(k:∀ b u,b≠e->h.get? b=some u->h'.get? b=some u)(m:∃ u,h'.get? e=some u)
  (new:ObjOk P w (aO H x o') h' x o'):HOk P w (aO H x o') h':=fun b u q=>by
 have d:∀ c y,H c=some (.own y)->c≠x:=fun c y r z=>by subst z;rw [r] at j;exact j
 have g:∀ c l,H c=some (.tup l)->c≠x:=fun c l r z=>by subst z;rw [r] at j;exact j
 by_cases i:b=x
 ·subst i;rw [c9] at q;cases q;exact new
 ·rw [bI i] at q
  by_cases a:b=e
  ·have o:H b=some (.own x):=by
    rcases n with z|z
    ·exact absurd (a.trans z) i
    ·rw [a];exact z
   rw [q] at o;cases o
   obtain ⟨v,p⟩:=m
   exact ⟨v,by rw [a];exact p⟩
  ·refine (ok b u q).stay (fun c v hc r=>k c v ?_ r) (fun c r=>by rw [bI (d c b r)];exact r) fun c l r=>by rw [bI (g c l r)];exact r
   rcases hc with rfl|hc
   ·exact a
   ·rintro rfl
    rcases n with z|z
    ·exact d c b hc z
    ·rw [hc] at z;cases z;exact i rfl
end
structure Un (fs ex:List Addr)(H H':Hp)(h h':UW):Prop where
 keep:∀ b o,h.get? b=some o->H b=none->b∉fs->b∉ex->h'.get? b=some o
 slot:∀ b o,h.get? b=some o->H b=none->b∈fs->b∉ex->∃ sl,h'.get? b=some { o with slots:=sl }
 free:∀ b o,h.get? b=some o->H b=none->b∉ex->H' b=none
 there:∀ b o,h.get? b=some o->b∉ex->∃ o',h'.get? b=some o'
 tups:∀ b xs,H b=some (.tup xs)->H' b=some (.tup xs)
 frzs:∀ b o u,H b=some (.frz o u)->H' b=some (.frz o u)
 tbls:∀ b ps,H b=some (.tbl ps)->∃ more,H' b=some (.tbl (ps++more))
section
variable {fs fs' ex ex':List Addr}{H H1 H2:Hp}{h h1 h2 h':UW}{a x e:Addr}{o:HO}
theorem Un.any (u:Un fs ex H H1 h h1){b:Addr}{ob:Obj}(q:h.get? b=some ob)(n:H b=none)(d:b∉ex):∃ g,h1.get? b=some { ob with slots:=g }:=by
 by_cases c:b∈fs
 ·exact u.slot b ob q n c d
 ·exact ⟨ob.slots,u.keep b ob q n c d⟩
theorem Un.trans (a:Un fs ex H H1 h h1)(b:Un fs ex H1 H2 h1 h2):Un fs ex H H2 h h2 where
 keep:=fun c g q n hc d=>b.keep c g (a.keep c g q n hc d) (a.free c g q n d) hc d
 slot:=fun c g q n hc d=>by
  obtain ⟨v,i⟩:=a.slot c g q n hc d
  obtain ⟨p,l⟩:=b.slot c _ i (a.free c g q n d) hc d
  exact ⟨p,l⟩
 free:=fun c g q n d=>by
  obtain ⟨m,i⟩:=a.there c g q d
  exact b.free c m i (a.free c g q n d) d
 there:=fun c g q d=>by
  obtain ⟨m,i⟩:=a.there c g q d
  exact b.there c m i d
 tups:=fun c j q=>b.tups c j (a.tups c j q)
 frzs:=fun c g j q=>b.frzs c g j (a.frzs c g j q)
 tbls:=fun c u q=>by
  obtain ⟨r,i⟩:=a.tbls c u q
  obtain ⟨s,l⟩:=b.tbls c _ i
  exact ⟨r++s,by rw [l,a0E]⟩
theorem Un.kept (k:∀ b u,h.get? b=some u->h'.get? b=some u):Un fs ex H H h h':=
 ⟨fun b c q _ _ _=>k b c q,fun b c q _ _ _=>⟨c.slots,k b c q⟩,fun _ _ _ n _=>n,fun b c q _=>⟨c,k b c q⟩,fun _ _ q=>q,fun _ _ _ q=>q,fun _ d q=>⟨#[],by rw [q];simp⟩⟩
theorem Un.refl:Un fs ex H H h h:=Un.kept fun _ _ q=>q
theorem Un.laid (k:∀ b u,h.get? b=some u->h'.get? b=some u)(d:h.objs.size<=a)(c:H a=none):Un fs ex H (aO H a o) h h' where
 keep:=fun b u q _ _ _=>k b u q
 slot:=fun b u q _ _ _=>⟨u.slots,k b u q⟩
 free:=fun b u q n _=>by rw [bI (TY (T9 (TB q) d))];exact n
 there:=fun b u q _=>⟨u,k b u q⟩
 tups:=fun b g q=>by rw [bI (gH q c)];exact q
 frzs:=fun b u g q=>by rw [bI (gH q c)];exact q
 tbls:=fun b i q=>⟨#[],by rw [bI (gH q c),q];simp⟩
theorem Un.write (d:oX (H x))(m:e=x\/H e=some (.own x))(k:∀ b u,b≠e->h.get? b=some u->h'.get? b=some u)(g:∃ u,h'.get? e=some u):Un fs ex H (aO H x o) h h':=by
 have l:∀ b,H b=none->b≠x:=fun b n z=>by subst z;rw [n] at d;exact d
 have j:∀ b,H b=none->b≠e:=fun b n z=>by
  subst z
  rcases m with r|r
  ·exact l b n r
  ·rw [n] at r;cases r
 have i:∀ b u,H b=some u->¬ oX (some u)->b≠x:=fun b u q p z=>by subst z;rw [q] at d;exact p d
 refine ⟨fun b u q n _ _=>k b u (j b n) q,fun b u q n _ _=>⟨u.slots,k b u (j b n) q⟩,fun b u q n _=>by rw [bI (l b n)];exact n,fun b u q _=>?_,
  fun b s q=>by rw [bI (i b _ q fun z=>z)];exact q,fun b u s q=>by rw [bI (i b _ q fun z=>z)];exact q,fun b v q=>⟨#[],by rw [bI (i b _ q fun z=>z),q];simp⟩⟩
 by_cases c:b=e
 ·subst c;exact g
 ·exact ⟨u,k b u c q⟩
theorem Un.mono (u:Un fs ex H H1 h h1)(j:∀ b∈fs,b∈fs')(g:∀ b∈ex,b∈ex'):Un fs' ex' H H1 h h1:=
 ⟨fun b d q n i c=>u.keep b d q n (fun z=>i (j b z)) fun z=>c (g b z),fun _ _ q n _ c=>u.any q n fun z=>c (g _ z),fun b d q n c=>u.free b d q n fun z=>c (g b z),fun b d q c=>u.there b d q fun z=>c (g b z),u.tups,u.frzs,u.tbls⟩
end
noncomputable def qU (h:UW)(H:Hp):List Addr:=(Ui h.objs.size).filter fun a=>(H a).isSome
noncomputable def jO (h:UW)(H:Hp):UW:=PySem.W.hideAll h (qU h H)
theorem FC (h:UW)(H:Hp):(jO h H).objs.size=h.objs.size:=PySem.W.hideAll_size _ _
theorem FD {h:UW}{H:Hp}{b:Addr}{o:Obj}(e:h.get? b=some o)(n:H b=none):(jO h H).get? b=some o:=
 PySem.W.hideAll_get _ e fun a=>by
  have q:(H b).isSome=true:=(UK.mp a).2
  rw [n] at q;simp at q
theorem FE {h:UW}{H:Hp}{b:Addr}{o:Obj}(e:(jO h H).get? b=some o):h.get? b=some o/\H b=none:=by
 have a:h.get? b=some o:=PySem.W.of_hideAll (qU h H) e
 refine ⟨a,?_⟩
 cases q:H b with
 | none=>rfl
 | some x=>
  have c:b∈qU h H:=UK.mpr ⟨Vk.mpr (TB a),by simp [q]⟩
  have z:(jO h H).get? b=none:=PySem.W.hideAll_none (qU h H) c
  rw [z] at e;cases e
noncomputable def FF (g h:UW)(L:Addr):List (Addr×Obj):=(Ui h.objs.size).filterMap fun a=>if a=L\/(g.get? a).isSome=true then none else (h.get? a).map fun o=>(a,o)
noncomputable def bU (g h:UW)(L d:Addr):List (Addr×Obj):=(FF g h L).filter fun p=>decide (p.1≠d)
end L2
namespace L2
open PySem PySem.Spec PyProof.Rows
structure Mod (K:Ta)(mg:Str->Option Te)(base:UW):Prop where
 kin:K.In base
 glob:base.Ns US mg
 blt:∃ mb,base.Ns a2b mb/\∀ x:Str,x ≠ "__name__"->mb x=Vh x
 nolimit:base.NoLimit
structure Cx where
 prog:T3
 w:Uk
 K:Ta
 mg:Str->Option Te
 base:UW
 A:Ug
 N:List Str
 s₀:Th
 H₀:Hp
 env:Yi
 outer:List Yi
 stack:List Yi
 ex:List Addr
 fn:Str->Bool
 calm:Bool
 pn:List (Addr×Obj)
 xe:Te->Th->Prop
noncomputable def gI (l:List Yi):List Addr:=l.filterMap (·.frame)
noncomputable abbrev Cx.fs (X:Cx):List Addr:=gI X.outer
noncomputable def m7 (sc:V0)(x:Str):Prop:=sc.names.lookup x=some .local\/sc.names.lookup x=some .cell\/sc.names.lookup x=some .free
noncomputable def Loc (sc:V0)(x:Str):Prop:=sc.names.lookup x=some .local\/sc.names.lookup x=some .cell
noncomputable def FG (env:Yi)(h:UW)(m:Str->Option Te)(x:Str)(u:Te):Prop:=
 (env.kindOf x=some .local/\m x=some u)\/((env.kindOf x=some .cell\/env.kindOf x=some .free)/\∃ c,env.cells.lookup x=some c/\h.IsCell c (some u))
structure Cx.Ok (X:Cx):Prop where
 mod:Mod X.K X.mg X.base
 kind:X.env.scope.kind=.function
 glob:X.env.globals=US
 blt:X.env.builtins=a2b
 above:X.s₀.heap.objs.size<=X.env.locals
 inj:∀ x y c,X.env.cells.lookup x=some c->X.env.cells.lookup y=some c->x=y
 has:∀ x,(X.env.kindOf x=some .cell\/X.env.kindOf x=some .free)->∃ c,X.env.cells.lookup x=some c
 cab:∀ x c,X.fn x=true->X.env.cells.lookup x=some c->X.s₀.heap.objs.size<=c
 hd:X.calm=true->X.A.handled=none
 frames:X.A.frames=some X.stack
 stk:X.stack=X.outer\/(X.stack=X.env::X.outer/\X.env.frame=some X.env.locals)
 exf:∀ b∈X.ex,b≠X.env.locals/\∀ x c,X.env.cells.lookup x=some c->c≠b
 bs:∀ b o,X.base.get? b=some o->X.s₀.heap.get? b=some o/\X.H₀ b=none
 bsz:X.base.objs.size<=X.s₀.heap.objs.size
 noex:∀ b o,X.base.get? b=some o->b∉X.ex
 exfs:∀ b∈X.ex,b∉X.fs
 funs:X.s₀.heap.FunFrames X.base X.outer
 frf:∀ b∈X.fs,X.H₀ b=none
structure Inv (X:Cx)(a3J:List (Addr×Obj))(σ:List (Option V))(H:Hp)(s:Th):Prop where
 ok:X.Ok
 os:s.os=X.s₀.os
 bare:YE s.gens
 base:Un X.fs X.ex X.H₀ H X.s₀.heap s.heap
 loc:∃ m,s.heap.Ns X.env.locals m/\∀ (i:Nat)(x:Str)(v:V),X.N[i]? = some x->σ[i]? = some (some v)->m7 X.env.scope x->∃ u,RelV v u/\FG X.env s.heap m x u
 cell:∀ x c,X.env.cells.lookup x=some c->∃ v,s.heap.IsCell c v
 free:H X.env.locals=none
 freeC:∀ x c,X.env.cells.lookup x=some c->H c=none
 pin:∀ p∈X.pn++a3J,s.heap.get? p.1=some p.2/\H p.1=none/\p.1≠X.env.locals/\p.1∉X.fs/\∀ v,p.2.data≠.cell v
 hok:HOk X.prog X.w H s.heap
 len:σ.length=X.N.length
section
variable {X:Cx}{a3J:List (Addr×Obj)}{σ:List (Option V)}{H H':Hp}{s:Th}{h':UW}
theorem Cx.Ok.nofr (ok:X.Ok){b:Addr}{o:Obj}(e:X.base.get? b=some o):b∉X.fs:=fun a=>by
 have:=(ok.funs.mem a).1
 rw [e] at this;cases this
theorem Inv.bs (I:Inv X a3J σ H s):∀ b o,X.base.get? b=some o->s.heap.get? b=some o/\H b=none:=fun b o e=>
 ⟨I.base.keep b o (I.ok.bs b o e).1 (I.ok.bs b o e).2 (I.ok.nofr e) (I.ok.noex b o e),I.base.free b o (I.ok.bs b o e).1 (I.ok.bs b o e).2 (I.ok.noex b o e)⟩
theorem Inv.bk (I:Inv X a3J σ H s):∀ b o,X.base.get? b=some o->s.heap.get? b=some o:=fun b o e=>(I.bs b o e).1
theorem Inv.mod (I:Inv X a3J σ H s):Mod X.K X.mg X.base:=I.ok.mod
theorem Inv.kIn (I:Inv X a3J σ H s):X.K.In s.heap:=I.ok.mod.kin.keeps I.bk
theorem Inv.nolimit (I:Inv X a3J σ H s):s.heap.NoLimit:=I.ok.mod.nolimit.keeps I.bk
theorem Inv.fr (I:Inv X a3J σ H s):∃ m,Fr X.base X.env.locals s.heap m:=
 let ⟨m,a,_⟩:=I.loc
 ⟨m,a,I.bk,UE I.ok.bsz I.ok.above⟩
theorem Inv.lt (I:Inv X a3J σ H s):X.env.locals<s.heap.objs.size:=let ⟨_,a,_⟩:=I.loc;a.lt
theorem Inv.sz (I:Inv X a3J σ H s):X.s₀.heap.objs.size<=s.heap.objs.size:=UE I.ok.above (YO I.lt)
theorem Inv.nofs (I:Inv X a3J σ H s){a:Addr}(h:s.heap.objs.size<=a):a∉X.fs:=fun b=>by
 obtain ⟨_,o,c,_⟩:=I.ok.funs.mem b
 exact absurd (T9 (TB c) (UE I.sz h)) (VA _)
theorem Inv.cne (I:Inv X a3J σ H s):∀ x c,X.env.cells.lookup x=some c->c≠X.env.locals:=fun x c e z=>by
 obtain ⟨v,o,d,hd⟩:=I.cell x c e
 obtain ⟨m,⟨i,h,g,b,a,_⟩,_⟩:=I.loc
 rw [z,b] at d;cases d;rw [a] at hd;cases hd
theorem Inv.funs (I:Inv X a3J σ H s):s.heap.FunFrames X.base X.outer:=by
 have all:∀ (l:List Yi),(∀ b∈gI l,b∈X.fs)->X.s₀.heap.FunFrames X.base l->s.heap.FunFrames X.base l:=by
  intro l
  induction l with
  | nil=>intro _ _;trivial
  | cons h r q=>
   intro g j
   obtain ⟨i,⟨L,o,d,m,n,hd⟩,p⟩:=j
   have a:L∈X.fs:=g L (by unfold gI;rw [Vu,d];exact Um)
   obtain ⟨u,e⟩:=I.base.slot L o n (I.ok.frf L a) a fun z=>I.ok.exfs L z a
   exact ⟨i,⟨L,_,d,m,e,hd⟩,q (fun b c=>g b (by unfold gI;rw [Vu,d];exact Ua _ c)) p⟩
 exact all X.outer (fun _ c=>c) I.ok.funs
theorem Inv.stack (I:Inv X a3J σ H s):s.heap.FunFrames X.base X.stack:=by
 rcases I.ok.stk with e|⟨e,a⟩
 ·rw [e];exact I.funs
 ·rw [e]
  obtain ⟨m,b,_⟩:=I.loc
  refine .cons (by rw [I.ok.kind];decide) a b ?_ I.funs
  exact Heap.get?_none_of_le (UE I.ok.bsz I.ok.above)
theorem Inv.stkSub (I:Inv X a3J σ H s):∀ b∈gI X.stack,b∈X.env.locals::X.fs:=fun b a=>by
 rcases I.ok.stk with e|⟨e,c⟩
 ·rw [e] at a;exact Ua _ a
 ·rw [e] at a
  unfold gI at a
  rw [Vu,c] at a
  exact a
theorem Inv.stkFree (I:Inv X a3J σ H s):∀ b∈gI X.stack,H b=none:=fun b a=>by
 rcases T1.mp (I.stkSub b a) with e|a
 ·rw [e];exact I.free
 ·obtain ⟨_,o,c,_⟩:=I.ok.funs.mem a
  exact I.base.free b o c (I.ok.frf b a) fun z=>I.ok.exfs b z a
theorem Inv.step {g':Array a1M}{t':Nat}{d':Drawn}{ch:List Addr}(I:Inv X a3J σ H s)
  (h:∀ b∈ch,(b∈X.ex\/X.s₀.heap.objs.size<=b)/\b≠X.env.locals/\(∀ x c,X.env.cells.lookup x=some c->c≠b)/\∀ p∈X.pn++a3J,p.1≠b)
  (keep:∀ b o,b≠X.env.locals->b∉X.fs->b∉ch->s.heap.get? b=some o->H b=none->h'.get? b=some o)
  (slot:∀ b o,b≠X.env.locals->b∈X.fs->b∉ch->s.heap.get? b=some o->H b=none->∃ T,h'.get? b=some { o with slots:=T })(free:∀ b o,b∉ch->s.heap.get? b=some o->H b=none->H' b=none)
  (E:∀ b o,b∉ch->s.heap.get? b=some o->∃ M,h'.get? b=some M)
  (O:∀ b A,H b=some (.tup A)->H' b=some (.tup A))(K:∀ b o u,H b=some (.frz o u)->H' b=some (.frz o u))(N:∀ b Q,H b=some (.tbl Q)->∃ more,H' b=some (.tbl (Q++more)))
  (ns:∀ m,s.heap.Ns X.env.locals m->h'.Ns X.env.locals m)(R:HOk X.prog X.w H' h')(hg:YE g') :
  Inv X a3J σ H' { s with heap:=h',gens:=g',drawn:=d',toks:=t' }:=by
 have L:∀ b o,X.s₀.heap.get? b=some o->b≠X.env.locals:=fun b o e=>TY (T9 (TB e) I.ok.above)
 have y:∀ b o,X.s₀.heap.get? b=some o->b∉X.ex->b∉ch:=fun b o e a B=>by
  rcases (h b B).1 with z|z
  ·exact a z
  ·exact absurd (T9 (TB e) z) (VA _)
 have g:∀ x c,X.env.cells.lookup x=some c->∀ v,s.heap.IsCell c v->h'.IsCell c v:=fun x c e v ⟨o,G,hd⟩=>by
  have j:c∉ch:=fun z=>(h c z).2.2.1 x c e rfl
  by_cases hc:c∈X.fs
  ·obtain ⟨T,q⟩:=slot c o (I.cne x c e) hc j G (I.freeC x c e)
   exact ⟨_,q,hd⟩
  ·exact ⟨o,keep c o (I.cne x c e) hc j G (I.freeC x c e),hd⟩
 refine ⟨I.ok,I.os,hg,⟨fun b o e n B a=>?_,fun b o e n B a=>?_,fun b o e n a=>?_,fun b o e a=>?_,fun b A e=>O b A (I.base.tups b A e),fun b o A e=>K b o A (I.base.frzs b o A e),fun b Q e=>?_⟩,?_,fun x c e=>?_,?_,fun x c e=>?_,fun p Y=>?_,R,I.len⟩
 ·exact keep b o (L b o e) B (y b o e a) (I.base.keep b o e n B a) (I.base.free b o e n a)
 ·obtain ⟨T,w⟩:=I.base.slot b o e n B a
  obtain ⟨U,J⟩:=slot b _ (L b o e) B (y b o e a) w (I.base.free b o e n a)
  exact ⟨U,J⟩
 ·obtain ⟨M,w⟩:=I.base.there b o e a
  exact free b M (y b o e a) w (I.base.free b o e n a)
 ·obtain ⟨M,w⟩:=I.base.there b o e a
  exact E b M (y b o e a) w
 ·obtain ⟨m1,w⟩:=I.base.tbls b Q e
  obtain ⟨m2,J⟩:=N b _ w
  exact ⟨m1++m2,by rw [J,a0E]⟩
 ·obtain ⟨m,hn,hl⟩:=I.loc
  refine ⟨m,ns m hn,fun i x v w J e3=>?_⟩
  obtain ⟨u,r,l⟩:=hl i x v w J e3
  refine ⟨u,r,?_⟩
  rcases l with l|⟨k,c,e,z⟩
  ·exact .inl l
  ·exact .inr ⟨k,c,e,g x c e _ z⟩
 ·obtain ⟨v,z⟩:=I.cell x c e
  exact ⟨v,g x c e v z⟩
 ·obtain ⟨m,⟨o,_,_,G,_⟩,_⟩:=I.loc
  exact free _ o (fun z=>(h _ z).2.1 rfl) G I.free
 ·obtain ⟨v,o,G,hd⟩:=I.cell x c e
  exact free c o (fun z=>(h c z).2.2.1 x c e rfl) G (I.freeC x c e)
 ·obtain ⟨e,n,ne,Z,d⟩:=I.pin p Y
  have j:p.1∉ch:=fun z=>(h p.1 z).2.2.2 p Y rfl
  exact ⟨keep p.1 p.2 ne Z j e n,free p.1 p.2 j e n,ne,Z,d⟩
theorem Inv.un {t':Nat}(I:Inv X a3J σ H s)(u:Un X.fs [] H H' s.heap h')(h:HOk X.prog X.w H' h'):Inv X a3J σ H' { s with heap:=h',toks:=t' }:=by
 obtain ⟨m,⟨o,v,q,i,r⟩,_⟩:=id I.loc
 obtain ⟨y,j⟩:=u.any i I.free (by simp)
 exact I.step (g':=s.gens) (d':=s.drawn) (ch:=[]) (fun _ z=>nomatch z) (fun b o _ g _ e n=>u.keep b o e n g (by simp)) (fun b o _ g _ e n=>u.slot b o e n g (by simp)) (fun b o _ e n=>u.free b o e n (by simp)) (fun b o _ e=>u.there b o e (by simp)) u.tups u.frzs u.tbls (fun w l=>by
  obtain ⟨x,d,c,a,p⟩:=l
  rw [i] at a;cases a
  exact ⟨_,d,c,j,p⟩) h I.bare
theorem Inv.call {g':Array a1M}{t':Nat}{d':Drawn}{ch:List Addr}(I:Inv X a3J σ H s)(u:Un (gI X.stack) ch H H' s.heap h')(j:HOk X.prog X.w H' h')(v:YE g')
  (a:∀ b∈ch,(b∈X.ex\/X.s₀.heap.objs.size<=b)/\b≠X.env.locals/\(∀ x c,X.env.cells.lookup x=some c->c≠b)/\∀ p∈X.pn++a3J,p.1≠b) :
  Inv X a3J σ H' { s with heap:=h',gens:=g',drawn:=d',toks:=t' }:=by
 obtain ⟨m,⟨o,B,A,l,r⟩,_⟩:=id I.loc
 obtain ⟨J,i⟩:=u.any l I.free fun z=>(a _ z).2.1 rfl
 exact I.step (ch:=ch) a (fun b o i q hc e n=>u.keep b o e n (fun z=>(T1.mp (I.stkSub b z)).elim i q) hc) (fun b o _ _ hc e n=>u.any e n hc) (fun b o hc e n=>u.free b o e n hc) (fun b o hc e=>u.there b o e hc) u.tups u.frzs u.tbls (fun E w=>by
  obtain ⟨G,h,g,d,y⟩:=w
  rw [l] at d;cases d
  exact ⟨_,h,g,i,y⟩) j v
theorem Inv.turned {t':Nat}{a:Addr}(I:Inv X a3J σ H s)(k:∀ b o,b≠a->s.heap.get? b=some o->h'.get? b=some o)(B:H a=none)(g:a≠X.env.locals)
  (j:a∈X.ex\/X.s₀.heap.objs.size<=a)(l:∀ x c,X.env.cells.lookup x=some c->c≠a)(w:∀ p∈X.pn++a3J,p.1≠a):Inv X a3J σ H { s with heap:=h',toks:=t' }:=by
 have d:∀ b u,H b=some u->b≠a:=fun b u e z=>by rw [z,B] at e;cases e
 refine I.step (g':=s.gens) (d':=s.drawn) (ch:=[a]) (fun b y=>?_) (fun b o _ _ hc e _=>k b o (fun z=>hc (by simp [z])) e) (fun b o _ _ hc e _=>⟨o.slots,k b o (fun z=>hc (by simp [z])) e⟩) (fun _ _ _ _ n=>n)
  (fun b o hc e=>⟨o,k b o (fun z=>hc (by simp [z])) e⟩) (fun _ _ e=>e) (fun _ _ _ e=>e) (fun b G e=>⟨#[],by rw [e];simp⟩) (fun m A=>?_) (fun b u e=>?_) I.bare
 ·have e:b=a:=by simpa using y
  subst e
  exact ⟨j,g,l,w⟩
 ·obtain ⟨o,i,h,E,r⟩:=A
  exact ⟨o,i,h,k _ o (Uu g) E,r⟩
 ·refine (I.hok b u e).stay (fun c v hc q=>k c v ?_ q) (fun _ q=>q) fun _ _ q=>q
  rcases hc with z|z
  ·rw [z];exact d b u e
  ·exact d c _ z
theorem Inv.tok (I:Inv X a3J σ H s)(t:Nat):Inv X a3J σ H { s with toks:=t }:=I.un (h':=s.heap) (t':=t) Un.refl I.hok
theorem Inv.kept {t':Nat}(I:Inv X a3J σ H s)(k:∀ b u,s.heap.get? b=some u->h'.get? b=some u):Inv X a3J σ H { s with heap:=h',toks:=t' }:=I.un (Un.kept k) (I.hok.kept k)
theorem Inv.laid {a:Addr}{o:HO}{t':Nat}(I:Inv X a3J σ H s)(k:∀ b u,s.heap.get? b=some u->h'.get? b=some u)(c:s.heap.objs.size<=a)(new:ObjOk X.prog X.w (aO H a o) h' a o) :
  Inv X a3J σ (aO H a o) { s with heap:=h',toks:=t' }:=I.un (Un.laid k c (I.hok.fresh c)) (I.hok.laid k c new)
theorem Inv.write {x e:Addr}{o:HO}{t':Nat}(I:Inv X a3J σ H s)(d:oX (H x))(c:e=x\/H e=some (.own x))(k:∀ b u,b≠e->s.heap.get? b=some u->h'.get? b=some u)(a:∃ u,h'.get? e=some u)
  (new:ObjOk X.prog X.w (aO H x o) h' x o):Inv X a3J σ (aO H x o) { s with heap:=h',toks:=t' }:=I.un (Un.write d c k a) (I.hok.write d c k a new)
theorem Inv.weak {a:List (Option V)}(I:Inv X a3J σ H s)(g:a.length=σ.length)(w:∀ (i:Nat) v,a[i]? = some (some v)->σ[i]? = some (some v)):Inv X a3J a H s:=
 ⟨I.ok,I.os,I.bare,I.base,let ⟨m,h,b⟩:=I.loc;⟨m,h,fun i x v c d e=>b i x v c (w i v d) e⟩,I.cell,I.free,I.freeC,I.pin,I.hok,g.trans I.len⟩
theorem Inv.pins_of {a:List (Addr×Obj)}(I:Inv X a3J σ H s)(h:∀ p∈a,s.heap.get? p.1=some p.2/\H p.1=none/\p.1≠X.env.locals/\p.1∉X.fs/\∀ v,p.2.data≠.cell v):Inv X a σ H s:=
 ⟨I.ok,I.os,I.bare,I.base,I.loc,I.cell,I.free,I.freeC,fun p b=>(U7.mp b).elim (fun z=>I.pin p (a0q _ z)) (h p),I.hok,I.len⟩
theorem zX {N:List Str}(e:N.Nodup){i j:Nat}{x:Str}(a:N[i]? = some x)(b:N[j]? = some x):i=j:=by
 obtain ⟨g,c⟩:=Tf.mp a
 obtain ⟨h,d⟩:=Tf.mp b
 exact (a1z e).mp (c.trans d.symm)
theorem zY {M:a3H}{A:Ug}{E:Te->Th->Prop}{i:Nat}{x:Str}{v:V}{u:Te}{Q:Unit->Th->Prop}(I:Inv X a3J σ H s)(hN:X.N.Nodup)(Z:X.N[i]? = some x)(B:Loc X.env.scope x)(r:RelV v u)
  (h:∀ s',Inv X a3J (σ.set i (some v)) H s'->(∃ a,VP a s.heap s'.heap/\(a=X.env.locals\/X.env.cells.lookup x=some a))->Q () s')(hf:X.fn x=true\/X.env.scope.names.lookup x=some .local:=by first|exact .inl rfl|exact .inr rfl|assumption):TX M A (storeName X.env x u) Q E s:=by
 obtain ⟨m,hn,hl⟩:=id I.loc
 have Y:(X.env.scope.kind == .class||(X.env.scope.kind == .module&&X.env.locals != X.env.globals))=false:=by rw [I.ok.kind];rfl
 have K:i<σ.length:=by rw [I.len];exact (Tf.mp Z).1
 have cne:=I.cne
 have w:∀ {a:Addr}{h':UW},(∃ o,s.heap.get? a=some o/\H a=none)->VP a s.heap h'->HOk X.prog X.w H h':=fun {a h'} ha g b ob e=>by
  obtain ⟨_,_,G⟩:=ha
  refine (I.hok b ob e).stay (fun c w' hc q=>(g.2 c ?_).trans q) (fun _ q=>q) fun _ _ q=>q
  rintro rfl
  rcases hc with rfl|hc
  ·rw [G] at e;cases e
  ·rw [G] at hc;cases hc
 rcases B with L|L
 ·refine wpAny_storeName_local L hn (fun h' hn' g=>?_) Y
  obtain ⟨oL,_,_,hoL,_⟩:=id hn
  refine h _ ⟨I.ok,I.os,I.bare,⟨fun b o e n N B=>?_,fun b o e n N B=>?_,I.base.free,fun b o e B=>?_,I.base.tups,I.base.frzs,I.base.tbls⟩,⟨_,hn',fun j y v' l J e3=>?_⟩,fun y c e=>?_,I.free,I.freeC,fun p hp=>?_,w ⟨oL,hoL,I.free⟩ g,by simpa using I.len⟩ ⟨_,g,.inl rfl⟩
  ·exact (g.2 b (TY (T9 (TB e) I.ok.above))).trans (I.base.keep b o e n N B)
  ·obtain ⟨sl,l⟩:=I.base.slot b o e n N B
   exact ⟨sl,(g.2 b (TY (T9 (TB e) I.ok.above))).trans l⟩
  ·obtain ⟨o',l⟩:=I.base.there b o e B
   exact ⟨o',(g.2 b (TY (T9 (TB e) I.ok.above))).trans l⟩
  ·by_cases R:j=i
   ·subst R
    rw [Z] at l;cases l
    rw [TU K] at J
    cases J
    exact ⟨u,r,.inl ⟨L,by simp⟩⟩
   ·rw [Tv (Uu R)] at J
    obtain ⟨u',r',q⟩:=hl j y v' l J e3
    refine ⟨u',r',?_⟩
    rcases q with ⟨k,e⟩|⟨k,c,e,z⟩
    ·refine .inl ⟨k,?_⟩
     have:y≠x:=fun e=>R (zX hN l (e ▸ Z))
     simp [this,e]
    ·exact .inr ⟨k,c,e,z.sameBut g (cne y c e)⟩
  ·obtain ⟨w',z⟩:=I.cell y c e
   exact ⟨w',z.sameBut g (cne y c e)⟩
  ·obtain ⟨e,n,ne,nf,d⟩:=I.pin p hp
   exact ⟨(g.2 p.1 ne).trans e,n,ne,nf,d⟩
 ·have O:X.fn x=true:=by
   rcases hf with z|z
   ·exact z
   ·rw [z] at L;cases L
  obtain ⟨c,hc⟩:=I.ok.has x (.inl L)
  obtain ⟨w',z⟩:=I.cell x c hc
  refine wpAny_storeName_cell I.ok.kind L hc z (fun h' T g=>?_)
  obtain ⟨oc,hoc,hocd⟩:=id z
  refine h { s with heap:=h' } ⟨I.ok,I.os,I.bare,⟨fun b o e n N B=>?_,fun b o e n N B=>?_,I.base.free,fun b o e B=>?_,I.base.tups,I.base.frzs,I.base.tbls⟩,⟨m,hn.sameBut g (Uu (cne x c hc)),fun j y v' l J e3=>?_⟩,fun y c' e=>?_,I.free,I.freeC,fun p hp=>?_,w ⟨oc,hoc,I.freeC x c hc⟩ g,by simpa using I.len⟩ ⟨c,g,.inr hc⟩
  ·exact (g.2 b (TY (T9 (TB e) (I.ok.cab x c O hc)))).trans (I.base.keep b o e n N B)
  ·obtain ⟨sl,l⟩:=I.base.slot b o e n N B
   exact ⟨sl,(g.2 b (TY (T9 (TB e) (I.ok.cab x c O hc)))).trans l⟩
  ·obtain ⟨o',l⟩:=I.base.there b o e B
   exact ⟨o',(g.2 b (TY (T9 (TB e) (I.ok.cab x c O hc)))).trans l⟩
  ·by_cases R:j=i
   ·subst R
    rw [Z] at l;cases l
    rw [TU K] at J
    cases J
    exact ⟨u,r,.inr ⟨.inl L,c,hc,T⟩⟩
   ·rw [Tv (Uu R)] at J
    obtain ⟨u',r',q⟩:=hl j y v' l J e3
    refine ⟨u',r',?_⟩
    rcases q with q|⟨k,c',e,z'⟩
    ·exact .inl q
    ·refine .inr ⟨k,c',e,z'.sameBut g ?_⟩
     rintro rfl
     exact R (zX hN l (I.ok.inj _ _ _ e hc ▸ Z))
  ·by_cases U:c'=c
   ·subst U;exact ⟨_,T⟩
   ·obtain ⟨w2,z2⟩:=I.cell y c' e
    exact ⟨w2,z2.sameBut g U⟩
  ·obtain ⟨e,n,ne,nf,d⟩:=I.pin p hp
   refine ⟨(g.2 p.1 ?_).trans e,n,ne,nf,d⟩
   intro q
   rw [q,hoc] at e
   have q':oc=p.2:=TL e
   exact d w' (by rw [<- q'];exact hocd)
theorem zZ {M:a3H}{A:Ug}{E:Te->Th->Prop}{i:Nat}{x:Str}{v:V}{u:Te}{Q:Unit->Th->Prop}(I:Inv X a3J σ H s)(c:X.N.Nodup)(e:X.N[i]? = some x)(g:Loc X.env.scope x)(r:RelV v u)
  (h:∀ a,Inv X a3J (σ.set i (some v)) H a->Q () a)(d:X.fn x=true\/X.env.scope.names.lookup x=some .local:=by first|exact .inl rfl|exact .inr rfl|assumption):TX M A (storeName X.env x u) Q E s:=
 zY I c e g r (fun a b _=>h a b) d
end
noncomputable abbrev XK:=Te->Option Addr->Hp->Prop
noncomputable abbrev St:=List (Option V)
noncomputable abbrev VK:=V->Hp->Prop
noncomputable abbrev TE:=St->Hp->VK->Prop
noncomputable abbrev TT:=St->Hp->(Bool->Hp->Prop)->Prop
noncomputable abbrev TA:=St->Hp->(List V->Hp->Prop)->Prop
structure Ends where
 nx:St->Hp->Prop
 rt:VK
 bk:St->Hp->Prop:=fun _ _=>False
 ct:St->Hp->Prop:=fun _ _=>False
noncomputable abbrev TS:=Ends->St->Hp->Prop
noncomputable def EP (X:Cx)(a3J:List (Addr×Obj))(σ:St)(Q:VK)(u:Te)(b:Th):Prop:=∃ v a,Inv X a3J σ a b/\RelV v u/\Q v a
noncomputable def TP (X:Cx)(a3J:List (Addr×Obj))(σ:St)(Q:Bool->Hp->Prop)(b:Bool)(c:Th):Prop:=∃ a,Inv X a3J σ a c/\Q b a
noncomputable def AP (X:Cx)(a3J:List (Addr×Obj))(σ:St)(Q:List V->Hp->Prop)(us:List Te)(b:Th):Prop:=∃ vs a,Inv X a3J σ a b/\Vals vs us/\Q vs a
noncomputable def SP (X:Cx)(a3J:List (Addr×Obj))(D:Ends)(f:Flow)(c:Th):Prop:=
 match f with
 | .next=>∃ a b,Inv X a3J a b c/\D.nx a b
 | .brk=>∃ a b,Inv X a3J a b c/\D.bk a b
 | .cont=>∃ a b,Inv X a3J a b c/\D.ct a b
 | .ret u=>∃ v a b,Inv X a3J a b c/\RelV v u/\D.rt v b
noncomputable def PE (X:Cx)(e:Expr)(t:TE):Prop:=
 ∀ (a3J:List (Addr×Obj))(s:Th)(σ:St)(H:Hp)(Q:VK),Inv X a3J σ H s->t σ H Q->TX (T7 X.prog X.w) X.A (eval e X.env) (EP X a3J σ Q) X.xe s
noncomputable def PT (X:Cx)(e:Expr)(t:TT):Prop:=
 ∀ (a3J:List (Addr×Obj))(s:Th)(σ:St)(H:Hp)(Q:Bool->Hp->Prop),Inv X a3J σ H s->t σ H Q->TX (T7 X.prog X.w) X.A (a0X e X.env (eval e X.env)) (TP X a3J σ Q) X.xe s
noncomputable def PW (X:Cx)(e:Expr)(t:TT):Prop:=
 ∀ (a:a1a Te)(a3J:List (Addr×Obj))(s:Th)(σ:St)(H:Hp)(Q:Bool->Hp->Prop),Inv X a3J σ H s->t σ H Q->TX (T7 X.prog X.w) X.A (a0X e X.env a) (TP X a3J σ Q) X.xe s
theorem PW.pt {X:Cx}{e:Expr}{t:TT}(h:PW X e t):PT X e t:=h _
noncomputable def PA (X:Cx)(a:List Expr)(t:TA):Prop:=
 ∀ (pos:Vl)(a3J:List (Addr×Obj))(s:Th)(σ:St)(H:Hp)(Q:List V->Hp->Prop),Inv X a3J σ H s->t σ H Q->TX (T7 X.prog X.w) X.A (spliced (Vv pos (T8 a X.env))) (AP X a3J σ Q) X.xe s
noncomputable def PS (X:Cx)(st:Stmt)(t:TS):Prop:=
 ∀ (a3J:List (Addr×Obj))(s:Th)(σ:St)(H:Hp)(D:Ends),Inv X a3J σ H s->t D σ H->TX (T7 X.prog X.w) X.A (exec st X.env) (SP X a3J D) X.xe s
noncomputable def PSs (X:Cx)(st:List Stmt)(t:TS):Prop:=
 ∀ (a3J:List (Addr×Obj))(s:Th)(σ:St)(H:Hp)(D:Ends),Inv X a3J σ H s->t D σ H->TX (T7 X.prog X.w) X.A (execs st X.env) (SP X a3J D) X.xe s
theorem aW {c:Type}{t:a1a c}{Q b:c->Th->Prop}{M:a3H}{A:Ug}{E:Te->Th->Prop}{s:Th}(h:TX M A t Q E s)(d:∀ a s,Q a s->b a s):TX M A t b E s:=Uy h d fun _ _ x=>x
end L2
namespace L2
open PySem PySem.Spec PyProof.Rows
section
variable {X:Cx}
noncomputable def z4 (i:Nat):TE:=fun σ H Q=>∃ v,σ[i]? = some (some v)/\Q v H
noncomputable def tC (v:V):TE:=fun _ H Q=>Q v H
theorem FH {i:Nat}{x:Str}{pos:Vl}(j:X.N[i]? = some x)(q:m7 X.env.scope x)(hd:(x == ("__debug__":Str))=false:=by decide) (g:(x == ("__classdict__":Str))=false:=by decide):PE X (.Name x pos) (z4 i):=by
 intro d s w H Q I h
 obtain ⟨v,e,h⟩:=h
 obtain ⟨m,p,n⟩:=I.loc
 obtain ⟨u,r,l⟩:=n i x v j e q
 have aS:EP X d w Q u s:=⟨v,H,I,r,h⟩
 rcases l with ⟨b,o⟩|⟨b,c,hc,a⟩
 ·exact a1V (wpAny_loadName_local I.ok.kind b p o aS) hd
 ·rcases b with b|b
  ·exact a1V (wpAny_loadName_cell I.ok.kind b hc a aS) hd
  ·exact a1V (wpAny_loadName_free I.ok.kind b hc a aS g) hd
theorem FI {i j pos}:PE X (.Constant (.int i) j pos) (tC (.int i)):=fun _ _ _ H _ I h=>wpAny_Constant_int ⟨.int i,H,I.tok _,⟨_,rfl⟩,h⟩
theorem FJ {b j pos}:PE X (.Constant (.bool b) j pos) (tC (.bl b)):=fun _ _ _ H _ I h=>Constant_bool ⟨.bl b,H,I,rfl,h⟩
theorem FK {j pos}:PE X (.Constant .none j pos) (tC .non):=fun _ _ _ H _ I h=>Constant_none ⟨.non,H,I,rfl,h⟩
theorem FL {x j pos}:PE X (.Constant (.str x) j pos) (tC (.str x)):=fun _ _ _ H _ I h=>Calls.Constant_str ⟨.str x,H,I.tok _,⟨_,rfl⟩,h⟩
noncomputable def Gl (X:Cx)(x:Str):Prop:=X.env.kindOf x=some .globalImplicit
theorem qV {E:Te->Th->Prop}{a3J:List (Addr×Obj)}{s:Th}{σ:St}{H:Hp}{x:Str}{u:Te}{pos:Vl}{Q:Te->Th->Prop}(I:Inv X a3J σ H s)(a:Gl X x)(b:X.mg x=some u)(h:Q u s)
  (hd:(x == ("__debug__":Str))=false:=by decide):TX (T7 X.prog X.w) X.A (eval (.Name x pos) X.env) Q E s:=
 Zf I.ok.kind a (Calls.loadGlobal_global (by rw [I.ok.glob];exact I.mod.glob.keeps I.bk) b h) hd
theorem jP {E:Te->Th->Prop}{a3J:List (Addr×Obj)}{s:Th}{σ:St}{H:Hp}{x:Str}{u:Te}{pos:Vl}{Q:Te->Th->Prop}(I:Inv X a3J σ H s)(c:Gl X x)(d:X.mg x=none)(g:Vh x=some u)(h:Q u s)
  (e:x ≠ "__name__":=by decide) (hd:(x == ("__debug__":Str))=false:=by decide):TX (T7 X.prog X.w) X.A (eval (.Name x pos) X.env) Q E s:=by
 obtain ⟨i,a,b⟩:=I.mod.blt
 exact Zf I.ok.kind c (Calls.loadGlobal_builtin (by rw [I.ok.glob];exact I.mod.glob.keeps I.bk) d (by rw [I.ok.blt];exact a.keeps I.bk) ((b x e).trans g) h) hd
theorem FN {x:Str}{v:V}{u:Te}{pos:Vl}(a:Gl X x)(b:X.mg x=some u)(r:RelV v u)(hd:(x == ("__debug__":Str))=false:=by decide):PE X (.Name x pos) (tC v):=
 fun _ _ _ H _ I h=>qV I a b ⟨v,H,I,r,h⟩ hd
theorem FP {x:Str}{v:V}{u:Te}{pos:Vl}(a:Gl X x)(b:X.mg x=none)(d:Vh x=some u)(r:RelV v u)(c:x ≠ "__name__":=by decide) (hd:(x == ("__debug__":Str))=false:=by decide):PE X (.Name x pos) (tC v):=
 fun _ _ _ H _ I h=>jP I a b d ⟨v,H,I,r,h⟩ c hd
variable {a b:Expr}{ta tb:TE}{pos:Vl}
variable {tA tB':TT}{bU:List Expr}
noncomputable def FQ (t u:TT):TT:=fun σ H Q=>t σ H fun c d=>if c=true then u σ d Q else Q false d
noncomputable def FR (t u:TT):TT:=fun σ H Q=>t σ H fun c d=>if c=true then Q true d else u σ d Q
noncomputable def FT (t:TT):TT:=fun σ H Q=>t σ H fun c d=>Q (!c) d
theorem FU (g:PT X a tA):PW X (.BoolOp .And [a] pos) tA:=by
 intro l d s i H Q I h
 refine isTrue_and (aW (g d s i H Q I h) fun c j e=>?_)
 cases c with
 | true=>exact isTrue_and_nil e
 | false=>exact e
theorem FV (g:PT X a tA):PW X (.BoolOp .Or [a] pos) tA:=by
 intro l d s i H Q I h
 refine isTrue_or (aW (g d s i H Q I h) fun c j e=>?_)
 cases c with
 | false=>exact isTrue_or_nil e
 | true=>exact e
theorem FW (l:PT X a tA)(m:PW X (.BoolOp .And (b::bU) pos) tB'):PW X (.BoolOp .And (a::b::bU) pos) (FQ tA tB'):=by
 intro o d s j H Q I h
 refine isTrue_and (aW (l d s j H _ I h) fun c n ⟨e,g,i⟩=>?_)
 cases c with
 | true=>exact m o d n j e Q g i
 | false=>exact ⟨e,g,i⟩
theorem FX (l:PT X a tA)(m:PW X (.BoolOp .Or (b::bU) pos) tB'):PW X (.BoolOp .Or (a::b::bU) pos) (FR tA tB'):=by
 intro o d s j H Q I h
 refine isTrue_or (aW (l d s j H _ I h) fun c n ⟨e,g,i⟩=>?_)
 cases c with
 | true=>exact ⟨e,g,i⟩
 | false=>exact m o d n j e Q g i
theorem FY (g:PT X a tA):PT X (.UnaryOp .Not a pos) (FT tA):=by
 intro d s i H Q I h
 exact isTrue_not (g d s i H (fun c e=>Q (!c) e) I h)
noncomputable def FZ (ta tb:TE):TE:=fun σ H Q=>ta σ H fun x d=>∃ c,x=.bl c/\if c=true then tb σ d Q else Q (.bl false) d
noncomputable def F0 (ta tb:TE):TE:=fun σ H Q=>ta σ H fun x d=>∃ c,x=.bl c/\if c=true then Q (.bl true) d else tb σ d Q
noncomputable def F1 (ta:TE):TE:=fun σ H Q=>ta σ H fun x d=>∃ c,x=.bl c/\Q (.bl (!c)) d
theorem F2 {op} {t:TE}(h:PE X a t):PE X (.BoolOp op [a] pos) t:=fun a3J s σ H Q I hw=>BoolOp_one (h a3J s σ H Q I hw)
theorem F3 (l:PE X a ta)(m:PE X (.BoolOp .And (b::bU) pos) tb):PE X (.BoolOp .And (a::b::bU) pos) (FZ ta tb):=by
 intro d s j H Q I h
 refine BoolOp_and (aW (l d s j H _ I h) fun v o ⟨x,g,i,n,e⟩=>?_)
 obtain ⟨c,rfl,e⟩:=e
 cases n
 refine VN ?_
 cases c with
 | true=>exact m d o j g Q i e
 | false=>exact ⟨.bl false,g,i,rfl,e⟩
theorem F4 (l:PE X a ta)(m:PE X (.BoolOp .Or (b::bU) pos) tb):PE X (.BoolOp .Or (a::b::bU) pos) (F0 ta tb):=by
 intro d s j H Q I h
 refine BoolOp_or (aW (l d s j H _ I h) fun v o ⟨x,g,i,n,e⟩=>?_)
 obtain ⟨c,rfl,e⟩:=e
 cases n
 refine VN ?_
 cases c with
 | false=>exact m d o j g Q i e
 | true=>exact ⟨.bl true,g,i,rfl,e⟩
theorem F5 (j:PE X a ta):PE X (.UnaryOp .Not a pos) (F1 ta):=by
 intro d s m H Q I h
 refine UnaryOp_ (aW (j d s m H _ I h) fun v n ⟨x,g,i,l,e⟩=>?_)
 obtain ⟨c,rfl,e⟩:=e
 cases l
 exact not_of (VN ⟨.bl (!c),g,i,rfl,e⟩)
noncomputable def F6 (t:TT)(ta tb:TE):TE:=fun σ H Q=>t σ H fun c d=>if c=true then ta σ d Q else tb σ d Q
theorem F7 {c:Expr}(hc:PT X c tA)(n:PE X a ta)(o:PE X b tb):PE X (.IfExp c a b pos) (F6 tA ta tb):=by
 intro e s g H Q I h
 refine wpAny_IfExp (aW (hc e s g H _ I h) fun d m ⟨i,j,l⟩=>?_)
 cases d with
 | true=>exact n e m g i Q j l
 | false=>exact o e m g i Q j l
end
end L2
namespace L2
open PySem PySem.Spec PyProof.Rows
noncomputable def SqL (K:Ta)(H:Hp)(a:Addr)(xs:List V):Prop:=
 Rd H a (.lst xs) \/
  ∃ (o:Obj)(its:Array Te)(n:Nat),K.lookup a=some o/\o.cls=.type "list"/\o.dict=none/\o.data=.seq its n/\its.size<=TC/\Vals xs its.toList
noncomputable def SqT (K:Ta)(H:Hp)(a:Addr)(xs:List V):Prop:=
 Rd H a (.tup xs) \/
  ∃ (o:Obj)(its:Array Te)(n:Nat),K.lookup a=some o/\o.cls=.type "tuple"/\o.dict=none/\o.data=.seq its n/\its.size<=TC/\Vals xs its.toList
noncomputable def F8:Te->Option V
 | .none=>some .non
 | .bool b=>some (.bl b)
 | .int i _=>some (.int i)
 | .str x _=>some (.str x)
 | .bytes b _=>some (.byt b)
 | .float b _=>some (.flt b)
 | .ref a=>some (.ref a)
 | .type n=>some (.ty n)
 | _=>none
theorem RelV.abs {x:V}{u:Te}(r:RelV x u):F8 u=some x:=by
 cases x with
 | non=>cases r;rfl
 | bl _=>cases r;rfl
 | int _=>obtain ⟨t,rfl⟩:=r;rfl
 | str _=>obtain ⟨t,rfl⟩:=r;rfl
 | byt _=>obtain ⟨t,rfl⟩:=r;rfl
 | flt _=>obtain ⟨t,rfl⟩:=r;rfl
 | ref _=>cases r;rfl
 | ty _=>cases r;rfl
theorem RelV.inj {x y:V}{u:Te}(r:RelV x u)(q:RelV y u):x=y:=TL (r.abs.symm.trans q.abs)
theorem Vals.inj:∀ {xs a:List V}{us:List Te},Vals xs us->Vals a us->xs=a
 | _,_,_,.nil,.nil=>rfl
 | _,_,_,.cons r t,.cons r' t'=>by rw [r.inj r',Vals.inj t t']
section
variable {X:Cx}{a3J:List (Addr×Obj)}{σ:St}{H:Hp}{s:Th}{a:Addr}{xs ys:List V}
theorem SqL.of {K:Ta}(h:H a=some (.lst xs)):SqL K H a xs:=.inl (.inl h)
theorem SqT.of {K:Ta}(h:H a=some (.tup xs)):SqT K H a xs:=.inl (.inl h)
theorem Inv.list (I:Inv X a3J σ H s)(h:SqL X.K H a xs):∃ its:List Te,Vals xs its/\PlainL s.heap a its.toArray/\xs.length<=TC:=by
 rcases h with h|⟨o,its,n,b,hc,hd,c,d,r⟩
 ·obtain ⟨z,its,n,r,e⟩:=h.ok I.hok
  exact ⟨its,r,⟨_,n,e,rfl,rfl,rfl⟩,z⟩
 ·refine ⟨its.toList,r,⟨o,n,I.kIn a o b,hc,hd,by simpa using c⟩,?_⟩
  have e:=r.length
  simp only [WA] at e
  omega
theorem Inv.tuple (I:Inv X a3J σ H s)(h:SqT X.K H a xs):∃ its:List Te,Vals xs its/\IsTup s.heap a its.toArray/\xs.length<=TC:=by
 rcases h with h|⟨o,its,n,b,hc,hd,c,d,r⟩
 ·obtain ⟨z,its,r,p⟩:=h.ok I.hok
  exact ⟨its,r,p.tup,z⟩
 ·refine ⟨its.toList,r,⟨o,I.kIn a o b,hc,n,by simpa using c⟩,?_⟩
  have e:=r.length
  simp only [WA] at e
  omega
theorem Inv.list_inj (I:Inv X a3J σ H s)(h:SqL X.K H a xs)(h':SqL X.K H a ys):xs=ys:=by
 obtain ⟨c,r,⟨o,n,e,_,_,d⟩,_⟩:=I.list h
 obtain ⟨b,j,⟨m,l,i,_,_,g⟩,_⟩:=I.list h'
 rw [e] at i;cases i
 rw [d] at g
 injection g with d1 _
 have:c=b:=by simpa using congrArg a2i d1
 subst this
 exact r.inj j
theorem Inv.tuple_inj (I:Inv X a3J σ H s)(h:SqT X.K H a xs)(h':SqT X.K H a ys):xs=ys:=by
 obtain ⟨c,r,⟨o,e,_,n,d⟩,_⟩:=I.tuple h
 obtain ⟨b,j,⟨m,i,_,l,g⟩,_⟩:=I.tuple h'
 rw [e] at i;cases i
 rw [d] at g
 injection g with d1 _
 have:c=b:=by simpa using congrArg a2i d1
 subst this
 exact r.inj j
end
noncomputable abbrev Cx.wish (X:Cx)(E:Te->Th->Prop):Cx:={ X with xe:=E }
noncomputable abbrev Cx.nox (X:Cx):Cx:=X.wish fun _ _=>False
theorem Cx.Ok.wish {X:Cx}(ok:X.Ok)(E:Te->Th->Prop):(X.wish E).Ok:=
 ⟨ok.mod,ok.kind,ok.glob,ok.blt,ok.above,ok.inj,ok.has,ok.cab,ok.hd,ok.frames,ok.stk,ok.exf,ok.bs,ok.bsz,ok.noex,ok.exfs,ok.funs,ok.frf⟩
theorem Cx.Ok.unwish {X:Cx}{E:Te->Th->Prop}(ok:(X.wish E).Ok):X.Ok:=
 ⟨ok.mod,ok.kind,ok.glob,ok.blt,ok.above,ok.inj,ok.has,ok.cab,ok.hd,ok.frames,ok.stk,ok.exf,ok.bs,ok.bsz,ok.noex,ok.exfs,ok.funs,ok.frf⟩
section
variable {X:Cx}{a3J:List (Addr×Obj)}{σ:St}{H:Hp}{s:Th}{E:Te->Th->Prop}
theorem Inv.wish (I:Inv X a3J σ H s)(E:Te->Th->Prop):Inv (X.wish E) a3J σ H s:=⟨I.ok.wish E,I.os,I.bare,I.base,I.loc,I.cell,I.free,I.freeC,I.pin,I.hok,I.len⟩
theorem Inv.unwish (I:Inv (X.wish E) a3J σ H s):Inv X a3J σ H s:=⟨I.ok.unwish,I.os,I.bare,I.base,I.loc,I.cell,I.free,I.freeC,I.pin,I.hok,I.len⟩
theorem SP.unwish {D:Ends}{f:Flow}{c:Th}(h:SP (X.wish E) a3J D f c):SP X a3J D f c:=by
 cases f with
 | next=>obtain ⟨a,b,I,q⟩:=h;exact ⟨a,b,I.unwish,q⟩
 | brk=>obtain ⟨a,b,I,q⟩:=h;exact ⟨a,b,I.unwish,q⟩
 | cont=>obtain ⟨a,b,I,q⟩:=h;exact ⟨a,b,I.unwish,q⟩
 | ret u=>obtain ⟨v,a,b,I,r,q⟩:=h;exact ⟨v,a,b,I.unwish,r,q⟩
theorem PE.nox {e:Expr}{t:TE}(h:PE X.nox e t):PE X e t:=fun a3J s σ H Q I hw=>
 Uy (h a3J s σ H Q (I.wish _) hw) (fun _ _ ⟨v,a,b,r,q⟩=>⟨v,a,b.unwish,r,q⟩) fun _ _ z=>Vb z
theorem PT.nox {e:Expr}{t:TT}(h:PT X.nox e t):PT X e t:=fun a3J s σ H Q I hw=>
 Uy (h a3J s σ H Q (I.wish _) hw) (fun _ _ ⟨a,b,q⟩=>⟨a,b.unwish,q⟩) fun _ _ z=>Vb z
theorem PSs.nox {st:List Stmt}{t:TS}(h:PSs X.nox st t):PSs X st t:=fun a3J s σ H D I hw=>
 Uy (h a3J s σ H D (I.wish _) hw) (fun _ _ q=>q.unwish) fun _ _ z=>Vb z
end
section
variable {X:Cx}{st:Stmt}{bU:List Stmt}{t u:TS}{e:Expr}{te:TE}{pos:Vl}
noncomputable def z5:TS:=fun D σ H=>D.nx σ H
noncomputable def F9 (t u:TS):TS:=fun D σ H=>t { D with nx:=u D } σ H
theorem Ga:PSs X [] z5:=fun _ _ σ H _ I h=>ZG ⟨σ,H,I,h⟩
theorem Gb (g:PS X st t)(i:PSs X bU u):PSs X (st::bU) (F9 t u):=by
 intro a s l H D I h
 refine a2v (aW (g a s l H { D with nx:=u D } I h) fun f j q=>?_)
 cases f with
 | next=>
  obtain ⟨b,c,d,q⟩:=q
  exact i a j b c D d q
 | ret v=>exact q
 | brk=>exact q
 | cont=>exact q
theorem Ge (b:PS X st t):PSs X [st] t:=by
 intro a s c H D I h
 refine a2v (aW (b a s c H D I h) fun f d q=>?_)
 cases f with
 | next=>exact ZG q
 | ret v=>exact q
 | brk=>exact q
 | cont=>exact q
theorem Gf:PS X (.Pass pos) z5:=fun _ _ σ H _ I h=>wpAny_Pass ⟨σ,H,I,h⟩
theorem Inv.quiet {a3J:List (Addr×Obj)}{σ:St}{H:Hp}{s:Th}(I:Inv X a3J σ H s):interactive X.env=false:=by simp [interactive,I.ok.kind]
noncomputable def Gh (te:TE):TS:=fun D σ H=>te σ H fun _ a=>D.nx σ a
theorem Gi (g:PE X e te)(i:Xi e none pos.line X.env=pure false:=by rfl):PS X (.Expr e pos) (Gh te):=by
 intro a s b H D I h
 exact wpAny_Expr_any (aW (g a s b H _ I h) fun v m ⟨x,c,d,l,j⟩=>⟨b,c,d,j⟩) I.quiet i
noncomputable def Gj (te:TE):TS:=fun D σ H=>te σ H D.rt
theorem Gk (g:PE X e te):PS X (.Return (some e) pos) (Gj te):=by
 intro a s b H D I h
 exact wpAny_Return_some (aW (g a s b H _ I h) fun v l ⟨x,c,d,j,i⟩=>⟨x,b,c,d,j,i⟩)
noncomputable def Gm:TS:=fun D _ H=>D.rt .non H
theorem Gn:PS X (.Return none pos) Gm:=fun _ _ σ H _ I h=>wpAny_Return_none ⟨.non,σ,H,I,rfl,h⟩
noncomputable def Gp (c:TT)(t u:TS):TS:=fun D σ H=>c σ H fun b a=>if b=true then t D σ a else u D σ a
theorem Gq {c:Expr}{a b:List Stmt}{o:TT}(hc:PT X c o)(p:PSs X a t)(q:PSs X b u):PS X (.If c a b pos) (Gp o t u):=by
 intro g s i H D I h
 refine wpAny_If (aW (hc g s i H _ I h) fun d n ⟨j,l,m⟩=>?_)
 cases d with
 | true=>exact p g n i j D l m
 | false=>exact q g n i j D l m
end
noncomputable abbrev TG:=V->St->Hp->(St->Hp->Prop)->Prop
noncomputable abbrev m8:=List V->St->Hp->(St->Hp->Prop)->Prop
noncomputable def PG (X:Cx)(a:Expr)(t:TG):Prop:=
 ∀ (a3J:List (Addr×Obj))(s:Th)(σ:St)(H:Hp)(v:V)(u:Te)(Q:St->Hp->Prop),Inv X a3J σ H s->RelV v u->t v σ H Q->
  TX (T7 X.prog X.w) X.A (YX a X.env u) (fun _ d=>∃ b c,Inv X a3J b c d/\Q b c) X.xe s
noncomputable def oY (X:Cx)(d:List Expr)(t:m8):Prop:=
 ∀ (a3J:List (Addr×Obj))(s:Th)(σ:St)(H:Hp)(vs:List V)(us:List Te)(Q:St->Hp->Prop),Inv X a3J σ H s->Vals vs us->t vs σ H Q->
  TX (T7 X.prog X.w) X.A (assignInOrder ((VQ d X.env).map (·.2)) us) (fun _ c=>∃ a b,Inv X a3J a b c/\Q a b) X.xe s
section
variable {X:Cx}{pos:Vl}
noncomputable def uI (i:Nat):TG:=fun v σ H Q=>Q (σ.set i (some v)) H
theorem z6 {i:Nat}{x:Str}(c:X.N.Nodup)(e:X.N[i]? = some x)(g:Loc X.env.scope x)(d:X.fn x=true\/X.env.scope.names.lookup x=some .local:=by first|exact .inl rfl|exact .inr rfl|assumption):PG X (.Name x pos) (uI i):=by
 intro b s l H v u Q I r h
 exact a2l (zZ I c e g r (fun j a=>⟨_,H,a,h⟩) d)
noncomputable def z7:m8:=fun vs σ H Q=>vs=[]/\Q σ H
noncomputable def z8 (t:TG)(u:m8):m8:=fun vs σ H Q=>∃ v r,vs=v::r/\t v σ H fun a b=>u r a b Q
theorem Gs:oY X [] z7:=by
 intro a s b H d c Q I r h
 obtain ⟨e,h⟩:=h
 subst e
 cases r
 exact assignInOrder_nil ⟨b,H,I,h⟩
theorem Gu {e:Expr}{b:List Expr}{t:TG}{u:m8}(j:PG X e t)(l:oY X b u)
  (m:(VQ (e::b) X.env).map (·.2)=YX e X.env::(VQ b X.env).map (·.2):=by rfl):oY X (e::b) (z8 t u):=by
 intro a s q H y w Q I r h
 obtain ⟨v,x,i,h⟩:=h
 subst i
 cases r with
 | cons r o=>
  rw [m]
  refine assignInOrder_cons (aW (j a s q H _ _ _ I r h) fun _ p ⟨c,d,g,n⟩=>?_)
  exact l a p c d _ _ Q g o n
noncomputable def z9 (b:TE)(g:TG):TS:=fun D σ H=>b σ H fun x a=>g x σ a D.nx
theorem Gv {tg e:Expr}{b:TE}{g:TG}(l:PE X e b)(m:PG X tg g)(n:swapsWithSole [tg] e pos.line X.env=pure false:=by rfl)(hw:a0x [tg] e X.env=pure none:=by rfl)
  (j:(VQ [tg] X.env).map (·.2)=[YX tg X.env]:=by rfl):PS X (.Assign [tg] e pos) (z9 b g):=by
 intro a s c H D I h
 refine wpAny_Assign_stores (aW (l a s c H _ I h) fun v r ⟨x,d,i,p,o⟩=>?_) n hw
 rw [j]
 exact aW (m a r c d x v _ i p o) fun _ u q=>q
theorem Gw {i:Nat}{x:Str}{e:Expr}{c:TE}{a:Vl}(l:X.N.Nodup)(o:X.N[i]? = some x)(q:Loc X.env.scope x)(m:PE X e c)(p:Xi e (some (.Name x a)) pos.line X.env=pure false:=by rfl)(n:X.fn x=true\/X.env.scope.names.lookup x=some .local:=by first|exact .inl rfl|exact .inr rfl|assumption) :
  PS X (.Assign [.Name x a] e pos) (z9 c (uI i)):=by
 intro b s w H D I h
 refine wpAny_Assign_Name (aW (m b s w H _ I h) fun v z ⟨y,d,g,u,r⟩=>?_) p
 exact zZ g l o q u (fun A j=>⟨_,d,j,r⟩) n
end
section
variable {X:Cx}{pos:Vl}
end
structure It where
 go:Nat->Hp->Prop
 yld:Nat->Hp->V->Hp->Prop
 stop:Nat->Hp->Prop
noncomputable def gJ (X:Cx)(a3J:List (Addr×Obj))(H:Hp)(b:Addr):Prop:=
 H b=none/\b≠X.env.locals/\b∉X.fs/\(b∈X.ex\/X.s₀.heap.objs.size<=b)/\(∀ x c,X.env.cells.lookup x=some c->c≠b)/\∀ p∈X.pn++a3J,p.1≠b
theorem Inv.fpOk {X:Cx}{a3J:List (Addr×Obj)}{σ:St}{H d:Hp}{s:Th}{b:Addr}(I:Inv X a3J σ H s)(a:s.heap.objs.size<=b)(g:d b=none):gJ X a3J d b:=by
 refine ⟨g,Xr (T9 I.lt a),I.nofs a,.inr (UE I.sz a),fun x c e z=>?_,fun p h z=>?_⟩
 ·obtain ⟨v,q⟩:=I.cell x c e
  exact absurd (T9 q.lt (by rw [z];exact a)) (VA _)
 ·exact absurd (T9 (TB (I.pin p h).1) (by rw [z];exact a)) (VA _)
noncomputable abbrev Qc (X:Cx):Prop:=X.calm=true
structure Turn (q:Cx->Prop)(P:T3)(w:Uk)(K:Ta)(tg:Expr)(J:It)(fp:List Addr)(it:Addr)(tn:Nat->UW->Prop):Prop where
 mem:it∈fp
 obj:∀ i h,tn i h->∀ b∈fp,∃ o,h.get? b=some o/\∀ v,o.data≠.cell v
 keep:∀ i h h',tn i h->(∀ b∈fp,∀ o,h.get? b=some o->h'.get? b=some o)->tn i h'
 item:∀ (X:Cx),X.prog=P->X.w=w->X.K=K->q X->∀ (i:Nat)(a3J:List (Addr×Obj))(s:Th)(σ:St)(H:Hp)(E:Te->Th->Prop),Inv X a3J σ H s->(∀ b∈fp,gJ X a3J H b)->tn i s.heap->J.go i H->
  TX (T7 P w) X.A (Zo (.ref it)) (fun r s1=>∃ u,r=some u /\
   TX (T7 P w) X.A (Yo tg (.ref it) u) (fun _ s2=>∃ x H',Inv X a3J σ H' s2/\RelV x u/\J.yld i H x H'/\tn (i+1) s2.heap/\∀ b∈fp,H' b=none) E s1) E s
 done:∀ (X:Cx),X.prog=P->X.w=w->X.K=K->q X->∀ (i:Nat)(a3J:List (Addr×Obj))(s:Th)(σ:St)(H:Hp)(E:Te->Th->Prop),Inv X a3J σ H s->(∀ b∈fp,gJ X a3J H b)->tn i s.heap->J.stop i H->
  TX (T7 P w) X.A (Zo (.ref it)) (fun r s1=>r=none/\Inv X a3J σ H s1) E s
 self:∀ (A:Ug)(i:Nat)(s:Th)(Q:Te->Th->Prop)(E:Te->Th->Prop),tn i s.heap->Q (.ref it) s->TX (T7 P w) A (Zp (.ref it)) Q E s
noncomputable abbrev TI:=St->Hp->(It->Hp->Prop)->Prop
noncomputable def qW (q:Cx->Prop)(X:Cx)(a3J:List (Addr×Obj))(σ:St)(tg:Expr)(R:It->Hp->Prop)(c:Te)(g:Th):Prop:=
 ∃ (e:Addr)(d:List Addr)(h:Nat->UW->Prop)(J:It)(a:Hp),c=.ref e/\Inv X a3J σ a g/\Turn q X.prog X.w X.K tg J d e h/\h 0 g.heap/\(∀ b∈d,gJ X a3J a b)/\R J a
noncomputable abbrev Aa:=qW Qc
noncomputable def oZ (q:Cx->Prop)(X:Cx)(tg iter:Expr)(b:TI):Prop:=
 ∀ (a3J:List (Addr×Obj))(s:Th)(σ:St)(H:Hp)(R:It->Hp->Prop),Inv X a3J σ H s->b σ H R->
  TX (T7 X.prog X.w) X.A (eval iter X.env) (fun v a=>TX (T7 X.prog X.w) X.A (Zp v) (qW q X a3J σ tg R) X.xe a) X.xe s
noncomputable abbrev PI:=oZ Qc
theorem o3 {M:a3H}{A:Ug}{E:Te->Th->Prop}{s:Th}{tg:Expr}{b:Addr}{u:Te}{o:Obj}{n:String}{vs:Array Te}{Q:Unit->Th->Prop}(d:s.heap.get? b=some o)(hc:o.cls=.type n)(hd:o.data=.fields vs)
  (c:["enumerate","zip","dict_itemiterator","dict_reverseitemiterator","odict_iterator","itertools.zip_longest","itertools.pairwise"].contains n=false) (a:Q () s):TX M A (Yo tg (.ref b) u) Q E s:=by
 unfold Yo
 cases tg<;>first
  | exact Tr a
  | (cases u<;>first
    | exact Tr a
    | (refine Td (wpAny_load d ?_)
       rw [hc,hd]
       show TX M A (if (["enumerate","zip","dict_itemiterator","dict_reverseitemiterator","odict_iterator","itertools.zip_longest","itertools.pairwise"].contains n&&vs[0]? == some (XN _))=true then _ else _) Q E s
       rw [if_neg (by intro h;rw [c,a1S] at h;cases h)]
       exact Tr a))
noncomputable def uJ (K:Ta)(a:Addr):It:=
 ⟨fun i H=>∃ b x,SqL K H a b/\b[i]? = some x,fun i H x c=>c=H/\∀ b,SqL K H a b->b[i]? = some x,fun i H=>∃ b,SqL K H a b/\b.length<=i⟩
noncomputable def uK (K:Ta)(a:Addr):It:=
 ⟨fun i H=>∃ b x,SqT K H a b/\b[i]? = some x,fun i H x c=>c=H/\∀ b,SqT K H a b->b[i]? = some x,fun i H=>∃ b,SqT K H a b/\b.length<=i⟩
noncomputable def kP (lo:Int)(n:Nat):It:=⟨fun i _=>i<n,fun i H x a=>a=H/\x=.int (lo+i),fun i _=>n<=i⟩
theorem Gx {P:T3}{w:Uk}{K:Ta}{tg:Expr}(a j:Addr):Turn Qc P w K tg (uJ K a) [j] j (fun i h=>h.IsListIter j a i) where
 mem:=by simp
 obj:=fun i h st b g=>by
  have e:b=j:=by simpa using g
  subst e
  obtain ⟨o,e,c,d⟩:=st
  exact ⟨o,e,fun v z=>by rw [d] at z;cases z⟩
 keep:=fun i h n st k=>st.at fun o e=>k j (by simp) o e
 item:=by
  intro X M hw L hc i l s T H E I q st N
  subst M hw L
  obtain ⟨xs,x,r,O⟩:=N
  obtain ⟨Q,R,p,hz⟩:=I.list r
  obtain ⟨u,hu,ru⟩:=R.get O
  obtain ⟨y,A,Z,B,G,J⟩:=q j (by simp)
  refine a0P st p.isList (x:=u) (by simpa using hu) fun n m sb=>?_
  have U:Inv X l T H { s with heap:=n }:=I.turned (t':=s.toks) (fun b o g e=>(sb.2 b g).trans e) y A B G J
  obtain ⟨o,e,c,d⟩:=id m
  exact ⟨u,rfl,o3 (s:={ s with heap:=n }) e c d (by decide) ⟨x,H,U,ru,⟨rfl,fun ys hy=>by rw [I.list_inj hy r];exact O⟩,m,fun b g=>(q b g).1⟩⟩
 done:=by
  intro X M hw L hc i l s T H E I q st N
  subst M hw L
  obtain ⟨xs,r,O⟩:=N
  obtain ⟨Q,R,p,hz⟩:=I.list r
  obtain ⟨y,A,Z,B,G,J⟩:=q j (by simp)
  have hl:=R.length
  exact a1r (I.ok.hd hc) st p.isList (by simp;omega) fun n Y=>⟨rfl,I.turned (t':=s.toks) (fun b o g e=>Y b o g e) y A B G J⟩
 self:=fun _ _ _ _ _ st h=>wpAny_pyIter_listiter st h
theorem Gy {P:T3}{w:Uk}{K:Ta}{tg:Expr}(a j:Addr):Turn Qc P w K tg (uK K a) [j] j (fun i h=>h.IsTupleIter j a i) where
 mem:=by simp
 obj:=fun i h st b g=>by
  have e:b=j:=by simpa using g
  subst e
  obtain ⟨o,e,c,d⟩:=st
  exact ⟨o,e,fun v z=>by rw [d] at z;cases z⟩
 keep:=fun i h q st k=>st.at fun o e=>k j (by simp) o e
 item:=by
  intro X N hw M hc i m s T H E I r st O
  subst N hw M
  obtain ⟨xs,x,y,Q⟩:=O
  obtain ⟨l,R,p,hz⟩:=I.tuple y
  obtain ⟨u,hu,ru⟩:=R.get Q
  obtain ⟨A,B,Z,G,J,L⟩:=r j (by simp)
  refine wpAny_pyNext_tuple_item st (show s.heap.IsTuple a l.toArray from p) (x:=u) (by simpa using hu) fun q n sb=>?_
  have U:Inv X m T H { s with heap:=q }:=I.turned (t':=s.toks) (fun b o g e=>(sb.2 b g).trans e) A B G J L
  obtain ⟨o,e,c,d⟩:=id n
  exact ⟨u,rfl,o3 (s:={ s with heap:=q }) e c d (by decide) ⟨x,H,U,ru,⟨rfl,fun ys hy=>by rw [I.tuple_inj hy y];exact Q⟩,n,fun b g=>(r b g).1⟩⟩
 done:=by
  intro X N hw M hc i m s T H E I r st O
  subst N hw M
  obtain ⟨xs,y,Q⟩:=O
  obtain ⟨l,R,p,hz⟩:=I.tuple y
  obtain ⟨A,B,Z,G,J,L⟩:=r j (by simp)
  have hl:=R.length
  exact wpAny_pyNext_tuple_end (I.ok.hd hc) st (show s.heap.IsTuple a l.toArray from p) (by simp;omega) fun q Y=>⟨rfl,I.turned (t':=s.toks) (fun b o g e=>Y b o g e) A B G J L⟩
 self:=fun _ _ _ _ _ st h=>wpAny_pyIter_tupleiter st h
theorem Ab {P:T3}{w:Uk}{K:Ta}{tg:Expr}(a:Addr)(lo:Int)(n:Nat):Turn Qc P w K tg (kP lo n) [a] a (fun i h=>Xu h a (lo+(i:Nat) * 1) ((n:Int) - (i:Nat)) 1) where
 mem:=by simp
 obj:=fun i h st b c=>by
  have e:b=a:=by simpa using c
  subst e
  exact ⟨_,st,fun v z=>by
   have Q:TK _=ZQ v:=z
   cases Q⟩
 keep:=fun i h j st k=>k a (by simp) _ st
 item:=by
  intro X y hw x hc i d s G H E I l st A
  subst y hw x
  obtain ⟨m,p,M,q,r,u⟩:=l a (by simp)
  have W:=a2o (prog:=X.prog) (w:=X.w) (I.ok.hd hc) a lo 1 n
  refine W.item i s _ _ A st fun v j B N g O=>?_
  obtain ⟨t,rfl⟩:=N
  have J:Inv X d G H { s with heap:=j,toks:=B }:=I.turned (fun b o c e=>O b o (by simpa using c) e) m p q r u
  refine ⟨_,rfl,o3 (s:={ s with heap:=j,toks:=B }) (n:="range_iterator") g rfl rfl (by decide) ⟨.int (lo+i),H,J,⟨t,?_⟩,⟨rfl,rfl⟩,g,fun b c=>(l b c).1⟩⟩
  rw [Int.mul_one]
 done:=by
  intro X y hw x hc i d s G H E I l st A
  subst y hw x
  obtain ⟨m,p,M,q,r,u⟩:=l a (by simp)
  exact a0O (I.ok.hd hc) st (by have:n<=i:=A;omega) fun j L=>⟨rfl,I.turned (t':=s.toks) (fun b o c e=>L b o c e) m p q r u⟩
 self:=fun _ _ _ _ _ st h=>a0Q st h
end L2
namespace L2
open PySem PySem.Spec PyProof.Rows
section
variable {X:Cx}{tg:Expr}
theorem Ac {q:Cx->Prop}(tr:∀ (d:Addr)(lo:Int)(n:Nat),Turn q X.prog X.w X.K tg (kP lo n) [d] d (fun i h=>Xu h d (lo+(i:Nat) * 1) ((n:Int) - (i:Nat)) 1)){a3J:List (Addr×Obj)}{σ:St}{H:Hp}{s:Th}{R:It->Hp->Prop}{E:Te->Th->Prop}{lo a:Int}{t u v:Tok}{tk:Nat}(I:Inv X a3J σ H s)(l:-(2 ^ 62)<=lo)(m:lo<2 ^ 62)(p:-(2 ^ 62)<=a)(r:a<2 ^ 62)
  (w:R (kP lo (a - lo).toNat) H):TX (T7 X.prog X.w) X.A (Zp (.ref s.heap.objs.size)) (qW q X a3J σ tg R) E { s with heap:=s.heap.push { cls:=.type "range",data:=.fields #[.int lo t,.int a u,.int 1 v] },toks:=tk }:=by
 refine a1U (a1R ..) (small_one l m p r) ?_
 have c:Inv X a3J σ H { s with heap:=s.heap.push { cls:=.type "range",data:=.fields #[.int lo t,.int a u,.int 1 v] },toks:=tk }:=I.kept fun b o e=>Ti _ e
 refine ⟨(s.heap.push { cls:=.type "range",data:=.fields #[.int lo t,.int a u,.int 1 v] }).objs.size,[(s.heap.push { cls:=.type "range",data:=.fields #[.int lo t,.int a u,.int 1 v] }).objs.size],_,_,H,rfl,
  c.kept (t':=tk) fun b o e=>Ti _ e,tr _ lo (a - lo).toNat,?_,fun b x=>?_,w⟩
 ·have g:lo+((0:Nat):Int) * 1=lo:=by simp
  have j:(((a - lo).toNat:Nat):Int) - ((0:Nat):Int)=Ut lo a 1:=by rw [rangeSize_one];split<;>omega
  show Xu _ _ (lo+((0:Nat):Int) * 1) ((((a - lo).toNat:Nat):Int) - ((0:Nat):Int)) 1
  rw [g,j]
  exact TJ _ rfl
 ·have e:b=(s.heap.push { cls:=.type "range",data:=.fields #[.int lo t,.int a u,.int 1 v] }).objs.size:=by simpa using x
  subst e
  exact c.fpOk (Tt _) (c.hok.fresh (Tt _))
noncomputable def Gz (b:TA):TI:=fun σ H R=>b σ H fun vs a=>∃ j:Int,vs=[.int j]/\-(2 ^ 62)<=j/\j<2 ^ 62/\R (kP 0 j.toNat) a
noncomputable def GA (b:TA):TI:=fun σ H R=>b σ H fun vs a=>∃ i j:Int,vs=[.int i,.int j]/\(-(2 ^ 62)<=i/\i<2 ^ 62/\-(2 ^ 62)<=j/\j<2 ^ 62)/\R (kP i (j - i).toNat) a
theorem GB {q:Cx->Prop}(tr:∀ (c:Addr)(lo:Int)(n:Nat),Turn q X.prog X.w X.K tg (kP lo n) [c] c (fun i h=>Xu h c (lo+(i:Nat) * 1) ((n:Int) - (i:Nat)) 1)){a:Expr}{g:TA}{p pos:Vl}(o:Gl X "range") (u:X.mg "range" = none) (m:PA X [a] g)(v:T8 [a] X.env=[(false,eval a X.env)]:=by rfl):oZ q X tg (.Call (.Name "range" p) [a] [] pos) (Gz g):=by
 intro b s A H R I h
 refine Call_ (jP I o u a2c (Vi (aW (m pos b s A H _ I h) fun G E ⟨J,B,l,y,d⟩=>?_) v rfl))
 obtain ⟨j,e,d,w,x⟩:=d
 subst e
 cases y with
 | cons r z=>
  cases z
  obtain ⟨t,rfl⟩:=r
  exact call_range_1 (Ac tr l (by omega) (by omega) d w (by simpa using x))
theorem GC {a b:Expr}{m:TA}{p pos:Vl}(u:Gl X "range") (v:X.mg "range" = none) (o:PA X [a,b] m)(w:T8 [a,b] X.env=[(false,eval a X.env),(false,eval b X.env)]:=by rfl)(c:T8 [b] X.env=[(false,eval b X.env)]:=by rfl) :
  PI X tg (.Call (.Name "range" p) [a,b] [] pos) (GA m):=by
 intro d s E H R I h
 refine Call_ (jP I u v a2c (Vi (aW (o pos d s E H _ I h) fun L J ⟨M,G,n,B,g⟩=>?_) (by rw [w,c]) (by rw [c];rfl)))
 obtain ⟨i,j,e,⟨g,x,y,z⟩,q⟩:=g
 subst e
 cases B with
 | cons r l=>
  cases l with
  | cons A l=>
   cases l
   obtain ⟨t,rfl⟩:=r
   obtain ⟨K,rfl⟩:=A
   exact call_range_2 (Ac Ab n g x y z q)
noncomputable def GD (l:TI)(g:TG)(j:TS):TS:=fun D σ H=>l σ H fun J e=>∃ W:Nat->Nat->St->Hp->Prop,(∃ m,W 0 m σ e)/\∀ i m σ H,W i m σ H->
 (J.stop i H/\D.nx σ H)\/(J.go i H/\∃ N:St->Hp->Prop,(∀ b a,N b a->∃ d,d<m/\W (i+1) d b a)/\∀ x a,J.yld i H x a->g x σ a fun c h=>j { D with nx:=N,ct:=N,bk:=D.nx } c h)
noncomputable def o4 (a:List Addr)(h:UW):List (Addr×Obj):=a.filterMap fun b=>(h.get? b).map fun o=>(b,o)
theorem qX {a:List Addr}{h:UW}{b:Addr}{o:Obj}(c:b∈a)(e:h.get? b=some o):(b,o)∈o4 a h:=Yw.mpr ⟨b,c,by rw [e];rfl⟩
theorem GF {a:List Addr}{h:UW}{p:Addr×Obj}(g:p∈o4 a h):p.1∈a/\h.get? p.1=some p.2:=by
 obtain ⟨b,d,e⟩:=Yw.mp g
 cases q:h.get? b with
 | none=>rw [q] at e;cases e
 | some o=>
  rw [q] at e
  have c:(b,o)=p:=TL e
  subst c
  exact ⟨d,q⟩
theorem Inv.pinned {a3J:List (Addr×Obj)}{σ:St}{H:Hp}{s:Th}{a:List Addr}(I:Inv X a3J σ H s)(l:∀ b∈a,gJ X a3J H b)(m:∀ b∈a,∃ o,s.heap.get? b=some o/\∀ v,o.data≠.cell v):Inv X (a3J++o4 a s.heap) σ H s:=
 I.pins_of fun p n=>(U7.mp n).elim (fun z=>I.pin p (U2 _ z)) fun z=>by
  obtain ⟨g,e⟩:=GF z
  obtain ⟨h,i,j,_⟩:=l p.1 g
  obtain ⟨o,c,d⟩:=m p.1 g
  rw [e] at c;cases c
  exact ⟨e,h,i,j,d⟩
theorem Inv.unpinned {a3J pl:List (Addr×Obj)}{σ:St}{H:Hp}{s:Th}(I:Inv X (a3J++pl) σ H s):Inv X a3J σ H s:=I.pins_of fun p a=>I.pin p (U2 _ (a0q _ a))
theorem GG {iter:Expr}{body:List Stmt}{wi:TI}{g:TG}{tb:TS}{pos:Vl}(L:a2D (T7 X.prog X.w) X.A X.env X.xe)(hc:X.calm=true)(hi:PI X tg iter wi)(hg:PG X tg g)(q:PSs X body tb)
  (hs:∀ x,Wu iter X.env x=pure x:=by intro _;rfl):PS X (.For tg iter body [] pos) (GD wi g tb):=by
 intro c s σ H D I h
 refine wpAny_For (aW (hi c s σ H _ I h) fun v s1 h1=>aW h1 fun itv s2 h2=>?_) hs
 obtain ⟨it,G,tn,J,H2,e,I2,T,st2,f2,W,⟨m0,w0⟩,R⟩:=h2
 subst e
  -- what stays true of the iterator's objects through the loop
 have w:∀ {A:Hp},(∀ b∈G,A b=none)->∀ b∈G,gJ X c A b:=fun hn b q=>⟨hn b q,(f2 b q).2⟩
 refine codeAny_forLoop_any (fun n s'=>∃ i y A,Inv X c y A s'/\tn i s'.heap/\(∀ b∈G,A b=none)/\W i n y A) ?_ m0 ⟨0,σ,H2,I2,st2,fun b q=>(f2 b q).1,w0⟩
 rintro n s3 ⟨i,z,U,I3,O,K,w3⟩
 rcases R i n z U w3 with ⟨Q,qn⟩|⟨go,N,hN,step⟩
 ·refine Xw L (aW (T.done X rfl rfl rfl hc i c s3 z U X.xe I3 (w K) O Q) fun r s4 ⟨hr,I4⟩=>?_)
  subst hr
  exact ZG ⟨z,U,I4,qn⟩
 ·refine Xw L (aW (T.item X rfl rfl rfl hc i c s3 z U X.xe I3 (w K) O go) fun r s4 ⟨u,hr,h4⟩=>?_)
  subst hr
  refine Xw L (aW h4 fun _ s5 ⟨x,H5,I5,r5,y5,E,Z⟩=>?_)
  have Y:=I5.pinned (w Z) (T.obj _ _ E)
  refine Xw L (aW (hg _ s5 z H5 x u _ Y r5 (step x H5 y5)) fun _ s6 ⟨σ6,H6,I6,q6⟩=>?_)
  refine Xw L (aW (q _ s6 σ6 H6 _ I6 q6) fun f s7 B=>?_)
  have p:∀ {a:St}{j:Hp},Inv X (c++o4 G s5.heap) a j s7->N a j->∃ m,m<n/\∃ i y A,Inv X c y A s7/\tn i s7.heap/\(∀ b∈G,A b=none)/\W i m y A:=fun {a j} l M=>by
   obtain ⟨m',hm,w7⟩:=hN a j M
   refine ⟨m',hm,i+1,a,j,l.unpinned,T.keep _ _ _ E fun b q o e=>(l.pin (b,o) (U2 _ (U2 _ (qX q e)))).1,fun b q=>?_,w7⟩
   obtain ⟨o,e,d⟩:=T.obj _ _ E b q
   exact (l.pin (b,o) (U2 _ (U2 _ (qX q e)))).2.1
  cases f with
  | next=>obtain ⟨a,j,l,M⟩:=B;exact p l M
  | cont=>obtain ⟨a,j,l,M⟩:=B;exact p l M
  | brk=>obtain ⟨a,j,l,B⟩:=B;exact ⟨a,j,l.unpinned,B⟩
  | ret v=>obtain ⟨x7,a,j,l,r7,B⟩:=B;exact ⟨x7,a,j,l.unpinned,r7,B⟩
end
end L2
namespace L2
open PySem PySem.Spec PyProof.Rows
noncomputable abbrev R2:=V->V->Hp->VK->Prop
noncomputable def OpR (X:Cx)(f:Te->Te->a1a Te)(r:R2):Prop:=
 ∀ (a3J:List (Addr×Obj))(s:Th)(σ:St)(H:Hp)(x y:V)(v u:Te)(Q:VK),Inv X a3J σ H s->RelV x v->RelV y u->r x y H Q->
  TX (T7 X.prog X.w) X.A (f v u) (EP X a3J σ Q) X.xe s
noncomputable def uL (X:Cx)(f:Te->a1a Te)(r:V->Hp->VK->Prop):Prop:=
 ∀ (a3J:List (Addr×Obj))(s:Th)(σ:St)(H:Hp)(x:V)(v:Te)(Q:VK),Inv X a3J σ H s->RelV x v->r x H Q->
  TX (T7 X.prog X.w) X.A (f v) (EP X a3J σ Q) X.xe s
noncomputable def CallR (X:Cx)(f:Te)(r:List V->Hp->VK->Prop):Prop:=
 ∀ (a3J:List (Addr×Obj))(s:Th)(σ:St)(H:Hp)(xs:List V)(us:List Te)(Q:VK),Inv X a3J σ H s->Vals xs us->r xs H Q->
  TX (T7 X.prog X.w) X.A (call f us) (EP X a3J σ Q) X.xe s
noncomputable def GH (X:Cx)(r:V->Hp->(Bool->Hp->Prop)->Prop):Prop:=
 ∀ (a3J:List (Addr×Obj))(s:Th)(σ:St)(H:Hp)(x:V)(v:Te)(Q:Bool->Hp->Prop),Inv X a3J σ H s->RelV x v->r x H Q->
  TX (T7 X.prog X.w) X.A (truthy v) (TP X a3J σ Q) X.xe s
noncomputable def o6 (r:R2)(c d:TE):TE:=fun σ H Q=>c σ H fun x a=>d σ a fun y b=>r x y b Q
noncomputable def GJ (r:V->Hp->VK->Prop)(b:TE):TE:=fun σ H Q=>b σ H fun x a=>r x a Q
noncomputable def rI (C:Int->Int->Prop)(g:Int->Int->V):R2:=fun x y H Q=>∃ i j,x=.int i/\y=.int j/\C i j/\Q (g i j) H
noncomputable def fS (g:Int->Int->V):R2:=fun x y H Q=>∃ i j,x=.int i/\y=.int j/\Q (g i j) H
noncomputable def rU (g:Int->V):V->Hp->VK->Prop:=fun x H Q=>∃ i,x=.int i/\Q (g i) H
section
variable {X:Cx}{a b c:Expr}{ta tb tc:TE}{pos:Vl}
theorem uM (n:PE X a ta)(o:PE X b tb){a3J:List (Addr×Obj)}{s:Th}{σ:St}{H:Hp}{R:V->V->Hp->Prop}(I:Inv X a3J σ H s)
  (h:ta σ H fun x j=>tb σ j fun y d=>R x y d){Q:Te->Th->Prop}{f:Te->Te->a1a Te}
  (p:∀ v u i x y d,Inv X a3J σ d i->RelV x v->RelV y u->R x y d->TX (T7 X.prog X.w) X.A (f v u) Q X.xe i) :
  TX (T7 X.prog X.w) X.A (eval a X.env) (fun v e=>TX (T7 X.prog X.w) X.A (eval b X.env) (fun u g=>TX (T7 X.prog X.w) X.A (f v u) Q X.xe g) X.xe e) X.xe s:=by
 refine aW (n a3J s σ H _ I h) fun v A ⟨x,j,l,w,q⟩=>?_
 refine aW (o a3J A σ j _ l q) fun u i ⟨y,d,m,z,r⟩=>?_
 exact p v u i x y d m w z r
theorem GK {op:a0a}{r:R2}(l:OpR X (WC op) r)(i:PE X a ta)(j:PE X b tb):PE X (.BinOp a op b pos) (o6 r ta tb):=by
 intro d s p H Q I h
 exact wpAny_BinOp (uM i j I h fun v u o x y e g m n q=>l d o p e x y v u Q g m n q)
theorem GL {op:UnaryOp}{r:V->Hp->VK->Prop}(l:uL X (unaryOp op) r)(j:PE X a ta):PE X (.UnaryOp op a pos) (GJ r ta):=by
 intro d s e H Q I h
 exact UnaryOp_ (aW (j d s e H _ I h) fun v o ⟨x,g,i,n,m⟩=>l d o e g x v Q i n m)
theorem qY {f:Te->Te->a1a Te}{C:Int->Int->Prop}{g:Int->Int->Int}
  (d:∀ (i j:Int)(t u:Tok)(s:Th)(Q:Te->Th->Prop)(E:Te->Th->Prop),C i j->Q (.int (g i j) s.toks) { s with toks:=s.toks+1 }->TX (T7 X.prog X.w) X.A (f (.int i t) (.int j u)) Q E s) :
  OpR X f (rI C fun i j=>.int (g i j)):=by
 intro e s o H x y v u Q I l m h
 obtain ⟨i,j,rfl,rfl,hc,q⟩:=h
 obtain ⟨t,rfl⟩:=l
 obtain ⟨n,rfl⟩:=m
 exact d i j t n s _ _ hc ⟨.int (g i j),H,I.tok _,⟨_,rfl⟩,q⟩
theorem Ad {f:Te->Te->a1a Te}{g:Int->Int->Int}
  (d:∀ (i j:Int)(t u:Tok)(s:Th)(Q:Te->Th->Prop)(E:Te->Th->Prop),Q (.int (g i j) s.toks) { s with toks:=s.toks+1 }->TX (T7 X.prog X.w) X.A (f (.int i t) (.int j u)) Q E s) :
  OpR X f (fS fun i j=>.int (g i j)):=by
 intro e s o H x y v u Q I l m h
 obtain ⟨i,j,rfl,rfl,q⟩:=h
 obtain ⟨t,rfl⟩:=l
 obtain ⟨n,rfl⟩:=m
 exact d i j t n s _ _ ⟨.int (g i j),H,I.tok _,⟨_,rfl⟩,q⟩
theorem qZ {f:Te->Te->a1a Te}{g:Int->Int->Bool}
  (d:∀ (i j:Int)(t u:Tok)(s:Th)(Q:Te->Th->Prop)(E:Te->Th->Prop),Q (.bool (g i j)) s->TX (T7 X.prog X.w) X.A (f (.int i t) (.int j u)) Q E s) :
  OpR X f (fS fun i j=>.bl (g i j)):=by
 intro e s o H x y v u Q I l m h
 obtain ⟨i,j,rfl,rfl,q⟩:=h
 obtain ⟨t,rfl⟩:=l
 obtain ⟨n,rfl⟩:=m
 exact d i j t n s _ _ ⟨.bl (g i j),H,I,rfl,q⟩
noncomputable def GN (i j:Int):Prop:=0<=j/\j<=1000000/\i.natAbs<2 ^ 64
noncomputable def CMul (i j:Int):Prop:=(-(2 ^ 64)<i/\i<2 ^ 64)\/(-(2 ^ 64)<j/\j<2 ^ 64)
theorem CMul.ok {i j:Int}(h:CMul i j):a1L i j:=by
 rcases h with ⟨d,e⟩|⟨d,e⟩
 ·exact .of_left (intBits_le_64 d e)
 ·exact .of_right (intBits_le_64 d e)
theorem op_add:OpR X (WC .Add) (fS fun i j=>.int (i+j)):=Ad fun _ _ _ _ _ _ _ q=>add_int q
theorem GO:OpR X (WC .Sub) (fS fun i j=>.int (i - j)):=Ad fun _ _ _ _ _ _ _ q=>sub_int q
theorem GP:OpR X (WC .Mod) (rI (fun _ j=>0<j) fun i j=>.int (i % j)):=qY fun i j _ _ _ _ _ hc q=>by
 have d:(0:Int)<j:=hc
 exact mod_int' (by omega) (by rw [Int.fmod_eq_emod_of_nonneg i (by omega)];exact q)
theorem q0 {f:Te->a1a Te}{g:Int->Int}
  (d:∀ (i:Int)(t:Tok)(s:Th)(Q:Te->Th->Prop)(E:Te->Th->Prop),Q (.int (g i) s.toks) { s with toks:=s.toks+1 }->TX (T7 X.prog X.w) X.A (f (.int i t)) Q E s) :
  uL X f (rU fun i=>.int (g i)):=by
 intro e s l H x v Q I j h
 obtain ⟨i,rfl,q⟩:=h
 obtain ⟨t,rfl⟩:=j
 exact d i t s _ _ ⟨.int (g i),H,I.tok _,⟨_,rfl⟩,q⟩
theorem GQ:uL X (unaryOp .USub) (rU fun i=>.int (-i)):=q0 fun _ _ _ _ _ q=>neg_int q
end
section
variable {X:Cx}{a b c:Expr}{ta tb tc:TE}{pos:Vl}
theorem l6 {a3J:List (Addr×Obj)}{σ:St}{H:Hp}{s:Th}{Q:VK}{k k':Bool}(I:Inv X a3J σ H s)(q:Q (.bl k) H)(e:k=k'):EP X a3J σ Q (.bool k') s:=by
 subst e
 exact ⟨.bl k,H,I,rfl,q⟩
theorem uN:OpR X (UG .Lt) (fS fun i j=>.bl (decide (i<j))):=qZ fun _ _ _ _ _ _ _ q=>lt_int q
theorem uO:OpR X (UG .LtE) (fS fun i j=>.bl (decide (i<=j))):=qZ fun _ _ _ _ _ _ _ q=>le_int q
theorem uP:OpR X (UG .Gt) (fS fun i j=>.bl (decide (j<i))):=qZ fun _ _ _ _ _ _ _ q=>gt_int q
theorem uQ:OpR X (UG .GtE) (fS fun i j=>.bl (decide (j<=i))):=qZ fun _ _ _ _ _ _ _ q=>ge_int q
theorem Ae:OpR X (UG .In) (fun x y H Q=>∃ i j,x=.str i/\y=.str j/\Q (.bl (!(U8 j i 0 j.length 1).isEmpty)) H):=by
 intro d s m H x y v u Q I e g h
 obtain ⟨i,j,rfl,rfl,q⟩:=h
 obtain ⟨t,rfl⟩:=e
 obtain ⟨l,rfl⟩:=g
 exact in_str (l6 I q rfl)
theorem Af:OpR X (UG .Is) (fun x y H Q=>y=.non/\Q (.bl (decide (x=.non))) H):=by
 intro e s i H x y v u Q I d g h
 obtain ⟨rfl,q⟩:=h
 cases g
 refine is_none_gen (l6 I q ?_)
 cases x<;>first
  | (cases d;rfl)
  | (obtain ⟨t,rfl⟩:=d;rfl)
theorem Ag:OpR X (UG .IsNot) (fun x y H Q=>y=.non/\Q (.bl (!decide (x=.non))) H):=by
 intro e s i H x y v u Q I d g h
 obtain ⟨rfl,q⟩:=h
 cases g
 refine isnot_none_gen (l6 I q ?_)
 cases x<;>first
  | (cases d;rfl)
  | (obtain ⟨t,rfl⟩:=d;rfl)
theorem OpR.or {f:Te->Te->a1a Te}{r e:R2}(h:OpR X f r)(h':OpR X f e):OpR X f (fun x y H Q=>r x y H Q\/e x y H Q):=by
 intro d s j H x y v u Q I g i q
 rcases q with q|q
 ·exact h d s j H x y v u Q I g i q
 ·exact h' d s j H x y v u Q I g i q
theorem cT (b:Expr){op:WN}(h:op≠.In:=by decide)(g:op≠.NotIn:=by decide):Wo op b=false:=by
 have d:(op == CmpOp.In)=false:=by cases op<;>first|rfl|exact absurd rfl h
 have e:(op == CmpOp.NotIn)=false:=by cases op<;>first|rfl|exact absurd rfl g
 cases b<;>simp [Wo,d,e]
theorem GR {op:WN}{r:R2}(m:OpR X (UG op) r)(i:PE X a ta)(j:PE X b tb)(l:Wo op b=false):PE X (.Compare a [op] [b] pos) (o6 r ta tb):=by
 intro d s w H Q I h
 exact wpAny_Compare1 (uM i j I h fun v u p x y e g n o q=>m d p w e x y v u Q g n o q) l
noncomputable def Ah (t:TE):TT:=fun σ H Q=>t σ H fun x d=>∃ k,x=.bl k/\Q k d
theorem GS {op:WN}{r:R2}(A:OpR X (UG op) r)(p:PE X a ta)(q:PE X b tb)(w:Wo op b=false):PT X (.Compare a [op] [b] pos) (Ah (o6 r ta tb)):=by
 intro d s g H Q I h
 refine wpAny_isTrue_Compare1 (aW (p d s g H _ I h) fun v M ⟨x,i,m,J,B⟩=>aW (q d M g i _ m B) fun u N ⟨y,j,n,K,E⟩=>
  aW (A d N g j x y v u _ n J K E) fun c O ⟨z,l,o,L,k,e,G⟩=>?_) w
 subst e
 cases L
 exact VN ⟨l,o,G⟩
noncomputable def uR (r i:R2)(ta tb tc:TE):TE:=fun σ H Q=>ta σ H fun x e=>tb σ e fun y g=>r x y g fun z d=>∃ k,z=.bl k /\
 (if k=true then tc σ d fun j h=>i y j h Q else Q (.bl false) d)
theorem GU {op i:WN}{r p:R2}(N:OpR X (UG op) r)(l:OpR X (UG i) p)(K:PE X a ta)(L:PE X b tb)(hc:PE X c tc)
  (M:a2w [op,i] [b,c]=false:=by with_unfolding_all rfl):PE X (.Compare a [op,i] [b,c] pos) (uR r p ta tb tc):=by
 intro g s j H Q I h
 refine Compare_chain (aW (K g s j H _ I h) fun v s1 ⟨x,w,E,U,O⟩=>chain_link (aW (L g s1 j w _ E O) fun u s2 ⟨y,A,G,q,R⟩=>
  aW (N g s2 j A x y v u _ G U q R) fun d s3 ⟨z,m,n,Y,k,e,o⟩=>?_)) M
 subst e
 cases Y
 refine VN ?_
 cases k with
 | false=>exact ite_ff ⟨.bl false,m,n,rfl,o⟩
 | true=>exact ite_tt (chain_last (aW (hc g s3 j m _ n o) fun w' s4 ⟨z',B,J,Z,T⟩=>l g s4 j B y z' u w' Q J q Z T))
theorem GV {op i:WN}{r p:R2}(U:OpR X (UG op) r)(l:OpR X (UG i) p)(O:PE X a ta)(R:PE X b tb)(hc:PE X c tc)
  (T:a2w [op,i] [b,c]=false:=by with_unfolding_all rfl):PT X (.Compare a [op,i] [b,c] pos) (Ah (uR r p ta tb tc)):=by
 intro g s j H Q I h
 refine isTrue_chain (aW (O g s j H _ I h) fun v s1 ⟨x,w,G,r1,Z⟩=>test_link (aW (R g s1 j w _ G Z) fun u s2 ⟨y,A,J,q,q2⟩=>
  aW (U g s2 j A x y v u _ J r1 q q2) fun d s3 ⟨z,m,n,r3,k,e,o⟩=>?_)) T
 subst e
 cases r3
 refine VN ?_
 cases k with
 | false=>
  obtain ⟨k',M,Y⟩:=o
  cases M
  exact ite_ff ⟨m,n,Y⟩
 | true=>
  refine ite_tt (test_last (aW (hc g s3 j m _ n o) fun w' s4 ⟨z',B,K,r4,q4⟩=>aW (l g s4 j B y z' u w' _ K q r4 q4) fun d' s5 ⟨z2,E,L,r5,k2,N,q5⟩=>?_))
  subst N
  cases r5
  exact VN ⟨E,L,q5⟩
noncomputable def uS (K:Ta)(x:V)(H:Hp)(k:Bool):Prop:=
 match x with
 | .non=>k=false
 | .bl b=>k=b
 | .int i=>k=(i != 0)
 | .str y=>y.length<=TC/\k=((y.length:Int) != 0)
 | .byt y=>y.size<=TC/\k=((y.size:Int) != 0)
 | .ref p=>(∃ e,SqL K H p e/\k = !e.isEmpty)\/(∃ e,SqT K H p e/\k = !e.isEmpty)\/∃ d,H p=some (.dK d)/\k = !d.isEmpty
 | _=>False
theorem GW {κ:Type}{d:List (κ×V)}{vs:List (κ×Te)}(r:KV d vs):(!vs.isEmpty) = !d.isEmpty:=by
 cases r<;>rfl
theorem Ai {xs:List V}{its:List Te}(r:Vals xs its):(!its.toArray.isEmpty) = !xs.isEmpty:=by
 cases r<;>simp
theorem m9:(TC:Nat)<2 ^ 63:=by rw [T5];decide
theorem GX:GH X (fun x H Q=>∃ k,uS X.K x H k/\Q k H):=by
 intro B s L H x v Q I n h
 obtain ⟨k,e,q⟩:=h
 have J:=m9
 have K:TC=16777216:=T5
 cases x with
 | non=>
  cases n
  have d:k=false:=e
  subst d
  exact truthy_none ⟨H,I,q⟩
 | bl b=>
  cases n
  have d:k=b:=e
  subst d
  exact VN ⟨H,I,q⟩
 | int i=>
  obtain ⟨t,rfl⟩:=n
  have d:k=(i != 0):=e
  subst d
  exact PySem.P.truthy_int ⟨H,I,q⟩
 | str y=>
  obtain ⟨t,rfl⟩:=n
  obtain ⟨G,d⟩:y.length<=TC/\k=((y.length:Int) != 0):=e
  subst d
  exact PySem.P.truthy_str (by omega) ⟨H,I.tok _,q⟩
 | byt y=>
  obtain ⟨t,rfl⟩:=n
  obtain ⟨G,d⟩:y.size<=TC/\k=((y.size:Int) != 0):=e
  subst d
  exact PySem.W.truthy_bytes (by omega) ⟨H,I.tok _,q⟩
 | ref p=>
  cases n
  have d:(∃ l,SqL X.K H p l/\k = !l.isEmpty)\/(∃ l,SqT X.K H p l/\k = !l.isEmpty)\/∃ g,H p=some (.dK g)/\k = !g.isEmpty:=e
  rcases d with ⟨l,o,d⟩|⟨l,o,d⟩|⟨g,o,d⟩
  ·subst d
   obtain ⟨w,r,z,A⟩:=I.list o
   have j:=r.length
   exact wpAny_truthy_list z.isList (by simp only [TN];omega) ⟨H,I.tok _,by rw [Ai r];exact q⟩
  ·subst d
   obtain ⟨w,r,z,A⟩:=I.tuple o
   have j:=r.length
   exact truthy_tuple z (by simp only [TN];omega) ⟨H,I.tok _,by rw [Ai r];exact q⟩
  ·subst d
   obtain ⟨A,E,u,r,m⟩:g.length<=TC/\(p == UR)=false/\∃ u,KV g u/\s.heap.DictOf (l0 X.prog X.w) p u:=I.hok p _ o
   have j:g.length=u.length:=Zl r
   exact wpAny_truthy_dict E m (by omega) ⟨H,I.tok _,by rw [GW r];exact q⟩
 | _=>exact (show False from e).elim
theorem GY (m:PE X a ta)(n:∀ d,a0X a X.env d=(do let v <- d;a0T a.pos;holding [v] (truthy v))) :
  PT X a (fun g H Q=>ta g H fun x i=>∃ k,uS X.K x i k/\Q k i):=by
 intro e s g H Q I h
 exact isTrue_plain (aW (m e s g H _ I h) fun v q ⟨x,j,l,p,o⟩=>GX e q g j x v Q l p o) (n _)
theorem op_add_str:OpR X (WC .Add) (fun x y H Q=>∃ i j,x=.str i/\y=.str j/\i.length+j.length<=TC/\Q (.str (i++j)) H):=by
 intro d s o H x y v u Q I g l h
 obtain ⟨i,j,rfl,rfl,e,q⟩:=h
 obtain ⟨t,rfl⟩:=g
 obtain ⟨m,rfl⟩:=l
 exact add_str (fun m n=>⟨.str (i++j),H,I.tok _,⟨_,rfl⟩,q⟩) e
theorem fC {x:V}{us:List Te}(r:Vals [x] us):∃ u,us=[u]/\RelV x u:=by
 cases r with
 | cons d e=>cases e;exact ⟨_,rfl,d⟩
theorem uT {x y:V}{us:List Te}(r:Vals [x,y] us):∃ u d,us=[u,d]/\RelV x u/\RelV y d:=by
 cases r with
 | cons e g=>
  cases g with
  | cons h i=>cases i;exact ⟨_,_,rfl,e,h⟩
theorem G0 (hc:X.calm=true):CallR X (.builtin "max") (fun xs H Q=>∃ i j,xs=[.int i,.int j]/\Q (.int (if j>i then j else i)) H):=by
 intro e s p H xs n Q I r h
 obtain ⟨i,j,rfl,q⟩:=h
 obtain ⟨u,o,rfl,⟨t,rfl⟩,⟨l,rfl⟩⟩:=uT r
 refine max_two_ints (I.ok.hd hc) fun g m k=>⟨_,H,I.kept k,?_,q⟩
 by_cases d:j>i
 ·rw [if_pos d,if_pos d];exact ⟨_,rfl⟩
 ·rw [if_neg d,if_neg d];exact ⟨_,rfl⟩
theorem G1 (hc:X.calm=true):CallR X (.builtin "min") (fun xs H Q=>∃ i j,xs=[.int i,.int j]/\Q (.int (if j<i then j else i)) H):=by
 intro e s p H xs n Q I r h
 obtain ⟨i,j,rfl,q⟩:=h
 obtain ⟨u,o,rfl,⟨t,rfl⟩,⟨l,rfl⟩⟩:=uT r
 refine min_two_ints (I.ok.hd hc) fun g m k=>⟨_,H,I.kept k,?_,q⟩
 by_cases d:j<i
 ·rw [if_pos d,if_pos d];exact ⟨_,rfl⟩
 ·rw [if_neg d,if_neg d];exact ⟨_,rfl⟩
theorem G3:CallR X (.type "str") (fun xs H Q=>∃ i,xs=[.int i]/\i.natAbs.log2<1920/\Q (.str (toString i)) H):=by
 intro d s j H xs g Q I r h
 obtain ⟨i,rfl,e,q⟩:=h
 obtain ⟨u,rfl,t,rfl⟩:=fC r
 exact PySem.P.str_of_int e ⟨.str _,H,I.tok _,⟨_,rfl⟩,q⟩
end
end L2
namespace L2
open PySem PySem.Spec PyProof.Rows
structure ObjM (h:UW)(x dx C:Addr)(mA:Str->Option Te):Prop where
 obj:h.get? x=some (VU C dx)
 ns:h.Ns1 dx mA
 ne:dx≠x
theorem G4 {h:UW}{c:Addr}{g:Str->Option Te}(n:h.Ns1 c g):∃ i,h.get? c=some i/\∀ name,X2 name i=some (g name):=by
 obtain ⟨o,d,s,p,hd,l,_,m⟩:=n
 refine ⟨o,p,fun name=>?_⟩
 have e:=m name
 unfold nsFind findBy at e
 rw [<- Array.find?_toList] at e
 unfold X2
 rw [hd]
 dsimp only
 split
 ·rename_i y q
  rw [q] at e
  exact congrArg some e
 ·rename_i q
  rw [q] at e
  have a:d.toList.any (·.refKey)=false:=by
   rw [YC]
   intro y r
   obtain ⟨z,t,b⟩:=l y (a0h.mp r)
   simp [DictEntry.refKey,b]
  have j:¬ d.toList.any (·.refKey)=true:=by rw [a];exact Uc
  rw [if_neg j]
  exact congrArg some e
theorem ObjM.look {h:UW}{x b C:Addr}{c:Str->Option Te}(I:ObjM h x b C c):∃ a,PySem.W.InstAt h x (VU C b) C (some a)/\∀ name,X2 name a=some (c name):=
 let ⟨a,e,d⟩:=G4 I.ns
 ⟨a,⟨I.obj,rfl,rfl,e⟩,d⟩
section
variable {prog:T3}{w:Uk}{A:Ug}{E:Te->Th->Prop}{s:Th}{K:Ta}{x dx C f:Addr}{mA:Str->Option Te}{name:Str}{v:Te}
theorem G5 {a:Bool}{Q:Te->Th->Prop}(X:K.In s.heap)(I:ObjM s.heap x dx C mA)(d:WW K C name=true)(e:Xv K C=true)
  (c:U1 K (.ref C) name=some none)(i:mA name=some v)(b:a0z v=true)(h:Q v { s with toks:=s.toks+1 }) :
  TX (T7 prog w) A (getAttr (.ref x) name a) Q E s:=by
 obtain ⟨j,J,g⟩:=I.look
 exact PySem.W.get_value X J (Yb d).1 (PySem.W.findObj_own e c rfl (by rw [g,i])) b h
theorem G6 {pl:a1a Bool}{Q:Te×List Te->Th->Prop}(X:K.In s.heap)(I:ObjM s.heap x dx C mA)(a:WW K C name=true)
  (b:U1 K (.ref C) name=some (some (.ref f)))(d:Yt K (.ref f)=true)(e:mA name=none)(h:Q (.ref f,[.ref x]) s) :
  TX (T7 prog w) A (Zs (.ref x) name pl) Q E s:=by
 obtain ⟨g,J,c⟩:=I.look
 exact PySem.W.method_fn X J (Yb a).1 (Yb a).2 b (beq_iff_eq.mp d) (by show (X2 name g).map (·.isSome)=some false;rw [c,e];rfl) h
theorem G7 {ns:List Str}{Q:Unit->Th->Prop}(X:K.In s.heap)(I:ObjM s.heap x dx C mA)
  (p:U1 K (.ref C) "__setattr__" = some (some (.builtin "object.__setattr__"))) (o:Yr K C=true)(q:YI K C name=some none)(n:Xv K C=true)
  (hw:ZK mA ns)(hsz:ns.length<=TC)
  (h:∀ d,ObjM d x dx C (fun y=>if y=name then some v else mA y)->VP dx s.heap d->Q () { s with heap:=d,toks:=s.toks+2 }) :
  TX (T7 prog w) A (setAttr (.ref x) name v) Q E s:=by
 obtain ⟨G,J,z⟩:=I.look
 refine PySem.W.set_plain X J p (PySem.W.osa_open (s:={ s with toks:=s.toks+1 }) (r:=none) X J o q fun b=>?_)
 obtain ⟨u,hc,g⟩:=PySem.W.any_some n
 have r:s.heap.get? x=some ⟨.ref C,some dx,.plain,#[]⟩:=I.obj
 refine Td (Tr (Td (Td (wpAny_loadPart r (Td (a2C (s:={ s with toks:=s.toks+1 }) (PySem.W.looks_clsIn X hc) ?_))))))
 rw [g]
 refine Tr (a:=some dx) (Td (Tr (Td ?_)))
 refine wpAny_nsSet1 (s:={ s with toks:=s.toks+1 }) I.ns fun d a c=>?_
 obtain ⟨B,m,l,j,i,e⟩:=a.count (a2O name v hw)
 refine Td (wpAny_lookBehind j (by rw [i];exact pastItsLine_dict (UE e (by rw [T6];omega))) ?_)
 exact Tr (h _ ⟨(c.2 _ (Uu I.ne)).trans I.obj,a,I.ne⟩ c)
theorem G8 {R:Z9->Th->Prop}{vs:List Te}{b:List (Str×Te)}(X:K.In s.heap)(i:YJ K C=true)
  (e:U1 K (.ref C) "__init__" = some (some (.ref f))) (c:PySem.W.typeIn K (.ref f)=some (.type "function"))
  (h:XC (T7 prog w) (A.under (.builtin "type.__call__" ⟨.ref C::vs,b⟩)) (.call (.ref f) ⟨.ref (s.heap.objs.size+1)::vs,b⟩) (PySem.W.InitBack (s.heap.objs.size+1) R)
   { s with heap:=(s.heap.push Vp).push (VU C s.heap.objs.size) }) :
  XC (T7 prog w) A (.call (.ref C) ⟨vs,b⟩) R s:=by
 obtain ⟨j,g,d,t,l⟩:=s
 exact PySem.W.make_core (PySem.W.makes_of X i) (PySem.W.looks_findIn X e) (fun a=>PySem.W.bind_fn X a c) (.inl rfl) h
end
noncomputable def dH (f:Str)(v:V):List (Str×V)->List (Str×V)
 | []=>[(f,v)]
 | (g,x)::r=>if g=f then (g,v)::r else (g,x)::dH f v r
theorem Aj (f g:Str)(v:V):∀ fs:List (Str×V),(dH f v fs).lookup g=if g=f then some v else fs.lookup g
 | []=>by
  show VC g [(f,v)]=_
  by_cases h:g=f
  ·have a:(g == f)=true:=beq_iff_eq.mpr h
   simp only [VC,a,if_pos h]
  ·have a:(g == f)=false:=beq_eq_false_iff_ne.mpr h
   simp only [VC,a,if_neg h]
 | (k,x)::r=>by
  have c:=Aj f g v r
  rw [show dH f v ((k,x)::r)=(if k=f then (k,v)::r else (k,x)::dH f v r) from rfl]
  by_cases b:k=f
  ·rw [if_pos b]
   by_cases h:g=k
   ·have a:(g == k)=true:=beq_iff_eq.mpr h
    simp only [VC,a,if_pos (h.trans b)]
   ·have a:(g == k)=false:=beq_eq_false_iff_ne.mpr h
    simp only [VC,a,if_neg (fun e:g=f=>h (e.trans b.symm))]
  ·rw [if_neg b]
   by_cases h:g=k
   ·have a:(g == k)=true:=beq_iff_eq.mpr h
    simp only [VC,a,if_neg (fun e:g=f=>b (h.symm.trans e))]
   ·have a:(g == k)=false:=beq_eq_false_iff_ne.mpr h
    simp only [VC,a]
    exact c
theorem uU (f:Str)(v:V):∀ fs:List (Str×V),f∈(dH f v fs).map (·.1)/\∀ g,g∈fs.map (·.1)->g∈(dH f v fs).map (·.1)
 | []=>⟨by simp [dH],fun g h=>by simp at h⟩
 | (k,x)::r=>by
  obtain ⟨b,c⟩:=uU f v r
  rw [show dH f v ((k,x)::r)=(if k=f then (k,v)::r else (k,x)::dH f v r) from rfl]
  by_cases a:k=f
  ·rw [if_pos a]
   subst a
   exact ⟨by simp,fun g h=>by simpa using h⟩
  ·rw [if_neg a]
   refine ⟨?_,fun g h=>?_⟩
   ·rw [Tq]
    exact Ua _ b
   ·rw [Tq] at h ⊢
    rcases T1.mp h with e|e
    ·exact T1.mpr (.inl e)
    ·exact Ua _ (c g e)
theorem Ak (f:Str)(v:V):∀ fs:List (Str×V),(dH f v fs).length<=fs.length+1
 | []=>by simp [dH]
 | (k,x)::r=>by
  have b:=Ak f v r
  rw [show dH f v ((k,x)::r)=(if k=f then (k,v)::r else (k,x)::dH f v r) from rfl]
  by_cases a:k=f
  ·rw [if_pos a,T6,T6];omega
  ·rw [if_neg a,T6,T6];omega
theorem RelO.some_of {v:V}{o:Option Te}(r:RelO (some v) o):∃ u,o=some u/\RelV v u:=by
 cases o with
 | none=>exact (show False from r).elim
 | some u=>exact ⟨u,rfl,r⟩
theorem RelO.none_of {o:Option Te}(r:RelO none o):o=none:=by
 cases o with
 | none=>rfl
 | some u=>exact (show False from r).elim
theorem G9 {v:V}{u:Te}(r:RelV v u):a0z u=true:=by
 cases v with
 | non=>cases (show u=Vm from r);rfl
 | bl b=>cases (show u=UN b from r);rfl
 | int i=>obtain ⟨t,e⟩:=(show ∃ t,u=UB i t from r);cases e;rfl
 | str x=>obtain ⟨t,e⟩:=(show ∃ t,u=YF x t from r);cases e;rfl
 | byt b=>obtain ⟨t,e⟩:=(show ∃ t,u=a2r b t from r);cases e;rfl
 | flt b=>obtain ⟨t,e⟩:=(show ∃ t,u=a2q b t from r);cases e;rfl
 | ref a=>cases (show u=Tx a from r);rfl
 | ty n=>cases (show u=Tu n from r);rfl
section
variable {P:T3}{w:Uk}{H H':Hp}{h h':UW}{a C dx:Addr}{fs fs':List (Str×V)}
theorem uV (c:HOk P w H h)(e:H a=some (.ins C dx fs)):∃ b,ObjM h a dx C b/\(∀ f,RelO (fs.lookup f) (b f))/\ZK b (fs.map (·.1))/\fs.length<=1000/\H dx=some (.own a):=by
 obtain ⟨d,z,ne,g,b,n,r,q⟩:=(show ObjOk P w H h a (.ins C dx fs) from c a _ e)
 exact ⟨b,⟨g,n,ne⟩,r,q,z,d⟩
end
structure Cls (K:Ta)(C:Addr):Prop where
 pg:WW K C Str.empty=true
 hd:Xv K C=true
 po:Yr K C=true
 sa:U1 K (.ref C) "__setattr__" = some (some (.builtin "object.__setattr__"))
theorem Cls.get {K:Ta}{C:Addr}(c:Cls K C)(f:Str):WW K C f=true:=c.pg
noncomputable def NoAttr (K:Ta)(C:Addr)(f:Str):Prop:=U1 K (.ref C) f=some none
theorem NoAttr.taker {K:Ta}{C:Addr}{f:Str}(n:NoAttr K C f):YI K C f=some none:=by
 unfold YI
 rw [show U1 K (.ref C) f=some none from n]
 rfl
structure Con (K:Ta)(C:Addr)(f:Str)(v:V)(u:Te):Prop where
 at_:U1 K (.ref C) f=some (some u)
 rel:RelV v u
 get:a0i K u "__get__" = some none
 cp:PySem.W.copiedNames.contains f=false
structure Meth (K:Ta)(C:Addr)(m:Str)(f:Addr):Prop where
 at_:U1 K (.ref C) m=some (some (.ref f))
 fn:Yt K (.ref f)=true
 kp:Va K (.ref f)=true
section
variable {X:Cx}{a3J:List (Addr×Obj)}{σ:St}{H:Hp}{s:Th}{a C dx:Addr}{fs:List (Str×V)}{f:Str}{v:V}{A:Ug}{E:Te->Th->Prop}
theorem Ha {b:Bool}{Q:Te->Th->Prop}(I:Inv X a3J σ H s)(e:H a=some (.ins C dx fs))(c:Cls X.K C)(n:NoAttr X.K C f)(l:fs.lookup f=some v)
  (h:∀ u g,Inv X a3J σ H g->RelV v u->Q u g):TX (T7 X.prog X.w) A (getAttr (.ref a) f b) Q E s:=by
 obtain ⟨j,O,r,_,_,_⟩:=uV I.hok e
 obtain ⟨u,i,d⟩:=RelO.some_of (v:=v) (o:=j f) (by rw [<- l];exact r f)
 exact G5 I.kIn O (c.get f) c.hd n i (G9 d) (h u _ (I.tok _) d)
theorem Al {m:Str}{g:Addr}{pl:a1a Bool}{Q:Te×List Te->Th->Prop}(I:Inv X a3J σ H s)(e:H a=some (.ins C dx fs))(c:Cls X.K C)(k:Meth X.K C m g)(l:fs.lookup m=none)
  (h:Q (.ref g,[.ref a]) s):TX (T7 X.prog X.w) A (Zs (.ref a) m pl) Q E s:=by
 obtain ⟨d,O,r,_,_,_⟩:=uV I.hok e
 have b:d m=none:=RelO.none_of (by rw [<- l];exact r m)
 exact G6 I.kIn O (c.get m) k.at_ k.fn b h
theorem Hb {y:V}{u:Te}{Q:Unit->Th->Prop}(I:Inv X a3J σ H s)(e:H a=some (.ins C dx fs))(c:Cls X.K C)(n:NoAttr X.K C f)(L:fs.length<1000)(J:RelV y u)
  (h:∀ l,Inv X a3J σ (aO H a (.ins C dx (dH f y fs))) l->Q () l):TX (T7 X.prog X.w) A (setAttr (.ref a) f u) Q E s:=by
 obtain ⟨j,O,r,m,_,i⟩:=uV I.hok e
 have G:(fs.map (·.1)).length<=TC:=by rw [Tc,T5];omega
 refine G7 I.kIn O c.sa c.po n.taker c.hd m G fun w d K=>h _ ?_
 have hd:∃ o,w.get? dx=some o:=let ⟨o,_,_,p,_⟩:=d.ns;⟨o,p⟩
 refine I.write (x:=a) (e:=dx) (by rw [e];exact V9) (.inr i) (fun b q x z=>(K.2 b x).trans z) hd ?_
 refine ⟨by rw [bI O.ne];exact i,?_,O.ne,d.obj,_,d.ns,fun g=>?_,fun g B=>?_⟩
 ·have:=Ak f y fs;omega
 ·show RelO ((dH f y fs).lookup g) (if g=f then some u else j g)
  rw [Aj]
  by_cases q:g=f
  ·rw [if_pos q,if_pos q];exact J
  ·rw [if_neg q,if_neg q];exact r g
 ·by_cases q:g=f
  ·rw [q];exact (uU f y fs).1
  ·refine (uU f y fs).2 g (m g fun z=>B ?_)
   show (if g=f then some u else j g)=none
   rw [if_neg q];exact z
theorem Inv.made (I:Inv X a3J σ H s):Inv X a3J σ (aO (aO H s.heap.objs.size (.own (s.heap.objs.size+1))) (s.heap.objs.size+1) (.ins C s.heap.objs.size []))
  { s with heap:=(s.heap.push Vp).push (VU C s.heap.objs.size) }:=by
 have c:(s.heap.push Vp).get? s.heap.objs.size=some Vp:=TJ s.heap rfl
 have g:((s.heap.push Vp).push (VU C s.heap.objs.size)).get? (s.heap.objs.size+1)=some (VU C s.heap.objs.size):=by
  have:=TJ (s.heap.push Vp) (o:=VU C s.heap.objs.size) rfl
  rwa [WU] at this
 have h:(s.heap.push Vp).Ns s.heap.objs.size (fun _=>none):=⟨Vp,#[],_,c,rfl,(fun e i=>absurd i (by simp)),fun _=>rfl⟩
 have d:=I.laid (a:=s.heap.objs.size) (o:=.own (s.heap.objs.size+1)) (h':=s.heap.push Vp) (t':=s.toks) (fun b u q=>Ti _ q) (Tt _) ⟨_,c⟩
 refine d.laid (a:=s.heap.objs.size+1) (o:=.ins C s.heap.objs.size []) (t':=s.toks) (fun b u q=>Ti _ q) (Xs (WU _ _)) ?_
 have ne:s.heap.objs.size≠s.heap.objs.size+1:=TY (Ve _)
 refine ⟨by rw [bI ne,c9],Uz _,ne,g,fun _=>none,(Heap.Ns1.of_empty h).at fun o q=>Ti _ q,fun _=>V9,fun y j=>absurd rfl j⟩
theorem Hc {prog:T3}{w:Uk}{env:Yi}{e:Expr}{f:Str}{pos:Vl}{s:Th}{Q:Te->Th->Prop}(c:Wq e f env (eval e env)=eval e env)
  (h:TX (T7 prog w) A (eval e env) (fun o b=>TX (T7 prog w) A (getAttr o f true) Q E b) E s):TX (T7 prog w) A (eval (.Attribute e f pos) env) Q E s:=
 Attribute_any_ h (by rw [arm_eval_Attribute,c])
end
noncomputable def Hd (K:Ta)(d:TE)(f:Str):TE:=fun σ H Q=>d σ H fun x b=>∃ a C c fs v,x=.ref a/\b a=some (.ins C c fs)/\Cls K C/\NoAttr K C f/\fs.lookup f=some v/\Q v b
noncomputable def He (K:Ta)(e tv:TE)(f:Str):TS:=fun D σ H=>tv σ H fun y d=>e σ d fun x b=>∃ a C c fs,x=.ref a/\b a=some (.ins C c fs)/\Cls K C/\NoAttr K C f/\fs.length<1000 /\
 D.nx σ (aO b a (.ins C c (dH f y fs)))
section
variable {X:Cx}{o e value:Expr}{f:Str}{pos pos' tpos:Vl}{ta tv:TE}
theorem Hf (r:PE X e ta)(p:Wq e f X.env (eval e X.env)=eval e X.env):PE X (.Attribute e f pos) (Hd X.K ta f):=by
 intro b s z H Q I h
 refine Hc p (aW (r b s z H _ I h) fun u B ⟨x,d,g,y,a,C,A,fs,v,m,j,c,n,l,q⟩=>?_)
 subst m
 obtain rfl:u=Tx a:=y
 exact Ha g j c n l fun G E i w=>⟨v,d,i,w,q⟩
theorem Hg (v:PE X o ta)(z:PE X value tv)(w:Xi value (some (.Attribute o f pos')) pos.line X.env=pure false):PS X (.Assign [.Attribute o f pos'] value pos) (He X.K ta tv f):=by
 intro b s d H D I h
 refine plainObj_wpAny_Assign_Attribute (aW (z b s d H _ I h) fun u J ⟨y,g,i,G,q⟩=>aW (v b J d g _ i q) fun A M ⟨x,K,j,E,a,C,L,fs,r,p,c,n,l,B⟩=>?_) w
 subst r
 obtain rfl:A=Tx a:=E
 exact Hb j p c n l G fun N m=>⟨d,_,m,B⟩
end
section
variable {X:Cx}{a3J:List (Addr×Obj)}{σ:St}{H:Hp}{s:Th}{A:Ug}{E:Te->Th->Prop}{Q:Te->Th->Prop}{c:Te}{b:Bool}
inductive TyOf (K:Ta)(H:Hp):V->Te->Prop where
 | non:TyOf K H .non (.type "NoneType")
 | bl (x:Bool):TyOf K H (.bl x) (.type "bool")
 | int (i:Int):TyOf K H (.int i) (.type "int")
 | str (x:Str):TyOf K H (.str x) (.type "str")
 | flt (x:UInt64):TyOf K H (.flt x) (.type "float")
 | lst {a:Addr}{xs:List V}(e:H a=some (.lst xs)):TyOf K H (.ref a) (.type "list")
 | frz {a:Addr}{o:Obj}{xs:List V}(e:H a=some (.frz o (.lst xs))):TyOf K H (.ref a) (.type "list")
 | tup {a:Addr}{xs:List V}(e:H a=some (.tup xs)):TyOf K H (.ref a) (.type "tuple")
 | dK {a:Addr}{kvs:List (aN×V)}(e:H a=some (.dK kvs)):TyOf K H (.ref a) (.type "dict")
 | dT {a:Addr}{kvs:List (List aN×V)}(e:H a=some (.dT kvs)):TyOf K H (.ref a) (.type "dict")
 | ins {a C dx:Addr}{fs:List (Str×V)}(e:H a=some (.ins C dx fs))(cl:Cls K C)(ha:U1 K (.ref C) "__class__" = some (some (.builtin "object.__class__")))
   (hn:a0i K (.builtin "object.__class__") "__get__" = some (some (.builtin "getset_descriptor.__get__"))) (htk:PySem.W.takesIn K (.builtin "object.__class__")=some true)
   (hm:PySem.W.mroIn K C (.type "object")=some true):TyOf K H (.ref a) (.ref C)
end
end L2
namespace L2
open PySem PySem.Spec PyProof.Rows
structure Room (k:Nat)(A:Ug):Prop where
 hd:A.handled=none
 dp:A.depth+3 * k+5<a3u
 un:A.units+16 * k+200<VS
theorem Room.mono {j k:Nat}{A:Ug}(r:Room k A)(h:j<=k):Room j A:=⟨r.hd,by have:=r.dp;omega,by have:=r.un;omega⟩
theorem Room.deeper {k:Nat}{A:Ug}(r:Room (k+1) A)(env:Yi):Room k (A.deeper env):=
 ⟨r.hd,by have:=r.dp;show A.depth+1+3 * k+5<_;omega,by have:=r.un;show A.units+3+16 * k+200<_;omega⟩
theorem Room.in1 {k:Nat}{A:Ug}(r:Room (k+1) A):Room k A.in1:=
 ⟨r.hd,by have:=r.dp;show A.depth+3 * k+5<_;omega,by have:=r.un;show A.units+1+16 * k+200<_;omega⟩
theorem Hh {A:Ug}{C:Addr}{us:List Te}{a:List (Str×Te)}:(A.under (.builtin "type.__call__" ⟨.ref C::us,a⟩)).depth=A.depth+1:=by
 first|rfl|simp [ZF,Code.weight,Code.isCreation,Code.isGuard,Code.isCaller,a2I,ZY,guardIds]
theorem Hi {A:Ug}{C:Addr}{us:List Te}{a:List (Str×Te)}:(A.under (.builtin "type.__call__" ⟨.ref C::us,a⟩)).units=A.units+1:=by
 first|rfl|simp [ZF,Code.cUnits,a2I,ZY]
theorem Room.make {k:Nat}{A:Ug}(r:Room (k+1) A)(C:Addr)(us:List Te)(a:List (Str×Te)):Room k (A.under (.builtin "type.__call__" ⟨.ref C::us,a⟩)):=
 ⟨r.hd,by have:=r.dp;rw [Hh];omega,by have:=r.un;rw [Hi];omega⟩
theorem Room.depth {k:Nat}{A:Ug}(r:Room k A):A.depth<a3u:=by have:=r.dp;omega
theorem Room.units {k:Nat}{A:Ug}(r:Room k A):A.units+64<VS:=by have:=r.un;omega
noncomputable def uW:TA:=fun _ H Q=>Q [] H
noncomputable def Hj (c:TE)(tr:TA):TA:=fun σ H Q=>c σ H fun x a=>tr σ a fun xs b=>Q (x::xs) b
section
variable {X:Cx}{e:Expr}{es:List Expr}{te:TE}{t:TA}{pos:Vl}
theorem Hk:PA X [] uW:=fun _ _ _ _ H Q I h=>a0N ⟨[],H,I,.nil,h⟩
theorem Hl (j:PE X e te)(l:PA X es t)(m:T8 (e::es) X.env=(false,eval e X.env)::T8 es X.env:=by rfl):PA X (e::es) (Hj te t):=by
 intro pos a s b H Q I h
 rw [m]
 show TX _ _ (spliced ((false,eval e X.env)::Vv pos (T8 es X.env))) _ _ s
 refine a0D (aW (j a s b H _ I h) fun u r ⟨x,c,g,p,n⟩=>?_)
 exact aW (l pos a r b c _ g n) fun y w ⟨v,d,i,q,o⟩=>⟨x::v,d,i,.cons p q,o⟩
noncomputable def Hn (t:TA):TE:=fun σ H Q=>t σ H fun xs a=>xs.length<=TC/\∀ p,a p=none->Q (.ref p) (aO a p (.tup xs))
noncomputable def Ho (t:TA):TE:=fun σ H Q=>t σ H fun xs a=>xs.length<=TC/\∀ p,a p=none->Q (.ref p) (aO a p (.lst xs))
theorem Hq {x1} (h:PA X es t):PE X (.Tuple es x1 pos) (Hn t):=by
 intro c s n H Q I j
 refine wpAny_Tuple_spliced (aW (h pos c s n H _ I j) fun l a ⟨m,d,g,r,z,q⟩=>⟨by rw [<- r.length];exact z,?_⟩)
 have i:d a.heap.objs.size=none:=g.hok.fresh (Tt _)
 refine ⟨.ref a.heap.objs.size,aO d a.heap.objs.size (.tup m),g.laid (t':=a.toks) (fun b u e=>Ti _ e) (Tt _) ?_,rfl,q _ i⟩
 exact ⟨z,l,r,⟨_,TJ _ rfl,rfl,_,rfl,rfl⟩⟩
theorem Hr (h:PA X es t):PE X (.List es pos) (Ho t):=by
 intro c s n H Q I j
 refine wpAny_List_spliced (aW (h pos c s n H _ I j) fun l a ⟨m,d,g,r,z,q⟩=>⟨by rw [<- r.length];exact z,?_⟩)
 have i:d a.heap.objs.size=none:=g.hok.fresh (Tt _)
 refine ⟨.ref a.heap.objs.size,aO d a.heap.objs.size (.lst m),g.laid (t':=a.toks) (fun b u e=>Ti _ e) (Tt _) ?_,rfl,q _ i⟩
 exact ⟨z,l,0,r,TJ _ rfl⟩
end
noncomputable abbrev Sp:=List V->Hp->VK->XK->Prop
noncomputable abbrev gM:=List Yi->Hp->Th->XK->Te->Th->Prop
structure Env0 (P:T3)(w:Uk)(K:Ta)(mg:Str->Option Te)(base:UW)(A:Ug)(outer:List Yi)(s:Th)(H:Hp):Prop where
 frames:A.frames=some outer
 mod:Mod K mg base
 bs:∀ b o,base.get? b=some o->s.heap.get? b=some o/\H b=none
 bsz:base.objs.size<=s.heap.objs.size
 funs:s.heap.FunFrames base outer
 frf:∀ b∈gI outer,H b=none
 hok:HOk P w H s.heap
 bare:YE s.gens
noncomputable def CE (outer:List Yi)(P:T3)(w:Uk)(H:Hp)(s:Th)(Q:VK)(u:Te)(a:Th):Prop:=
 ∃ v b,a.os=s.os/\YE a.gens/\Un (gI outer) [] H b s.heap a.heap/\HOk P w b a.heap/\RelV v u/\Q v b
noncomputable def CR (CX:gM)(outer:List Yi)(P:T3)(w:Uk)(H:Hp)(s:Th)(Q:VK)(E:XK)(r:Z9)(a:Th):Prop:=
 match r with
 | .ok (.ret u)=>CE outer P w H s Q u a
 | .ok _=>False
 | .error e=>CX outer H s E e a
structure FnOk (P:T3)(w:Uk)(K:Ta)(mg:Str->Option Te)(base:UW)(CX:gM)(k:Nat)(f:Addr)(fd:Vo)(ps:List Str)(sp:Sp):Prop where
 len:∀ vs H Q E,sp vs H Q E->vs.length=ps.length
 run:∀ (A:Ug)(outer:List Yi)(s:Th)(H:Hp)(args:Args)(us:List Te)(vs:List V)(Q:VK)(E:XK),Room k A->Env0 P w K mg base A outer s H->Zg s fd args (ps.zip us)->Vals vs us->sp vs H Q E->
  XC (T7 P w) A (.call (.ref f) args) (CR CX outer P w H s Q E) s
theorem FnOk.mono {P:T3}{w:Uk}{K:Ta}{mg:Str->Option Te}{base:UW}{CX:gM}{j k:Nat}{f:Addr}{b:Vo}{ps:List Str}{sp:Sp}(F:FnOk P w K mg base CX j f b ps sp)(h:j<=k) :
  FnOk P w K mg base CX k f b ps sp:=⟨F.len,fun A outer s H a d e Q E c=>F.run A outer s H a d e Q E (c.mono h)⟩
theorem FnOk.imp {P:T3}{w:Uk}{K:Ta}{mg:Str->Option Te}{base:UW}{CX:gM}{k:Nat}{f:Addr}{d:Vo}{ps:List Str}{sp c:Sp}(F:FnOk P w K mg base CX k f d ps sp)
  (h:∀ a H Q E,c a H Q E->sp a H Q E):FnOk P w K mg base CX k f d ps c:=
 ⟨fun a H Q E q=>F.len a H Q E (h _ _ _ _ q),fun A outer s H b m a Q E i g e l j=>F.run A outer s H b m a Q E i g e l (h _ _ _ _ j)⟩
theorem Env0.make {P:T3}{w:Uk}{K:Ta}{mg:Str->Option Te}{base:UW}{A:Ug}{outer:List Yi}{s:Th}{H:Hp}(e:Env0 P w K mg base A outer s H)(C:Addr)(us:List Te)(a:List (Str×Te)) :
  Env0 P w K mg base (A.under (.builtin "type.__call__" ⟨.ref C::us,a⟩)) outer s H:=⟨by first|exact e.frames|(simpa [ZF,Code.envs,ZY,pushEnvs] using e.frames),e.mod,e.bs,e.bsz,e.funs,e.frf,e.hok,e.bare⟩
theorem Env0.in1 {P:T3}{w:Uk}{K:Ta}{mg:Str->Option Te}{base:UW}{A:Ug}{outer:List Yi}{s:Th}{H:Hp}(e:Env0 P w K mg base A outer s H) :
  Env0 P w K mg base A.in1 outer s H:=⟨e.frames,e.mod,e.bs,e.bsz,e.funs,e.frf,e.hok,e.bare⟩
section
variable {X:Cx}{a3J:List (Addr×Obj)}{σ:St}{H:Hp}{s s':Th}
theorem Inv.env0 (I:Inv X a3J σ H s):Env0 X.prog X.w X.K X.mg X.base X.A X.stack s H:=
 ⟨I.ok.frames,I.ok.mod,I.bs,UE I.ok.bsz I.sz,I.stack,I.stkFree,I.hok,I.bare⟩
theorem Inv.after {Q:VK}{u:Te}(I:Inv X a3J σ H s)(h:CE X.stack X.prog X.w H s Q u s'):EP X a3J σ Q u s':=by
 obtain ⟨v,i,l,a,un,c,r,q⟩:=h
 obtain ⟨j,g,d,t,e⟩:=s'
 obtain rfl:e=s.os:=l
 exact ⟨v,i,I.call (h':=j) (g':=g) (d':=d) (t':=t) (ch:=[]) un c a (fun b z=>absurd z (by simp)),r,q⟩
end
noncomputable def uX (sp:Sp)(a:List V)(E:XK)(t:TA):TE:=fun σ H Q=>t σ H fun vs b=>sp (vs++a) b Q E
noncomputable def uY (C:Addr)(m:Str)(sp:Sp)(b:List V)(E:XK)(g:TE)(t:TA):TE:=fun σ H Q=>g σ H fun x c=>∃ a e fs,x=.ref a/\c a=some (.ins C e fs)/\fs.lookup m=none /\
 t σ c fun h d=>sp (x::(h++b)) d Q E
noncomputable def Am (C:Addr)(sp:Sp)(c:List V)(E:XK)(t:TA):TE:=fun σ H Q=>t σ H fun vs b=>∀ x a,b x=none->b a=none->a≠x->
 sp (.ref x::(vs++c)) (aO (aO b a (.own x)) x (.ins C a [])) (fun v d=>v=.non/\Q (.ref x) d) E
noncomputable def Binds (K:Ta)(a:Vo)(ps:List Str)(ds:List Te):Prop:=
 ∀ (s:Th)(us:List Te),K.In s.heap->(us++ds).length=ps.length->Zg s a ⟨us,[]⟩ (ps.zip (us++ds))
theorem Binds.all {K:Ta}{a:Vo}{ps:List Str}(h:∀ us:List Te,us.length=ps.length->Z5 a ⟨us,[]⟩=pure (ps.zip us)):Binds K a ps []:=fun s us _ b=>by
 rw [UM] at b ⊢
 exact .of_eq (h us b)
noncomputable def kQ (CX:gM)(X:Cx)(E:XK):Prop:=∀ (a3J:List (Addr×Obj))(σ:St)(H:Hp)(s:Th)(e:Te)(a:Th),Inv X a3J σ H s->CX X.stack H s E e a->X.xe e a
section
variable {X:Cx}{CX:gM}{k:Nat}{f C:Addr}{fd:Vo}{ps:List Str}{sp:Sp}{dvs:List V}{ds:List Te}{E:XK}{x m:Str}{p pos apos:Vl}{e o:Expr}{es:List Expr}{ta:TE}{t:TA}
theorem q8 {a3J:List (Addr×Obj)}{σ:St}{H:Hp}{s:Th}{Q:VK}{us:List Te}{vs:List V}(F:FnOk X.prog X.w X.K X.mg X.base CX k f fd ps sp)(i:Room k X.A)(d:Binds X.K fd ps ds)(hd:Vals dvs ds)(j:kQ CX X E)
  (I:Inv X a3J σ H s)(r:Vals vs us)(h:sp (vs++dvs) H Q E):TX (T7 X.prog X.w) X.A (call (.ref f) us) (EP X a3J σ Q) X.xe s:=by
 have b:Vals (vs++dvs) (us++ds):=r.append hd
 have g:(us++ds).length=ps.length:=by rw [<- b.length];exact F.len _ _ _ _ h
 refine wpAny_call (Zb (F.run X.A X.stack s H ⟨us,[]⟩ (us++ds) (vs++dvs) Q E i I.env0 (d s us I.kIn g) b h) fun r l a=>?_)
 cases r with
 | error e=>exact j a3J σ H s e l I a
 | ok c=>
  cases c with
  | ret u=>exact I.after a
  | next=>exact Vb a
  | brk=>exact Vb a
  | cont=>exact Vb a
theorem Hs (F:FnOk X.prog X.w X.K X.mg X.base CX k f fd ps sp)(v:Room k X.A)(l:Gl X x)(u:X.mg x=some (.ref f))(n:Va X.K (.ref f)=true)(i:Binds X.K fd ps ds)(hd:Vals dvs ds)(w:kQ CX X E)
  (g:PA X (e::es) t)(b:(x == ("__debug__":Str))=false:=by decide) (j:T8 (e::es) X.env=(false,eval e X.env)::T8 es X.env:=by rfl)(c:(Vv pos (T8 es X.env)).any (·.1)=false:=by rfl) :
  PE X (.Call (.Name x p) (e::es) [] pos) (uX sp dvs E t):=by
 intro a s y H Q I h
 refine VZ (qV I l u ?_ b)
 refine Yk (h₀:=X.base) I.ok.mod.kin n (aW (g pos a s y H _ I h) fun B A ⟨G,z,d,r,q⟩=>⟨d.kIn,?_⟩) j c
 exact q8 F v i hd w d r q
theorem Ht (F:FnOk X.prog X.w X.K X.mg X.base CX k f fd ps sp)(j:Room k X.A)(d:Gl X x)(i:X.mg x=some (.ref f))(g:Va X.K (.ref f)=true)(c:Binds X.K fd ps ds)(hd:Vals dvs ds)(l:kQ CX X E)
  (a:(x == ("__debug__":Str))=false:=by decide):PE X (.Call (.Name x p) [] [] pos) (uX sp dvs E uW):=by
 intro b s n H Q I h
 refine VZ (qV I d i ?_ a)
 exact ZU I.kIn g (q8 (us:=[]) F j c hd l I .nil h)
theorem Hu {pl:a1a Bool}(J:PE X o ta)(c:Cls X.K C)(n:Meth X.K C m f)(F:FnOk X.prog X.w X.K X.mg X.base CX k f fd ps sp)(K:Room k X.A)(G:Binds X.K fd ps ds)(hd:Vals dvs ds)(M:kQ CX X E)(B:PA X (e::es) t)
  (g:T8 (e::es) X.env=(false,eval e X.env)::T8 es X.env:=by rfl)(d:(Vv pos (T8 es X.env)).any (·.1)=false:=by rfl)
  (L:eval (.Call (.Attribute o m apos) (e::es) [] pos) X.env=(do
   let v <- eval o X.env
   a0T apos.atName
   let (f,first) <- holding [v] (Zs v m pl)
   a3E pos f first (Vv pos (T8 (e::es) X.env)) (Xp pos (Wg [] X.env))):=by rfl) :
  PE X (.Call (.Attribute o m apos) (e::es) [] pos) (uY C m sp dvs E ta t):=by
 intro b s w H Q I h
 refine Zz (pl:=pl) (aW (J b s w H _ I h) fun u R ⟨x,y,i,O,a,Z,fs,A,z,l,q⟩=>?_) L
 subst A
 obtain rfl:u=Tx a:=O
 refine Al i z c n l ?_
 refine Yk (first:=[.ref a]) (h₀:=X.base) I.ok.mod.kin n.kp (aW (B pos b R w y _ i q) fun T s2 ⟨U,Y,j,r,N⟩=>⟨j.kIn,?_⟩) g d
 exact q8 (us:=.ref a::T) (vs:=.ref a::U) F K G hd M j (.cons rfl r) N
theorem Hv {pl:a1a Bool}(v:PE X o ta)(c:Cls X.K C)(g:Meth X.K C m f)(F:FnOk X.prog X.w X.K X.mg X.base CX k f fd ps sp)(w:Room k X.A)(r:Binds X.K fd ps ds)(hd:Vals dvs ds)(z:kQ CX X E)
  (y:eval (.Call (.Attribute o m apos) [] [] pos) X.env=(do
   let i <- eval o X.env
   a0T apos.atName
   let (f,first) <- holding [i] (Zs i m pl)
   a3E pos f first (Vv pos (T8 [] X.env)) (Xp pos (Wg [] X.env))):=by rfl) :
  PE X (.Call (.Attribute o m apos) [] [] pos) (uY C m sp dvs E ta uW):=by
 intro d s B H Q I h
 refine Zz (pl:=pl) (aW (v d s B H _ I h) fun u K ⟨x,G,b,A,a,J,fs,n,j,l,q⟩=>?_) y
 subst n
 obtain rfl:u=Tx a:=A
 refine Al b j c g l ?_
 exact ZU (first:=[.ref a]) b.kIn g.kp (q8 (us:=[.ref a]) (vs:=[.ref a]) F w r hd z b (.cons rfl .nil) q)
structure Mk (K:Ta)(C f:Addr):Prop where
 makes:YJ K C=true
 init:U1 K (.ref C) "__init__" = some (some (.ref f))
 fn:Yt K (.ref f)=true
 kp:Va K (.ref C)=true
theorem Hw {a3J:List (Addr×Obj)}{σ:St}{H:Hp}{s:Th}{Q:VK}{us:List Te}{vs:List V}(M:Mk X.K C f)(F:FnOk X.prog X.w X.K X.mg X.base CX k f fd ps sp)(z:Room (k+1) X.A)(w:Binds X.K fd ps ds)(hd:Vals dvs ds)
  (A:kQ CX X E)(I:Inv X a3J σ H s)(r:Vals vs us)
  (h:∀ x c,H x=none->H c=none->c≠x->sp (.ref x::(vs++dvs)) (aO (aO H c (.own x)) x (.ins C c [])) (fun v j=>v=.non/\Q (.ref x) j) E) :
  TX (T7 X.prog X.w) X.A (call (.ref C) us) (EP X a3J σ Q) X.xe s:=by
 have d:=h (s.heap.objs.size+1) s.heap.objs.size (I.hok.fresh (Y3 _)) (I.hok.fresh (Tt _)) (TY (Ve _))
 have b:=Inv.made (C:=C) I
 have g:Vals (V.ref (s.heap.objs.size+1)::(vs++dvs)) (Tx (s.heap.objs.size+1)::(us++ds)):=.cons rfl (r.append hd)
 have y:(Tx (s.heap.objs.size+1)::us++ds).length=ps.length:=by
  have e:=g.length
  rw [F.len _ _ _ _ d] at e
  exact e.symm
 refine wpAny_call (G8 (f:=f) I.kIn M.makes M.init (beq_iff_eq.mp M.fn) (Zb (F.run _ X.stack _ _ ⟨Tx (s.heap.objs.size+1)::us,[]⟩ (Tx (s.heap.objs.size+1)::(us++ds)) _ _ E (z.make C us [])
  (b.env0.make C us []) (w _ (Tx (s.heap.objs.size+1)::us) b.kIn y) g d) fun r J a=>?_))
 cases r with
 | error e=>exact A a3J σ _ _ e J b a
 | ok q=>
  cases q with
  | ret u=>
   obtain ⟨v,i,l,G,n,B⟩:=b.after a
   subst n
   exact ⟨G,⟨V.ref (s.heap.objs.size+1),i,l,rfl,B⟩⟩
  | next=>exact Vb a
  | brk=>exact Vb a
  | cont=>exact Vb a
theorem Hx (M:Mk X.K C f)(F:FnOk X.prog X.w X.K X.mg X.base CX k f fd ps sp)(u:Room (k+1) X.A)(l:Gl X x)(n:X.mg x=some (.ref C))(i:Binds X.K fd ps ds)(hd:Vals dvs ds)(v:kQ CX X E)
  (g:PA X (e::es) t)(b:(x == ("__debug__":Str))=false:=by decide) (j:T8 (e::es) X.env=(false,eval e X.env)::T8 es X.env:=by rfl)(c:(Vv pos (T8 es X.env)).any (·.1)=false:=by rfl) :
  PE X (.Call (.Name x p) (e::es) [] pos) (Am C sp dvs E t):=by
 intro a s w H Q I h
 refine VZ (qV I l n ?_ b)
 refine Yk (h₀:=X.base) I.ok.mod.kin M.kp (aW (g pos a s w H _ I h) fun A z ⟨B,y,d,r,q⟩=>⟨d.kIn,?_⟩) j c
 exact Hw M F u i hd v d r q
end
section
variable {X:Cx}{CX:gM}{k:Nat}{f C:Addr}{fd:Vo}{ps ks:List Str}{sp:Sp}{E:XK}{x m:Str}{p pos apos kpos:Vl}{e o:Expr}{es:List Expr}{kws:List Wx}{te ta:TE}{t tk:TA}{nm:Option Str}
structure KBinds (K:Ta)(fd:Vo)(ps ks:List Str)(g:List Te->List Te->List Te)(gV:List V->List V->List V):Prop where
 to:∀ (s:Th)(us ws:List Te),K.In s.heap->(g us ws).length=ps.length->Zg s fd ⟨us,ks.zip ws⟩ (ps.zip (g us ws))
 rel:∀ {vs:List V}{us:List Te}{zs:List V}{ws:List Te},Vals vs us->Vals zs ws->Vals (gV vs zs) (g us ws)
variable {g:List Te->List Te->List Te}{gV:List V->List V->List V}
end
structure FnScope (N P:List Str)(sc:V0):Prop where
 kind:sc.kind=.function
 co:sc.isCoroutine=false
 gen:sc.isGenerator=false
 nd:N.Nodup
 pre:N.take P.length=P
 par:∀ x∈P,sc.names.lookup x=some .local\/sc.names.lookup x=some .cell
 nofree:∀ y∈sc.names,y.2≠.free
theorem An {kindOf:Str->Option V4}{x:Str}:∀ {a:List (Str×Te)}{m:Str->Option Te},(∀ v,(x,v)∉a)->a0J kindOf a m x=m x
 | [],_,_=>rfl
 | (n,v)::r,m,h=>by
  unfold a0J
  rw [An fun w hw=>h w (Ua _ hw)]
  split
  ·have:x≠n:=by rintro rfl;exact h v Um
   simp [this]
  ·rfl
theorem Ao {kindOf:Str->Option V4}{x:Str}:∀ {a:List (Str×Te)}{m:Str->Option Te},(∀ v,(x,v)∉a)->a0K kindOf a m x=m x
 | [],_,_=>rfl
 | (n,v)::r,m,h=>by
  unfold a0K
  rw [Ao fun w hw=>h w (Ua _ hw)]
  split
  ·rfl
  ·have:x≠n:=by rintro rfl;exact h v Um
   simp [this]
theorem Ap {kindOf:Str->Option V4}{x:Str}{v:Te}:∀ {P:List Str}{vs:List Te}{i:Nat}{m:Str->Option Te},P.Nodup->P[i]? = some x->vs[i]? = some v->kindOf x=some .local->
  a0J kindOf (P.zip vs) m x=some v
 | [],_,_,_,_,h,_,_=>by simp at h
 | _::_,[],_,_,_,_,h,_=>by simp at h
 | p::P,w::vs,0,m,nd,h1,h2,hk=>by
  simp at h1 h2;subst h1;subst h2
  show a0J kindOf ((p,w)::P.zip vs) m p=_
  unfold a0J
  rw [An fun v a=>(UU.mp nd).1 (Y4 a).1,if_pos hk]
  simp
 | p::P,w::vs,i+1,m,nd,h1,h2,hk=>by
  show a0J kindOf ((p,w)::P.zip vs) m x=_
  unfold a0J
  exact Ap (i:=i) (UU.mp nd).2 (by simpa using h1) (by simpa using h2) hk
theorem Aq {kindOf:Str->Option V4}{x:Str}{v:Te}:∀ {P:List Str}{vs:List Te}{i:Nat}{m:Str->Option Te},P.Nodup->P[i]? = some x->vs[i]? = some v->kindOf x≠some .local->
  a0K kindOf (P.zip vs) m x=some v
 | [],_,_,_,_,h,_,_=>by simp at h
 | _::_,[],_,_,_,_,h,_=>by simp at h
 | p::P,w::vs,0,m,nd,h1,h2,hk=>by
  simp at h1 h2;subst h1;subst h2
  show a0K kindOf ((p,w)::P.zip vs) m p=_
  unfold a0K
  rw [Ao fun v a=>(UU.mp nd).1 (Y4 a).1,if_neg hk]
  simp
 | p::P,w::vs,i+1,m,nd,h1,h2,hk=>by
  show a0K kindOf ((p,w)::P.zip vs) m x=_
  unfold a0K
  exact Aq (i:=i) (UU.mp nd).2 (by simpa using h1) (by simpa using h2) hk
noncomputable def start (N:List Str)(vs:List V):St:=vs.map some++VB (N.length - vs.length) none
noncomputable def jQ (CX:gM)(P:T3)(w:Uk)(K:Ta)(mg:Str->Option Te)(base:UW)(N:List Str)(a:Str)(scope:V0)(f:Addr)(c:Te)(A:Ug)(outer:List Yi)(s:Th)(H:Hp)(E:XK):Cx where
 prog:=P
 w:=w
 K:=K
 mg:=mg
 base:=base
 A:=A.deeper (envOfC a scope s.heap.objs.size f c)
 N:=N
 s₀:=s
 H₀:=H
 env:=envOfC a scope s.heap.objs.size f c
 outer:=outer
 stack:=envOfC a scope s.heap.objs.size f c::outer
 ex:=[]
 calm:=true
 fn:=fun _=>true
 pn:=[]
 xe:=fun e g=>TX (T7 P w) (A.deeper (envOfC a scope s.heap.objs.size f c)) (leaving (envOfC a scope s.heap.objs.size f c) e) (fun _ b=>CX outer H s E e b) (fun d b=>CX outer H s E d b) g
theorem Ar {sc:V0}{n:Nat}{x:Str}(h:sc.names.lookup x=some .cell):∃ c,(a2y n sc.names []).lookup x=some c:=by
 have q:=Zu sc.names n [] (.inl h)
 exact Option.isSome_iff_exists.mp q
theorem Hy {CX:gM}{P:T3}{w:Uk}{K:Ta}{mg:Str->Option Te}{base:UW}{N ps:List Str}{d:Str}{scope:V0}{f:Addr}{B:Te}{A:Ug}{outer:List Yi}{s M:Th}{H:Hp}{E:XK}{us:List Te}{vs:List V}
  (S:FnScope N ps scope)(hd:A.handled=none)(j:Env0 P w K mg base A outer s H)(U:vs.length=ps.length)(r:Vals vs us)
  (x:InCallC s s.heap.objs.size (a0J (envOfC d scope s.heap.objs.size f B).kindOf (ps.zip us) fun _=>none) (a2y (s.heap.objs.size+1) scope.names []) (a0K (envOfC d scope s.heap.objs.size f B).kindOf (ps.zip us) fun _=>none) M) :
  Inv (jQ CX P w K mg base N d scope f B A outer s H E) [] (start N vs) H M:=by
 have Q:ps.length<=N.length:=by have:=congrArg Uo S.pre;rw [Uv] at this;omega
 obtain ⟨G,X,rfl,J⟩:=x.done
 have m:∀ b:Addr,b∉(jQ CX P w K mg base N d scope f B A outer s H E).ex:=fun b z=>absurd (show b∈([]:List Addr) from z) (by simp)
 refine ⟨⟨j.mod,S.kind,rfl,rfl,Tt _,fun y z c G g=>?_,fun y l=>?_,fun y c _ h=>?_,fun _=>hd,Around.frames_deeper j.frames,.inr ⟨rfl,rfl⟩,fun b z=>absurd z (m b),j.bs,j.bsz,fun b _ _=>m b,fun b z=>absurd z (m b),j.funs,j.frf⟩,
  rfl,j.bare,Un.kept J,⟨_,x.toInCall.ns,fun i y v G g T=>?_⟩,fun y c h=>⟨_,x.cell y c h⟩,j.hok.fresh (Tt _),fun y c h=>?_,fun p n=>absurd (show p∈([]:List (Addr×Obj)) from n) (by simp),j.hok.kept J,?_⟩
 ·exact name_of_addr x.apart (U0 G) (U0 g)
 ·have l:scope.names.lookup y=some .cell\/scope.names.lookup y=some .free:=l
  rcases l with l|l
  ·exact Ar l
  ·exact absurd rfl (S.nofree _ (U0 l))
 ·exact YO (x.above y c (U0 h))
 ·have I:i<vs.length:=by
   unfold start at g
   by_cases I:i<vs.length
   ·exact I
   ·rw [Us (by simpa using I)] at g
    rw [V5] at g
    split at g<;>cases g
  have O:vs[i]? = some v:=by
   unfold start at g
   rw [TR (by simpa using I),TH] at g
   cases e:vs[i]? with
   | none=>rw [e] at g;cases g
   | some a=>rw [e] at g;cases g;rfl
  obtain ⟨u,L,R⟩:=r.get O
  have n:ps[i]? = some y:=by
   rw [<- S.pre,ZE (by omega)];exact G
  have o:ps.Nodup:=by rw [<- S.pre];exact S.nd.sublist (a1n _ _)
  refine ⟨u,R,?_⟩
  rcases S.par y (Ue n) with k|k
  ·exact .inl ⟨k,Ap o n L k⟩
  ·obtain ⟨c,e⟩:=Ar (n:=s.heap.objs.size+1) k
   refine .inr ⟨.inl k,c,e,?_⟩
   have q:=x.cell y c e
   rw [Aq o n L (by show scope.names.lookup y≠_;rw [k];decide)] at q
   exact q
 ·exact j.hok.fresh (YO (x.above y c (U0 h)))
 ·unfold start
  show _=N.length
  rw [Tz,Tc,VT]
  omega
theorem Hz {CX:gM}{P:T3}{w:Uk}{K:Ta}{mg:Str->Option Te}{base:UW}{k:Nat}{f:Addr}{name a:Str}{d:Arguments}{body:List Stmt}{scope:V0}{X kV m Y c ct oc:Te}{an od:Option Addr}
  {M:Array (Option Te)}{N ps:List Str}{sp:Sp}(lk:K.lookup f=some ⟨oc,od,.func (TQ name a d body scope X kV m Y an c ct),M⟩)(B:Xj K c a=true)(S:FnScope N ps scope)
  (len:∀ vs H Q E,sp vs H Q E->vs.length=ps.length)
  (i:∀ (A:Ug)(outer:List Yi)(s:Th)(H:Hp)(vs:List V)(Q:VK)(E:XK),Room k (A.deeper (envOfC a scope s.heap.objs.size f c))->sp vs H Q E->
   ∃ t,PSs (jQ CX P w K mg base N a scope f c A outer s H E) body t/\t { nx:=fun _ h=>Q .non h,rt:=Q } (start N vs) H) :
  FnOk P w K mg base CX (k+1) f (TQ name a d body scope X kV m Y an c ct) ps sp:=by
 refine ⟨len,fun A outer s H U us vs Q E G p hb r z=>?_⟩
 have hl:=len _ _ _ _ z
 have T:K.In s.heap:=p.mod.kin.keeps fun b o e=>(p.bs b o e).1
 have L:s.heap.NoLimit:=p.mod.nolimit.keeps fun b o e=>(p.bs b o e).1
 have j:∀ y∈ps.zip us,scope.names.lookup y.1=some .local\/(scope.names.lookup y.1=some .cell/\((a2y (s.heap.objs.size+1) scope.names []).lookup y.1).isSome=true):=fun ⟨n,v⟩ hy=>by
  rcases S.par n (Y4 hy).1 with q|q
  ·exact .inl q
  ·exact .inr ⟨q,Zu _ _ _ (.inl q)⟩
 refine codeAny_call_function G.depth (T _ _ lk) rfl S.co S.gen rfl (PySem.W.codeRec_of T B) (hb _ _ _ _ ?_)
 refine wpAny_newFunctionEnv_cells S.kind j fun env he Z x=>?_
 subst he
 refine ⟨L.keeps x.toInCall.keep,codeAny_func ?_⟩
 obtain ⟨t,ht,hq⟩:=i A outer s H vs Q E (G.deeper _) z
 have I:Inv (jQ CX P w K mg base N a scope f c A outer s H E) [] (start N vs) H Z:=Hy S G.hd p hl r x
 refine Uy (ht [] Z (start N vs) H _ I hq) (fun fl R l=>?_) fun e R l=>l
 have aS:∀ {g:St}{h:Hp}{v:V}{u:Te},Inv (jQ CX P w K mg base N a scope f c A outer s H E) [] g h R->RelV v u->Q v h->CE outer P w H s Q u R:=
  fun {g h v u} J O q=>⟨v,h,J.os,J.bare,J.base,J.hok,O,q⟩
 cases fl with
 | ret u=>
  obtain ⟨v,g,h,J,O,q⟩:=l
  exact aS J O q
 | next=>
  obtain ⟨g,h,J,q⟩:=l
  exact aS (v:=V.non) (u:=Vm) J rfl q
 | brk=>
  obtain ⟨_,_,_,q⟩:=l
  exact Vb q
 | cont=>
  obtain ⟨_,_,_,q⟩:=l
  exact Vb q
end L2
namespace L2
open PySem PySem.Spec PyProof.Rows
section
variable {X:Cx}{x:Str}{p pos:Vl}{e:Expr}{es:List Expr}{t:TA}{id T:String}{r:List V->Hp->VK->Prop}
noncomputable def rA (r:List V->Hp->VK->Prop)(t:TA):TE:=fun σ H Q=>t σ H fun vs a=>r vs a Q
theorem HA (hc:CallR X (.builtin id) r)(m:Gl X x)(n:X.mg x=none)(q:Vh x=some (.builtin id))(j:PA X (e::es) t)(o:x ≠ "__name__":=by decide) (b:(x == ("__debug__":Str))=false:=by decide)
  (l:T8 (e::es) X.env=(false,eval e X.env)::T8 es X.env:=by rfl)(c:(Vv pos (T8 es X.env)).any (·.1)=false:=by rfl):PE X (.Call (.Name x p) (e::es) [] pos) (rA r t):=by
 intro a s d H Q I h
 refine VZ (jP I m n q ?_ o b)
 exact a3a (aW (j pos a s d H _ I h) fun y w ⟨z,g,i,v,u⟩=>hc a w d g z y Q i v u) l c
theorem HB (hc:CallR X (.type T) r)(m:Gl X x)(n:X.mg x=none)(q:Vh x=some (.type T))(j:PA X (e::es) t)(o:x ≠ "__name__":=by decide) (b:(x == ("__debug__":Str))=false:=by decide)
  (l:T8 (e::es) X.env=(false,eval e X.env)::T8 es X.env:=by rfl)(c:(Vv pos (T8 es X.env)).any (·.1)=false:=by rfl):PE X (.Call (.Name x p) (e::es) [] pos) (rA r t):=by
 intro a s d H Q I h
 refine VZ (jP I m n q ?_ o b)
 exact Vi (aW (j pos a s d H _ I h) fun y w ⟨z,g,i,v,u⟩=>hc a w d g z y Q i v u) l c
end
end L2
namespace L2
open PySem PySem.Spec PyProof.Rows
section
variable {κ:Type} [DecidableEq κ]
noncomputable def dX (a:List (κ×V))(k:κ):Option V:=(a.find? fun b=>decide (b.1=k)).map (·.2)
noncomputable def gO (a:List (κ×V))(k:κ)(v:V):List (κ×V):=
 if (a.any fun b=>decide (b.1=k))=true then a.map (fun b=>if b.1=k then (b.1,v) else b) else a++[(k,v)]
noncomputable def Au (a:List (κ×V))(k:κ):List (κ×V):=a.filter fun b=>decide (b.1≠k)
theorem uZ {p:κ×V}{r:List (κ×V)}{k:κ}(e:p.1=k):dX (p::r) k=some p.2:=by simp [dX,UL,e]
theorem u3 {p:κ×V}{r:List (κ×V)}{k:κ}(e:¬ p.1=k):dX (p::r) k=dX r k:=by simp [dX,UL,e]
theorem Av (k:κ):∀ a:List (κ×V),(a.any fun b=>decide (b.1=k))=(dX a k).isSome
 | []=>rfl
 | p::r=>by
  rw [V2]
  by_cases e:p.1=k
  ·simp only [uZ e,decide_eq_true e,Bool.true_or,a0n]
  ·rw [u3 e,decide_eq_false e,a2g];exact Av k r
theorem RelO.isSome_eq {o:Option V}{u:Option Te}(r:RelO o u):o.isSome=u.isSome:=by
 cases o with
 | none=>cases u with
  | none=>rfl
  | some _=>exact (show False from r).elim
 | some _=>cases u with
  | none=>exact (show False from r).elim
  | some _=>rfl
theorem RelO.getD {o:Option V}{u:Option Te}{d:V}{d':Te}(r:RelO o u)(a:RelV d d'):RelV (o.getD d) (u.getD d'):=by
 cases o with
 | none=>cases u with
  | none=>exact a
  | some _=>exact (show False from r).elim
 | some _=>cases u with
  | none=>exact (show False from r).elim
  | some _=>exact r
theorem KV.val {a:List (κ×V)}{vs:List (κ×Te)}(r:KV a vs)(k:κ):RelO (dX a k) (ZS vs k):=by
 unfold KV at r
 induction r with
 | nil=>exact V9
 | @cons p q l d h t j=>
  obtain ⟨g,i⟩:=h
  by_cases e:p.1=k
  ·have c:q.1=k:=g.symm.trans e
   have b:ZS (q::d) k=some q.2:=by simp [ZS,UL,c]
   rw [uZ e,b];exact i
  ·have c:¬ q.1=k:=fun z=>e (g.trans z)
   have b:ZS (q::d) k=ZS d k:=by simp [ZS,UL,c]
   rw [u3 e,b];exact j
theorem KV.any {a:List (κ×V)}{vs:List (κ×Te)}(r:KV a vs)(k:κ):(a.any fun b=>decide (b.1=k))=vs.any fun b=>decide (b.1=k):=by
 unfold KV at r
 induction r with
 | nil=>rfl
 | cons h t c=>rw [V2,V2,c,h.1]
theorem KV.repl {b:List (κ×V)}{vs:List (κ×Te)}(r:KV b vs)(k:κ){y:V}{u:Te}(i:RelV y u) :
  KV (b.map fun a=>if a.1=k then (a.1,y) else a) (vs.map fun a=>if a.1=k then (a.1,u) else a):=by
 unfold KV at r ⊢
 induction r with
 | nil=>exact .nil
 | @cons p q j l h t g=>
  rw [Tq,Tq]
  refine .cons ?_ g
  obtain ⟨c,d⟩:=h
  by_cases e:p.1=k
  ·rw [if_pos e,if_pos (c.symm.trans e)];exact ⟨c,i⟩
  ·rw [if_neg e,if_neg (fun z=>e (c.trans z))];exact ⟨c,d⟩
theorem KV.put {a:List (κ×V)}{vs:List (κ×Te)}(r:KV a vs)(k:κ){y:V}{u:Te}(b:RelV y u):KV (gO a k y) (stored vs k u):=by
 unfold gO stored
 rw [r.any k]
 by_cases e:(vs.any fun c=>decide (c.1=k))=true
 ·rw [if_pos e,if_pos e];exact r.repl k b
 ·rw [if_neg e,if_neg e];exact YK r ⟨rfl,b⟩
theorem KV.drop {c:List (κ×V)}{vs:List (κ×Te)}(r:KV c vs)(k:κ):KV (Au c k) (without vs k):=by
 unfold KV at r ⊢
 unfold Au without
 induction r with
 | nil=>exact .nil
 | @cons p q l m h t g=>
  obtain ⟨d,j⟩:=h
  rw [XQ,XQ]
  by_cases e:p.1=k
  ·have a:¬ decide (p.1≠k)=true:=by simp [e]
   have b:¬ decide (q.1≠k)=true:=by simp [d.symm.trans e]
   rw [if_neg a,if_neg b];exact g
  ·have i:¬ q.1=k:=fun z=>e (d.trans z)
   have a:decide (p.1≠k)=true:=by simp [e]
   have b:decide (q.1≠k)=true:=by simp [i]
   rw [if_pos a,if_pos b];exact .cons ⟨d,j⟩ g
theorem KV.keys {a:List (κ×V)}{vs:List (κ×Te)}(r:KV a vs):a.map (·.1)=vs.map (·.1):=by
 unfold KV at r
 induction r with
 | nil=>rfl
 | cons h t b=>rw [Tq,Tq,b,h.1]
theorem KV.length {a:List (κ×V)}{vs:List (κ×Te)}(r:KV a vs):a.length=vs.length:=Zl r
end
noncomputable abbrev KT (H:Hp):List (List aN×V)->List (List aN×Addr×Te)->Prop:=Xl fun p q=>p.1=q.1/\H q.2.1=some (.tup (p.1.map kV))/\RelV p.2 q.2.2
theorem KT.val {H:Hp}{a:List (List aN×V)}{xs:List (List aN×Addr×Te)}(r:KT H a xs)(k:List aN):RelO (dX a k) ((Xq xs k).map (·.2)):=by
 induction r with
 | nil=>exact V9
 | @cons p q l d h t j=>
  obtain ⟨g,_,i⟩:=h
  by_cases e:p.1=k
  ·have c:q.1=k:=g.symm.trans e
   have b:Xq (q::d) k=some q.2:=by simp [Xq,UL,c]
   rw [uZ e,b];exact i
  ·have c:¬ q.1=k:=fun z=>e (g.trans z)
   have b:Xq (q::d) k=Xq d k:=by simp [Xq,UL,c]
   rw [u3 e,b];exact j
theorem KT.repl {H:Hp}{a:List (List aN×V)}{xs:List (List aN×Addr×Te)}(r:KT H a xs)(k:List aN){y:V}{u:Te}(j:RelV y u) :
  KT H (a.map fun c=>if c.1=k then (c.1,y) else c) (xs.map (a3v k u)):=by
 induction r with
 | nil=>exact .nil
 | @cons p q l m h t i=>
  rw [Tq,Tq]
  refine .cons ?_ i
  obtain ⟨b,d,g⟩:=h
  unfold a3v
  by_cases e:p.1=k
  ·rw [if_pos e,if_pos (b.symm.trans e)];exact ⟨b,d,j⟩
  ·rw [if_neg e,if_neg (fun z=>e (b.trans z))];exact ⟨b,d,g⟩
theorem KT.put {H:Hp}{a:List (List aN×V)}{xs:List (List aN×Addr×Te)}(r:KT H a xs)(k:List aN){b:Addr}{y:V}{u:Te}(d:H b=some (.tup (k.map kV)))(c:RelV y u) :
  KT H (gO a k y) (a2m xs k b u):=by
 have e:(a.any fun g=>decide (g.1=k))=(Xq xs k).isSome:=by
  rw [Av,(r.val k).isSome_eq,Xx]
 unfold gO a2m
 rw [e]
 by_cases q:(Xq xs k).isSome=true
 ·rw [if_pos q,if_pos q];exact r.repl k c
 ·rw [if_neg q,if_neg q];exact YK r ⟨rfl,d,c⟩
theorem KT.keeps {H c:Hp}{a:List (List aN×V)}{xs:List (List aN×Addr×Te)}(r:KT H a xs)(e:∀ b d,H b=some (.tup d)->c b=some (.tup d)):KT c a xs:=
 Xl.mapP r fun _ _ z=>⟨z.1,e _ _ z.2.1,z.2.2⟩
section
variable {P:T3}{w:Uk}{H:Hp}{h:UW}{a:Addr}
end
noncomputable def DGet (H:Hp)(a:Addr)(y:V)(r:Option V):Prop:=
 (∃ c k,Rd H a (.dK c)/\y=kV k/\r=dX c k)\/∃ c k b,Rd H a (.dT c)/\y=.ref b/\H b=some (.tup (k.map kV))/\r=dX c k
noncomputable def DPut (H:Hp)(a:Addr)(y v:V)(d:Hp):Prop:=
 (∃ c k,H a=some (.dK c)/\y=kV k/\c.length<TC/\d=aO H a (.dK (gO c k v))) \/
 ∃ c k b,H a=some (.dT c)/\y=.ref b/\H b=some (.tup (k.map kV))/\c.length<TC/\d=aO H a (.dT (gO c k v))
theorem DGet.k {H:Hp}{a:Addr}{b:List (aN×V)}{k:aN}(e:H a=some (.dK b)):DGet H a (kV k) (dX b k):=.inl ⟨b,k,.inl e,rfl,rfl⟩
theorem DGet.t {H:Hp}{a b:Addr}{c:List (List aN×V)}{k:List aN}(e:H a=some (.dT c))(d:H b=some (.tup (k.map kV))):DGet H a (.ref b) (dX c k):=.inr ⟨c,k,b,.inl e,rfl,d,rfl⟩
theorem DPut.k {H:Hp}{a:Addr}{b:List (aN×V)}{k:aN}{v:V}(e:H a=some (.dK b))(c:b.length<TC):DPut H a (kV k) v (aO H a (.dK (gO b k v))):=.inl ⟨b,k,e,rfl,c,rfl⟩
theorem DPut.t {H:Hp}{a b:Addr}{c:List (List aN×V)}{k:List aN}{v:V}(e:H a=some (.dT c))(d:H b=some (.tup (k.map kV)))(g:c.length<TC) :
  DPut H a (.ref b) v (aO H a (.dT (gO c k v))):=.inr ⟨c,k,b,e,rfl,d,g,rfl⟩
section
variable {X:Cx}{a3J:List (Addr×Obj)}{σ:St}{H:Hp}{s:Th}{a:Addr}{y v:V}{u r:Te}{o:Option V}{A:Ug}{E:Te->Th->Prop}
theorem Inv.big (I:Inv X a3J σ H s):UR<s.heap.objs.size:=by
 have h:US<s.heap.objs.size:=(I.mod.glob.keeps I.bk).lt
 exact X5 (by decide) h
theorem HC {h':UW}{t':Nat}{ob:HO}(I:Inv X a3J σ H s)(g:oX (H a))(e:VP a s.heap h')(d:∃ q,h'.get? a=some q)(new:ObjOk X.prog X.w (aO H a ob) h' a ob) :
  Inv X a3J σ (aO H a ob) { s with heap:=h',toks:=t' }:=
 I.write (x:=a) (e:=a) g (.inl rfl) (fun b q c z=>(e.2 b c).trans z) d new
end
section
variable {X:Cx}{a3J:List (Addr×Obj)}{σ:St}{H:Hp}{s:Th}{a:Addr}{kvs:List (aN×V)}{k:aN}{u:Te}{A:Ug}{E:Te->Th->Prop}
end
noncomputable def Aw (i:Expr):Prop:=∀ b a,Zx i false b a=operate [b,a] (ZT b a)
theorem HD {prog:T3}{w:Uk}{A:Ug}{E:Te->Th->Prop}{s:Th}{env:Yi}{b a:Expr}{pos:Vl}{T id:String}{Q:Te->Th->Prop}
  (n:Z0 (.type T) "__getitem__" = pure (some (.builtin id))) (p:Aw a)
  (h:TX (T7 prog w) A (eval b env) (fun o e=>TX (T7 prog w) A (eval a env) (fun i c=>c.TypeIs o T/\TX (T7 prog w) A (ZT o i) Q E c) E e) E s) :
  TX (T7 prog w) A (eval (.Subscript b a pos) env) Q E s:=by
 refine Z7 (Uy h (fun o e j=>Uy j (fun i c d=>?_) fun _ _ x=>x) fun _ _ x=>x)
 obtain ⟨m,d⟩:=d
 unfold YR
 refine Td ?_
 rw [getitemInPython_of_ne m.not_modules]
 refine Td (WO m n ?_)
 have aS:TX (T7 prog w) A (Zx a false o i) (fun r g=>TX (T7 prog w) A (letTemporaryGo b o r >>= fun _=>pure r) Q E g) E c:=by
  rw [p o i]
  exact wpAny_operating (Uy d (fun r g l=>Td (wpAny_letTemporaryGo (Tr l))) fun _ _ x=>x)
 first
  | exact Tr (Td aS)
  | exact Td (Tr (Td aS))
  | exact Td aS
section
variable {X:Cx}{o i e value:Expr}{pos pos' tpos:Vl}{td ty tv:TE}
end
section
variable {X:Cx}{pos:Vl}
end
noncomputable def Ax:List (TE×TE)->St->Hp->(List (V×V)->Hp->Prop)->Prop
 | [],_,H,Q=>Q [] H
 | (tk,tv)::r,σ,H,Q=>tk σ H fun x a=>tv σ a fun y b=>Ax r σ b fun d c=>Q ((x,y)::d) c
noncomputable abbrev VV:List (V×V)->List (Te×Te)->Prop:=Xl fun p q=>RelV p.1 q.1/\RelV p.2 q.2
noncomputable def HE (X:Cx)(pos:Vl)(keys:List (Option Expr))(a:List Expr)(b:List (TE×TE)):Prop:=
 ∀ (a3J:List (Addr×Obj))(s:Th)(σ:St)(H:Hp)(Q:List (V×V)->Hp->Prop),Inv X a3J σ H s->Ax b σ H Q->
  TX (T7 X.prog X.w) X.A (evalPairs (pairTrees keys a X.env pos)) (fun g e=>∃ d c,Inv X a3J σ c e/\VV d g/\Q d c) X.xe s
noncomputable def Ay (b more:List (aN×V)):List (aN×V):=more.foldl (fun a c=>gO a c.1 c.2) b
theorem KV.merge:∀ {more:List (aN×V)}{b:List (aN×Te)}{a:List (aN×V)}{vs:List (aN×Te)},KV more b->KV a vs->KV (Ay a more) (merged vs b):=by
 intro more b a vs r
 unfold KV at r
 induction r generalizing a vs with
 | nil=>intro q;exact q
 | @cons p q g i h t c=>
  intro d
  have e:KV (gO a p.1 p.2) (stored vs q.1 q.2):=by
   have:=d.put p.1 h.2
   rw [<- h.1];exact this
  exact c e
structure M1 (X:Cx)(o:Expr)(m:Str)(apos:Vl)(e:Expr)(cpos:Vl):Prop where
 base:Wq o m X.env (eval o X.env)=eval o X.env
 few:((Vv cpos (T8 [e] X.env)).all (fun x=>!x.1)&&(Xp cpos (Wg [] X.env)).all (fun x=>x.1.isSome)
  && decide (([e]:List Expr).length+([]:List Wx).length+(if ([]:List Wx).isEmpty then 0 else 1)<30))=true
 line:(apos.endLine == cpos.line)=true
 trees:Vv cpos (T8 [e] X.env)=[(false,eval e X.env)]
structure M2 (X:Cx)(o:Expr)(m:Str)(apos:Vl)(e f:Expr)(cpos:Vl):Prop where
 base:Wq o m X.env (eval o X.env)=eval o X.env
 few:((Vv cpos (T8 [e,f] X.env)).all (fun x=>!x.1)&&(Xp cpos (Wg [] X.env)).all (fun x=>x.1.isSome)
  && decide (([e,f]:List Expr).length+([]:List Wx).length+(if ([]:List Wx).isEmpty then 0 else 1)<30))=true
 line:(apos.endLine == cpos.line)=true
 trees:Vv cpos (T8 [e,f] X.env)=[(false,eval e X.env),(false,eval f X.env)]
noncomputable def IsD (H:Hp)(a:Addr):Prop:=(∃ b,Rd H a (.dK b))\/∃ b,Rd H a (.dT b)
section
variable {X:Cx}{a3J:List (Addr×Obj)}{σ:St}{H:Hp}{s:Th}{a:Addr}{y d:V}{u r:Te}{o:Option V}{A:Ug}{E:Te->Th->Prop}
end
section
variable {X:Cx}{o e f:Expr}{apos cpos:Vl}{td ty tx:TE}
end
section
variable {X:Cx}{a3J:List (Addr×Obj)}{σ:St}{H:Hp}{s:Th}{a:Addr}{kvs:List (aN×V)}{A:Ug}{E:Te->Th->Prop}
end
section
variable {X:Cx}{a3J:List (Addr×Obj)}{σ:St}{H:Hp}{s:Th}{a:Addr}{y:V}{u:Te}{A:Ug}{E:Te->Th->Prop}
end
end L2
namespace HT
open PySem PyProof.Rows
noncomputable def lexLt:List Int->List Int->Bool
 | [],[]=>false
 | [],_::_=>true
 | _::_,[]=>false
 | x::xs,y::ys=>if x=y then lexLt xs ys else decide (x<y)
theorem lexLt_cons (x y:Int)(xs a:List Int):lexLt (x::xs) (y::a)=if x=y then lexLt xs a else decide (x<y):=rfl
section
open PySem.SeqAt
open PySem.AutoSeq1 (wpAny_loadPart')
open PySem.MeetsSeq PySem.MeetsSeq2 PySem.MeetsSeq3
end
section
variable {prog:T3}{w:Uk}{A:Ug}{E:Te->Th->Prop}{s:Th}
noncomputable def sIx (n d:Nat):Option Int->Nat
 | none=>d
 | some v=>if v<0 then (v+(n:Int)).toNat else min v.toNat n
theorem sIx_none (n d:Nat):sIx n d none=d:=rfl
end
end HT
namespace L2
open PySem PySem.Spec PyProof.Rows
noncomputable abbrev TO:=St->Hp->(Option Int->Hp->Prop)->Prop
noncomputable def PO (X:Cx)(e:Option Expr)(t:TO):Prop:=
 ∀ (a3J:List (Addr×Obj))(s:Th)(σ:St)(H:Hp)(Q:Option Int->Hp->Prop),Inv X a3J σ H s->t σ H Q->
  TX (T7 X.prog X.w) X.A (evalPart e X.env) (fun u b=>∃ o a,Inv X a3J σ a b/\IsPart u o/\Q o a) X.xe s
noncomputable def HF:TO:=fun _ H Q=>Q none H
noncomputable def HG (t:TE):TO:=fun σ H Q=>t σ H fun x a=>∃ i,x=.int i/\Q (some i) a
theorem Az {ns:List Int}:∀ {us:List Te},Vals (ns.map V.int) us->Yn us ns:=by
 induction ns with
 | nil=>intro us r;rw [WS] at r;cases r;exact .nil
 | cons n ns a=>
  intro us r
  rw [Tq] at r
  cases r with
  | cons b c=>
   obtain ⟨t,e⟩:=b
   subst e
   exact .cons n t (a c)
section
variable {X:Cx}{e:Expr}{te:TE}{lo hi:Option Expr}{tl th:TO}{pos p2:Vl}
theorem HH:PO X none HF:=by
 intro a s b H Q I h
 rw [evalPart_none]
 exact Tr ⟨none,H,I,.none,h⟩
theorem HJ (h:PE X e te):PO X (some e) (HG te):=by
 intro a s j H Q I hw
 rw [evalPart_some]
 refine aW (h a s j H _ I hw) fun u l ⟨x,b,c,g,d⟩=>?_
 obtain ⟨i,rfl,q⟩:=d
 obtain ⟨t,rfl⟩:=g
 exact ⟨some i,b,c,.int i t,q⟩
noncomputable def SlR (X:Cx)(r:V->Option Int->Option Int->Hp->VK->Prop):Prop:=
 ∀ (a3J:List (Addr×Obj))(s:Th)(σ:St)(H:Hp)(x:V)(v b c:Te)(lo hi:Option Int)(a:Addr)(Q:VK),Inv X a3J σ H s->RelV x v->s.heap.IsSliceOf a b c .none->IsPart b lo->IsPart c hi->r x lo hi H Q->
  ∃ T id,Z0 (.type T) "__getitem__" = pure (some (.builtin id))/\s.TypeIs v T/\TX (T7 X.prog X.w) X.A (ZT v (.ref a)) (EP X a3J σ Q) X.xe s
theorem SlR.or {r g:V->Option Int->Option Int->Hp->VK->Prop}(h:SlR X r)(h':SlR X g):SlR X (fun x lo hi H Q=>r x lo hi H Q\/g x lo hi H Q):=by
 intro a s n H x v l m lo hi j Q I i b c d q
 rcases q with q|q
 ·exact h a s n H x v l m lo hi j Q I i b c d q
 ·exact h' a s n H x v l m lo hi j Q I i b c d q
noncomputable def HK (r:V->Option Int->Option Int->Hp->VK->Prop)(te:TE)(tl th:TO):TE:=fun σ H Q=>te σ H fun x a=>tl σ a fun l b=>th σ b fun u c=>r x l u c Q
theorem HL {r:V->Option Int->Option Int->Hp->VK->Prop}(G:SlR X r)(A:PE X e te)(E:PO X lo tl)(K:PO X hi th):PE X (.Subscript e (.Slice lo hi none p2) pos) (HK r te tl th):=by
 intro a s d H Q I h
 refine Z7 (aW (A a s d H _ I h) fun v Y ⟨x,m,o,U,N⟩=>?_)
 refine wpAny_Slice (aW (E a Y d m _ o N) fun g Z ⟨l,n,p,L,O⟩=>aW (K a Z d n _ p O) fun i c ⟨u,j,w,M,R⟩=>?_)
 rw [evalPart_none]
 refine Tr ?_
 have y:Inv X a d j { c with heap:=c.heap.push { cls:=.type "slice",data:=.fields #[g,i,.none] } }:=w.kept (t':=c.toks) fun b ob q=>Ti _ q
 obtain ⟨T,id,z,J,B⟩:=G a { c with heap:=c.heap.push { cls:=.type "slice",data:=.fields #[g,i,.none] } } d j x v g i l u c.heap.objs.size Q y U (Y7 ..) L M R
 show TX (T7 X.prog X.w) X.A (YR e (.Slice lo hi none p2) v (.ref c.heap.objs.size)) (EP X a d Q) X.xe { c with heap:=c.heap.push { cls:=.type "slice",data:=.fields #[g,i,.none] } }
 exact a3s (ops:=[.ref c.heap.objs.size,v]) J z B (by with_unfolding_all rfl)
noncomputable def kR (xs:List V)(lo hi:Option Int):List V:=(xs.drop (HT.sIx xs.length 0 lo)).take (HT.sIx xs.length xs.length hi - HT.sIx xs.length 0 lo)
theorem HM (xs:List V)(lo hi:Option Int):(kR xs lo hi).length<=xs.length:=by
 unfold kR
 rw [Uv,Ww]
 omega
end
end L2
namespace L2
open PySem PySem.Spec PyProof.Rows
noncomputable def kS (n:Nat)(i:Int):Option Nat:=if 0<=i then (if i<n then some i.toNat else none) else if -(n:Int)<=i then some (i+n).toNat else none
noncomputable def atI {a:Type}(xs:List a)(i:Int):Option a:=(kS xs.length i).bind fun j=>xs[j]?
theorem HN {n:Nat}{i:Int}{j:Nat}(h:kS n i=some j):seqIndex? i n=some j/\j<n/\-(n:Int)<=i/\i<n:=by
 unfold kS at h
 by_cases b:0<=i
 ·rw [if_pos b] at h
  by_cases a:i<n
  ·rw [if_pos a] at h
   have e:i.toNat=j:=TL h
   exact ⟨by rw [seqIndex_of b a,e],by omega,by omega,a⟩
  ·rw [if_neg a] at h;cases h
 ·rw [if_neg b] at h
  by_cases a:-(n:Int)<=i
  ·rw [if_pos a] at h
   have e:(i+n).toNat=j:=TL h
   exact ⟨by rw [seqIndex_neg (by omega) a,e],by omega,a,by omega⟩
  ·rw [if_neg a] at h;cases h
theorem u4 {a:Type}{xs:List a}{i:Int}{v:a}(h:atI xs i=some v):∃ j,seqIndex? i xs.length=some j/\xs[j]? = some v/\j<xs.length/\-(xs.length:Int)<=i/\i<xs.length:=by
 unfold atI at h
 cases e:kS xs.length i with
 | none=>rw [e] at h;cases h
 | some j=>
  rw [e] at h
  obtain ⟨b,c,d,g⟩:=HN e
  exact ⟨j,b,h,c,d,g⟩
noncomputable def u5 (b:Expr):Prop:=∀ o i,Zx b false o i=operate [o,i] (ZT o i)
noncomputable def IxR (X:Cx)(r:R2):Prop:=
 ∀ (b a:Expr)(a3J:List (Addr×Obj))(s:Th)(σ:St)(H:Hp)(x y:V)(v u:Te)(Q:VK),Inv X a3J σ H s->RelV x v->RelV y u->r x y H Q->
  Zx a false v u=operate [v,u] (ZT v u)->TX (T7 X.prog X.w) X.A (YR b a v u) (EP X a3J σ Q) X.xe s
noncomputable def MtR (X:Cx)(id:String)(r:V->List V->Hp->VK->Prop):Prop:=
 ∀ (a3J:List (Addr×Obj))(s:Th)(σ:St)(H:Hp)(x:V)(xs:List V)(v:Te)(us:List Te)(Q:VK),Inv X a3J σ H s->RelV x v->Vals xs us->r x xs H Q->
  TX (T7 X.prog X.w) X.A (call (.builtin id) (v::us)) (EP X a3J σ Q) X.xe s
section
variable {X:Cx}{a b:Expr}{ta tb:TE}{pos:Vl}
theorem IxR.or {r i:R2}(h:IxR X r)(h':IxR X i):IxR X (fun x y H Q=>r x y H Q\/i x y H Q):=by
 intro d c e s m H x y v u Q I j l q g
 rcases q with q|q
 ·exact h d c e s m H x y v u Q I j l q g
 ·exact h' d c e s m H x y v u Q I j l q g
theorem MtR.or {id:String}{r d:V->List V->Hp->VK->Prop}(h:MtR X id r)(h':MtR X id d):MtR X id (fun x xs H Q=>r x xs H Q\/d x xs H Q):=by
 intro c s j H x xs v i Q I g e q
 rcases q with q|q
 ·exact h c s j H x xs v i Q I g e q
 ·exact h' c s j H x xs v i Q I g e q
theorem HP {r:R2}(j:IxR X r)(g:PE X a ta)(i:PE X b tb)(l:u5 b):PE X (.Subscript a b pos) (o6 r ta tb):=by
 intro c s p H Q I h
 exact Z7 (uM g i I h fun v u o x y d e m n q=>j a b c o p d x y v u Q e m n q (l _ _))
noncomputable def AA (K:Ta):R2:=fun x y H Q=>∃ p xs i v,x=.ref p/\y=.int i/\SqL K H p xs/\atI xs i=some v/\Q v H
noncomputable def AB (K:Ta):R2:=fun x y H Q=>∃ p xs i v,x=.ref p/\y=.int i/\SqT K H p xs/\atI xs i=some v/\Q v H
noncomputable def AD:R2:=fun x y H Q=>∃ z i c,x=.str z/\y=.int i/\z.length<=TC/\atI z.cps.toList i=some c/\Q (.str ⟨#[c]⟩) H
theorem ix_list:IxR X (AA X.K):=by
 intro o n c s G H x y v u Q I R T h E
 obtain ⟨p,xs,i,z,rfl,rfl,O,M,q⟩:=h
 cases R
 obtain ⟨t,rfl⟩:=T
 obtain ⟨g,r,l,hz⟩:=I.list O
 obtain ⟨j,d,J,Y,K,L⟩:=u4 M
 obtain ⟨w,A,m⟩:=r.get J
 have N:=r.length
 have Z:=m9
 have aS:EP X c G Q w s:=⟨z,H,I,m,q⟩
 by_cases B:0<=i
 ·have e:i.toNat=j:=by
   rw [seqIndex_of B L] at d
   exact TL d
  exact item_listR l.isList B (by omega) (by rw [e];simpa using A) aS E
 ·have e:(i+(g.toArray.size:Int)).toNat=j:=by
   rw [seqIndex_neg (by omega) K] at d
   rw [TN,<- N]
   exact TL d
  exact a0S (x:=w) l.isList.typeIs Y9.lookup
   (wpAny_getItem_list_neg (Q:=fun r U=>r=w/\EP X c G Q r U) l.isList (by omega) (by rw [TN]<;>omega) (by omega) (by rw [e];simpa using A) ⟨rfl,aS⟩) E
theorem ix_tup:IxR X (AB X.K):=by
 intro g e c s m H x y v u Q I L M h J
 obtain ⟨p,Z,i,z,rfl,rfl,G,B,q⟩:=h
 cases L
 obtain ⟨t,rfl⟩:=M
 obtain ⟨K,r,l,Y⟩:=I.tuple G
 obtain ⟨j,o,A,O,R,T⟩:=u4 B
 obtain ⟨w,n,d⟩:=r.get A
 have E:=r.length
 have U:=m9
 have aS:EP X c m Q w s:=⟨z,H,I,d,q⟩
 exact a0S (x:=w) l.typeIs slot_tuple_getitem.lookup
  (getItem_tuple (j:=j) (Q:=fun r N=>r=w/\EP X c m Q r N) l (by omega) (by omega) (by rw [TN,<- E];exact o) (by simpa using n) ⟨rfl,aS⟩) J
theorem HQ:IxR X AD:=by
 intro e d l s N H x y v u Q I E G h B
 obtain ⟨z,i,c,rfl,rfl,L,w,q⟩:=h
 obtain ⟨t,rfl⟩:=E
 obtain ⟨M,rfl⟩:=G
 obtain ⟨j,g,o,J,p,r⟩:=u4 w
 have A:z.cps.toList.length=z.length:=by simp [Str.length]
 rw [A] at g p r
 have K:=m9
 exact a3s (a1X s z t) slot_str_getitem.lookup (getItem_str (c:=c) (by
  have m:decide (i < -(2 ^ 63:Int))=false:=decide_eq_false (by omega)
  have n:decide (i >= 2 ^ 63)=false:=decide_eq_false (by omega)
  rw [m,n,a2f]) (by rw [g];simpa using o) ⟨.str ⟨#[c]⟩,H,I.tok _,⟨_,rfl⟩,q⟩) B
noncomputable def AE (K:Ta):R2:=fun x y H Q=>AA K x y H Q\/AB K x y H Q\/AD x y H Q
theorem HR:IxR X (AE X.K):=ix_list.or (ix_tup.or HQ)
theorem Inv.lst {a3J:List (Addr×Obj)}{σ:St}{H:Hp}{s:Th}{p:Addr}{xs:List V}(I:Inv X a3J σ H s)(h:H p=some (.lst xs)) :
  ∃ (its:List Te)(n:Nat),Vals xs its/\s.heap.get? p=some { cls:=.type "list",data:=.seq its.toArray n }/\xs.length<=TC:=by
 obtain ⟨z,its,n,r,e⟩:=I.hok p _ h
 exact ⟨its,n,r,e,z⟩
theorem HS (lo c:Option Int)(n:Nat):(VI lo c none n).1=((HT.sIx n 0 lo:Nat):Int)/\(VI lo c none n).2.1=((HT.sIx n n c:Nat):Int)/\(VI lo c none n).2.2=1:=by
 refine ⟨?_,?_,rfl⟩
 ·cases lo with
  | none=>simp [VI,HT.sIx]
  | some i=>
   simp only [VI,HT.sIx,Yz,show (1:Int)>0 by decide,if_true]
   by_cases h:i<0
   ·simp only [h,if_true]<;>omega
   ·simp only [h,if_false]<;>omega
 ·cases c with
  | none=>simp [VI,HT.sIx]
  | some i=>
   simp only [VI,HT.sIx,Yz,show (1:Int)>0 by decide,if_true]
   by_cases h:i<0
   ·simp only [h,if_true]<;>omega
   ·simp only [h,if_false]<;>omega
theorem HU (its:List Te)(lo c:Option Int):a0G its.toArray lo c none=((its.drop (HT.sIx its.length 0 lo)).take (HT.sIx its.length its.length c - HT.sIx its.length 0 lo)).toArray:=by
 obtain ⟨d,e,g⟩:=HS lo c its.toArray.size
 unfold a0G
 rw [d,e,g]
 simp only [sliceRange_one,pick_run,TN]<;>rfl
noncomputable def u6 (K:Ta):V->Option Int->Option Int->Hp->VK->Prop:=fun x lo c H Q=>∃ a xs,x=.ref a/\SqL K H a xs/\∀ p,H p=none->Q (.ref p) (aO H p (.lst (kR xs lo c)))
theorem HV:SlR X (u6 X.K):=by
 intro j s E H x v A B e g z Q I w l p u h
 obtain ⟨a,c,rfl,m,q⟩:=h
 cases w
 obtain ⟨o,r,i,n⟩:=I.list m
 have d:=r.length
 refine ⟨"list",_,Y9.lookup,i.isList.typeIs,?_⟩
 refine a0v i.isList l p u .none (by simp) ?_ (by rw [TN]<;>omega)
 rw [HU,<- d]
 refine ⟨.ref s.heap.objs.size,_,I.laid (t':=s.toks) (o:=.lst (kR c e g)) (fun b y q=>Ti _ q) (Tt _) ?_,rfl,q _ (I.hok.fresh (Tt _))⟩
 exact ⟨UE (HM c e g) n,_,0,(r.drop (HT.sIx c.length 0 e)).take (HT.sIx c.length c.length g - HT.sIx c.length 0 e),TJ _ rfl⟩
theorem AF:OpR X (UG .NotIn) (fun x y H Q=>∃ i j,x=.str i/\y=.str j/\Q (.bl (!(!(U8 j i 0 j.length 1).isEmpty))) H):=by
 intro c s l H x y v u Q I d e h
 obtain ⟨i,j,rfl,rfl,q⟩:=h
 obtain ⟨t,rfl⟩:=d
 obtain ⟨g,rfl⟩:=e
 exact notIn_str ⟨.bl _,H,I,rfl,q⟩
theorem call_len_seq:CallR X (.builtin "len") (fun xs H Q=>∃ p d,xs=[.ref p]/\(SqL X.K H p d\/SqT X.K H p d)/\Q (.int d.length) H):=by
 intro l s w H xs v Q I r h
 obtain ⟨p,d,rfl,e,q⟩:=h
 obtain ⟨u,rfl,n⟩:=fC r
 cases n
 have o:=m9
 rcases e with e|e
 ·obtain ⟨g,j,i,m⟩:=I.list e
  have c:=j.length
  exact Calls.call_len_list i.isList (by simp only [TN]<;>omega) ⟨.int d.length,H,I.tok _,⟨s.toks+1,by rw [TN,c]⟩,q⟩
 ·obtain ⟨g,j,i,m⟩:=I.tuple e
  have c:=j.length
  exact len_tuple i (by simp only [TN]<;>omega) ⟨.int d.length,H,I.tok _,⟨s.toks+1,by rw [TN,c]⟩,q⟩
theorem HW:CallR X (.builtin "len") (fun xs H Q=>∃ z,xs=[.str z]/\z.length<=TC/\Q (.int z.length) H):=by
 intro c s i H xs g Q I r h
 obtain ⟨z,rfl,e,q⟩:=h
 obtain ⟨u,rfl,t,rfl⟩:=fC r
 have d:=m9
 exact len_str (by omega) ⟨.int z.length,H,I.tok _,⟨_,rfl⟩,q⟩
theorem CallR.or {f:Te}{r d:List V->Hp->VK->Prop}(h:CallR X f r)(h':CallR X f d):CallR X f (fun xs H Q=>r xs H Q\/d xs H Q):=by
 intro c s i H xs g Q I e q
 rcases q with q|q
 ·exact h c s i H xs g Q I e q
 ·exact h' c s i H xs g Q I e q
theorem call_list_of:CallR X (.type "list") (fun xs H Q=>∃ p g,xs=[.ref p]/\(SqL X.K H p g\/SqT X.K H p g)/\∀ l,H l=none->Q (.ref l) (aO H l (.lst g))):=by
 intro w s B H xs E Q I r h
 obtain ⟨p,g,rfl,j,q⟩:=h
 obtain ⟨u,rfl,A⟩:=fC r
 cases A
 have aS:∀ (its:List Te),Vals g its->g.length<=TC->∀ (h':UW)(c:Nat),(∀ b z,s.heap.get? b=some z->h'.get? b=some z)->
   h'.get? s.heap.objs.size=some { cls:=.type "list",dict:=none,data:=.seq its.toArray c,slots:=#[] }->EP X w B Q (.ref s.heap.objs.size) { s with heap:=h' }:=fun its d m h' c v e=>
  ⟨.ref s.heap.objs.size,_,I.laid (t':=s.toks) v (Tt _) (show ObjOk X.prog X.w _ h' _ (.lst g) from ⟨m,its,c,d,e⟩),rfl,q _ (I.hok.fresh (Tt _))⟩
 rcases j with j|j
 ·obtain ⟨its,d,y,m⟩:=I.list j
  have i:=d.length
  obtain ⟨o,x,hc,n,hd⟩:=y.isList
  exact call_list_seq p (.inl rfl) x hc hd (fun h' c v e=>aS its d m h' c v e) (by simp only [TN]<;>omega)
 ·obtain ⟨its,d,y,m⟩:=I.tuple j
  have i:=d.length
  obtain ⟨o,x,hc,n,hd⟩:=y
  exact call_list_seq p (.inr rfl) x hc hd (fun h' c v e=>aS its d m h' c v e) (by simp only [TN]<;>omega)
noncomputable def u7 (K:Ta)(T:String)(x:V)(H:Hp):Prop:=match x with
 | .str _=>T = "str"
 | .int _=>T = "int"
 | .ref p=>(T = "list"/\∃ d,SqL K H p d)\/(T = "tuple"/\∃ o,K.lookup p=some o/\o.cls=.type "tuple"/\o.dict=none) \/
   (T = "dict"/\((∃ c,H p=some (.dK c))\/∃ c,H p=some (.dT c)))\/(T = "set"/\∃ S n,H p=some (.set S n))
 | _=>False
theorem HX {a3J:List (Addr×Obj)}{σ:St}{H:Hp}{s:Th}{T:String}{x:V}{v:Te}(I:Inv X a3J σ H s)(r:RelV x v)(ty:u7 X.K T x H) :
  s.TypeIs v T/\∀ a,v=.ref a->∃ l,s.heap.get? a=some l/\l.dict=none:=by
 cases x with
 | str z=>
  obtain ⟨t,rfl⟩:=r
  cases (show T = "str" from ty)
  exact ⟨a1X s z t,fun _ e=>nomatch e⟩
 | int i=>
  obtain ⟨t,rfl⟩:=r
  cases (show T = "int" from ty)
  exact ⟨typeIs_int s i t,fun _ e=>nomatch e⟩
 | ref p=>
  cases r
  rcases ty with ⟨rfl,w,q⟩|⟨rfl,o,d,hc,hd⟩|⟨rfl,d⟩|⟨rfl,S,n,d⟩
  ·obtain ⟨u,_,m,_⟩:=I.list q
   refine ⟨m.isList.typeIs,fun a e=>?_⟩
   cases e
   obtain ⟨o,n,e,c,hd,_⟩:=m
   exact ⟨o,e,hd⟩
  ·refine ⟨⟨o,I.kIn p o d,hc⟩,fun a e=>?_⟩
   cases e
   exact ⟨o,I.kIn _ o d,hd⟩
  ·have z:∃ o,s.heap.get? p=some o/\o.ExactDict:=by
    rcases d with ⟨j,d⟩|⟨j,d⟩
    ·obtain ⟨_,_,_,_,o,_,_,e,g,_⟩:=I.hok p _ d
     exact ⟨o,e,g⟩
    ·obtain ⟨_,_,_,_,o,_,_,e,g,_⟩:=I.hok p _ d
     exact ⟨o,e,g⟩
   obtain ⟨o,e,g⟩:=z
   refine ⟨⟨o,e,g.1⟩,fun a h=>?_⟩
   cases h
   exact ⟨o,e,g.2.1⟩
  ·obtain ⟨o,_,_,_,e,g,_⟩:=I.hok p _ d
   refine ⟨⟨o,e,g.1⟩,fun a h=>?_⟩
   cases h
   exact ⟨o,e,g.2.1⟩
 | _=>exact Vb ty
noncomputable def u9 (K:Ta)(T:String)(r:V->List V->Hp->VK->Prop)(to:TE)(t:TA):TE:=fun σ H Q=>to σ H fun x c=>u7 K T x c/\t σ c fun xs d=>r x xs d Q
variable {o e:Expr}{es:List Expr}{to:TE}{t:TA}{name:Str}{apos cpos:Vl}{T id:String}{r:V->List V->Hp->VK->Prop}
theorem AG (K:PlainAttrs T)(slot:Slot T name id)(l:a1W (.builtin id)=pure (.type "method_descriptor")) (E:MtR X id r)(G:PE X o to)(B:PA X (e::es) t)
  (g:Wq o name X.env (eval o X.env)=eval o X.env:=by rfl)
  (j:((Vv cpos (T8 (e::es) X.env)).all (fun x=>!x.1)&&(Xp cpos (Wg [] X.env)).all (fun x=>x.1.isSome)
   && decide ((e::es).length+([]:List Wx).length+(if ([]:List Wx).isEmpty then 0 else 1)<30))=true:=by rfl)
  (i:(apos.endLine == cpos.line)=true:=by rfl)(J:T8 (e::es) X.env=(false,eval e X.env)::T8 es X.env:=by rfl)(c:(Vv cpos (T8 es X.env)).any (·.1)=false:=by rfl) :
  PE X (.Call (.Attribute o name apos) (e::es) [] cpos) (u9 X.K T r to t):=by
 intro d s m H Q I h
 refine a0R g j i rfl (aW (G d s m H _ I h) fun v O ⟨x,u,n,q,ty,L⟩=>?_)
 obtain ⟨z,A⟩:=HX n q ty
 refine ⟨T,id,K,slot,l,z,A,?_⟩
 have p:=B cpos d O m u _ n L
 rw [J] at p ⊢
 refine XT (by show (false||(Vv cpos (T8 es X.env)).any (·.1))=false;rw [c]<;>rfl) (a0f ?_)
 exact aW p fun U R ⟨Y,w,y,N,M⟩=>E d R m w x Y v U Q y q N M
end
end L2
namespace L2
open PySem PySem.Spec PyProof.Rows
noncomputable def kT (X:Cx)(id:String)(r:V->List V->Hp->VK->Prop):Prop:=
 ∀ (a3J:List (Addr×Obj))(s:Th)(σ:St)(H:Hp)(x:V)(xs:List V)(v:Te)(us:List Te)(Q:VK),Inv X a3J σ H s->RelV x v->Vals xs us->r x xs H Q->
  TX (T7 X.prog X.w) X.A (call (.builtin id) (v::us)) (EP X a3J σ Q) X.xe s
theorem Vals.one:∀ {x:V}{us:List Te},Vals [x] us->∃ u,us=[u]/\RelV x u
 | _,_,.cons r .nil=>⟨_,rfl,r⟩
theorem Vals.two:∀ {x y:V}{us:List Te},Vals [x,y] us->∃ u v,us=[u,v]/\RelV x u/\RelV y v
 | _,_,_,.cons r (.cons q .nil)=>⟨_,_,rfl,r,q⟩
theorem Vals.zero:∀ {us:List Te},Vals [] us->us=[]
 | _,.nil=>rfl
theorem Vals.reverse {xs:List V}{us:List Te}(h:Vals xs us):Vals xs.reverse us.reverse:=by
 induction h with
 | nil=>exact .nil
 | cons r t a=>rw [Wj,Wj];exact Vals.append a (.cons r .nil)
section
variable {X:Cx}{a3J:List (Addr×Obj)}{σ:St}{H:Hp}{s:Th}{l b:Addr}{xs ys zs:List V}
theorem Inv.lset {its its':List Te}{n:Nat}{f:Array Te->Array Te}{t':Nat}(I:Inv X a3J σ H s)(a:H l=some (.lst xs))
  (e:s.heap.get? l=some { cls:=.type "list",data:=.seq its.toArray n }) (d:f its.toArray=its'.toArray)(h:Vals ys its')(i:ys.length<=TC) :
  Inv X a3J σ (aO H l (.lst ys)) { s with heap:=s.heap.update l (Vc f),toks:=t' }:=by
 have q:=PySem.IsL.update e f
 rw [d] at q
 refine I.write (x:=l) (e:=l) (by rw [a];exact trivial) (.inl rfl) (fun j u c g=>(Wb s.heap (Vc f) (Uu c)).trans g) ⟨_,q⟩ ?_
 exact ⟨i,its',_,h,q⟩
theorem Inv.lnew {its:List Te}{t':Nat}(I:Inv X a3J σ H s)(a:Vals ys its)(c:ys.length<=TC) :
  Inv X a3J σ (aO H s.heap.objs.size (.lst ys)) { s with heap:=s.heap.push { cls:=.type "list",data:=.seq its.toArray },toks:=t' }:=
 I.laid (fun _ _ q=>Ti _ q) (Tt _) ⟨c,its,0,a,TJ _ rfl⟩
theorem Inv.fresh (I:Inv X a3J σ H s):H s.heap.objs.size=none:=I.hok.fresh (Tt _)
theorem Inv.lstM (I:Inv X a3J σ H s)(a:H l=some (.lst xs)):xs.length<=TC/\∃ (its:List Te)(n:Nat),Vals xs its/\xs.length=its.length/\s.heap.get? l=some { cls:=.type "list",data:=.seq its.toArray n }:=by
 obtain ⟨z,its,n,r,e⟩:=I.hok l _ a
 exact ⟨z,its,n,r,r.length,e⟩
theorem HY {n:Nat}(h:n<=TC):Xe n=false:=by
 unfold Xe
 exact decide_eq_false (by omega)
end
section
variable {X:Cx}
noncomputable def AH:V->List V->Hp->VK->Prop:=fun x vs H Q=>∃ l xs y,x=.ref l/\vs=[y]/\H l=some (.lst xs)/\xs.length<TC/\Q .non (aO H l (.lst (xs++[y])))
theorem AI:kT X "list.append" AH:=by
 intro c s A H x p v o Q I i g h
 obtain ⟨l,w,y,rfl,rfl,b,m,q⟩:=h
 cases i
 obtain ⟨u,rfl,d⟩:=g.one
 obtain ⟨z,a,n,r,j,e⟩:=I.lstM b
 refine a2a F.slot_list_append ⟨_,e,rfl⟩ F.entry_list_append (F.args_list_append_2 _ _) (PySem.list_append l a.toArray n u (by rw [TN];omega)) ⟨e,?_⟩
 refine ⟨.non,_,I.lset (its':=a++[u]) b e (by simp) (r.append (.cons d .nil)) ?_,rfl,q⟩
 rw [Tz,Vj]
 omega
noncomputable def AJ:V->List V->Hp->VK->Prop:=fun x vs H Q=>∃ l b xs a,x=.ref l/\vs=[.ref b]/\H l=some (.lst xs)/\H b=some (.lst a)/\xs.length+a.length<=TC/\Q .non (aO H l (.lst (xs++a)))
theorem HZ:kT X "list.extend" AJ:=by
 intro j s R H x L v K Q I E B h
 obtain ⟨l,b,M,O,rfl,rfl,i,o,J,q⟩:=h
 cases E
 obtain ⟨u,rfl,A⟩:=B.one
 cases A
 obtain ⟨z,c,n,r,G,e⟩:=I.lstM i
 obtain ⟨N,a,w,y,p,m⟩:=I.lstM o
 have g:c.toArray.size+a.toArray.size<=TC:=by rw [TN,TN];omega
 have d:¬ (!c.toArray.isEmpty&&Xe (c.toArray.size+a.toArray.size))=true:=by
  rw [HY g,a1T]
  exact Uc
 refine a2a F.slot_list_extend ⟨_,e,rfl⟩ F.entry_list_extend (F.args_list_extend_2 _ _)
  (AutoSeq1.list_extend_list_list_0 l c.toArray n b a.toArray w d (by rw [TN];omega) (by omega)) ⟨e,m,?_⟩
 refine ⟨.non,_,I.lset (its':=c++a) i e (by simp) (r.append y) ?_,rfl,q⟩
 rw [Tz]
 omega
noncomputable def AK:R2:=fun x y H Q=>∃ l b xs a,x=.ref l/\y=.ref b/\H l=some (.lst xs)/\H b=some (.lst a)/\xs.length+a.length<=TC/\∀ p,H p=none->Q (.ref p) (aO H p (.lst (xs++a)))
theorem Ia:OpR X (WC .Add) AK:=by
 intro d s M H x y v u Q I w A h
 obtain ⟨l,b,J,L,rfl,rfl,m,j,E,q⟩:=h
 cases w
 cases A
 obtain ⟨z,c,n,r,B,e⟩:=I.lstM m
 obtain ⟨K,a,G,p,o,g⟩:=I.lstM j
 refine PySem.P.add_list e g ?_ (by rw [TN,TN];omega)
 have i:c.toArray++a.toArray=(c++a).toArray:=by simp
 rw [i]
 exact ⟨.ref _,_,I.lnew (t':=s.toks) (r.append p) (by rw [Tz];omega),rfl,q _ I.fresh⟩
end
section
variable {prog:T3}{w:Uk}{A:Ug}{E:Te->Th->Prop}{s:Th}
end
section
variable {X:Cx}
end
end L2
namespace Att
open PySem PySem.W PySem.Calls PyProof.Rows
theorem Ib {P:Vr}{h:UW}:∀ (ns:List Int)(vs:List Te),WellAll P h vs (ns.map Xa)->Yn vs ns:=by
 intro ns
 induction ns with
 | nil=>
  intro vs w
  rw [WS] at w
  cases w
  exact .nil
 | cons n ns c=>
  intro vs w
  rw [Tq] at w
  cases w with
  | cons a b=>
   cases a
   exact .cons _ _ (c _ b)
theorem script_of {l:OpenLaw}{n:Nat}(x:l.most=some n){P:Vr}{h:UW}{args:List WData}{e:List Te}
  (c:l.row.toRowW.claim.pre args=true)(p:WellAll P h e args) :
  ∃ a s b,e=[Tx a]/\args=[WData.list (b.map Xa)]/\h.get? a=some { cls:=.type "list",data:=.seq s.toArray }/\Yn s b/\b.length<=n:=by
 have o:WShape.hasAll [] args [.list .int]=true:=(pre_splitW c).1
 have hc:l.pre.holds [] { args:=args } = true:=(pre_splitW c).2
 obtain ⟨d,r,rfl,u,v⟩:=hasAllW_cons o
 obtain rfl:=hasAllW_nil v
 obtain ⟨E,rfl,w⟩:=hasW_list u
 obtain ⟨b,rfl⟩:=items_int w
 have i:b.length<=n:=by
  unfold OpenLaw.pre at hc
  have j:(WTm.not (.lt (.lit (.int (n:Int))) (.len (.arg 0)))).holds [] { args:=[.list (b.map .int)] } = true:=by
   have j:=(holds_andW hc).1
   rw [x] at j
   exact j
  have m:=condW_of j (w_not (w_lt w_lit (w_len_list (w_arg rfl))))
  rw [Tc] at m
  refine Nat.le_of_not_lt fun q=>?_
  have z:(n:Int)<((b.length:Nat):Int):=by omega
  first
   | (rw [decide_eq_true z] at m;exact absurd m (by decide))
   | (simp at m;omega)
 cases p with
 | cons A B=>
  cases B
  cases A with
  | list y g=>exact ⟨_,_,b,rfl,rfl,y,Ib b _ g,i⟩
theorem post_true (l:OpenLaw)(args:List WData):l.row.toRowW.claim.post args (.bool true) args=true:=
 postW_of (r:=l.row.toRowW) (X:=(true == true))
  (show a2p [] (.bool true) .bool=true by first|rfl|decide|simp [a2p,WShape.arms,WShape.armsAll])
  (show (WTm.eq .res (.lit (.bool true))).value [] { args:=args,res:=some (.bool true),after:=args } = some (.bool (true == true)) from w_eq_bool (w_res rfl) w_lit) rfl
section
variable {prog:T3}{w:Uk}{A:Ug}{E:Te->Th->Prop}{s:Th}{K:Frag}
end
end Att
namespace L2
open PySem PySem.Spec PyProof.Rows
theorem AL:∀ {vs:List Te}{ns:List Int},Yn vs ns->Vals (ns.map V.int) vs
 | _,_,.nil=>.nil
 | _,_,.cons n t h=>.cons ⟨t,rfl⟩ (AL h)
noncomputable def AM (H:Hp):Prop:=∀ b,H b=none\/∃ o xs,H b=some (.frz o (.lst xs))
theorem law_call {P:T3}{w:Uk}{K:Ta}{mg mb:Str->Option Te}{CX:gM}{k:Nat}{T a:Addr}{fd:Vo}{x:Str}{sp:Sp}{c:Th}{vs:List Te}{ns:List Int}
  (KX:K.In c.heap)(J:c.heap.Ns US mg)(g:c.heap.Ns a2b mb)(X:∀ x:Str,x ≠ "__name__"->mb x=Vh x) (I:c.heap.NoLimit)(hg:c.gens = #[])
  (Q:c.heap.get? a=some { cls:=.type "list",data:=.seq vs.toArray }) (hi:Yn vs ns)(hl:ns.length<=TC)(hr:Room k Zc)
  (F:∀ i:UW,K.In i->i.Ns US mg->FnOk P w K mg i CX k T fd [x] sp)(y:∀ (s:Th)(u:Te),Zg s fd ⟨[u],[]⟩ [(x,u)])
  (Z:∀ H:Hp,AM H->SqL K H a (ns.map V.int)->sp [.ref a] H (fun v _=>v=.bl true) fun _ _ _=>False)
  (U:∀ H e j,CX [] H c (fun _ _ _=>False) e j->False) :
  XC (T7 P w) Zc (.call (.ref T) ⟨[.ref a],[]⟩) (fun r j=>r=.ok (.ret (.bool true))/\OldK c.heap j.heap/\j.os=c.os/\YE j.gens) c:=by
 have rv:=AL hi
 have N:=hi.length
  -- from an abstract heap in which nothing but the script may be tracked
 have p:∀ H:Hp,AM H->SqL K H a (ns.map V.int)->HOk P w H c.heap->(∀ b,H b≠none->b=a)->(H a≠none->K.lookup a=none)->
   XC (T7 P w) Zc (.call (.ref T) ⟨[.ref a],[]⟩) (fun r j=>r=.ok (.ret (.bool true))/\OldK c.heap j.heap/\j.os=c.os/\YE j.gens) c:=by
  intro H hO hS L hA hK
  have jY:∀ {b:Addr}{o:Obj},c.heap.get? b=some o->H b=none->(jO c.heap H).get? b=some o:=fun e n=>FD e n
  have noA:∀ {b:Addr}{o:Obj}{E:Array UH}{B:Nat},c.heap.get? b=some o->o.data=.dict E B->H b=none:=fun {b o E B} e d=>by
   cases q:H b with
   | none=>rfl
   | some u=>
    have R:b=a:=hA b (by rw [q];simp)
    subst R
    rw [Q] at e;cases e
    have d':Data.seq vs.toArray _=VR E B:=d
    cases d'
  have l:∀ {b:Addr}{m:Str->Option Te},c.heap.Ns b m->(jO c.heap H).Ns b m:=fun {b m} ⟨o,E,B,e,d,r⟩=>⟨o,E,B,jY e (noA e d),d,r⟩
  have G:K.In (jO c.heap H):=fun b o e=>jY (KX b o e) (by
   cases q:H b with
   | none=>rfl
   | some u=>
    have R:b=a:=hA b (by rw [q];simp)
    subst R
    rw [hK (by rw [q];simp)] at e;cases e)
  have hM:Mod K mg (jO c.heap H):=⟨G,l J,⟨mb,l g,X⟩,let ⟨mc,h1,h2⟩:=I;⟨mc,l h1,h2⟩⟩
  have e0:Env0 P w K mg (jO c.heap H) Zc [] c H:=⟨rfl,hM,fun b o e=>FE e,Xs (FC _ _),trivial,fun b g=>absurd (show b∈([]:List Addr) from g) (by simp),L,.of_eq hg⟩
  refine Zb ((F _ G (l J)).run Zc [] c H ⟨[.ref a],[]⟩ [.ref a] [.ref a] _ _ hr e0 (y c (.ref a)) (.cons rfl .nil) (Z H hO hS)) fun r j h=>?_
  cases r with
  | error e=>exact (U H e j h).elim
  | ok fl=>
   cases fl with
   | next=>exact Vb h
   | brk=>exact Vb h
   | cont=>exact Vb h
   | ret u=>
    obtain ⟨v,H',os,A,un,M,r',q⟩:=h
    have q':v=.bl true:=q
    subst q'
    obtain rfl:u=UN true:=r'
    refine ⟨rfl,OldK.of_keep fun b o e=>?_,os,A⟩
    cases q:H b with
    | none=>exact un.keep b o e q (by intro z;exact absurd (show b∈([]:List Addr) from z) (by simp)) (by simp)
    | some u=>
     rcases hO b with z|⟨ob,xs,z⟩
     ·rw [q] at z;cases z
     ·have z2:=un.frzs b ob _ z
      obtain ⟨e1,_⟩:=L b _ z
      obtain ⟨e2,_⟩:=M b _ z2
      rw [e] at e1;cases e1
      exact e2
 cases Y:K.lookup a with
 | some o=>
    -- the script is one of the module's own objects
  have e:=KX a o Y
  rw [Q] at e
  cases e
  refine p (fun _=>none) (fun _=>.inl rfl) (.inr ⟨_,vs.toArray,_,Y,rfl,rfl,rfl,by rw [TN,N];exact hl,by simpa using rv⟩) (fun b u z=>by have O:(none:Option HO)=some u:=z;cases O) (fun b z=>absurd rfl z) fun z=>absurd rfl z
 | none=>
  refine p (fun b=>if b=a then some (.frz { cls:=.type "list",data:=.seq vs.toArray } (.lst (ns.map V.int))) else none) (fun b=>?_) (.inl (.inr ⟨{ cls:=.type "list",data:=.seq vs.toArray },if_pos rfl⟩)) (fun b u z=>?_) (fun b z=>?_) fun _=>Y
  ·by_cases g:b=a
   ·exact .inr ⟨_,_,if_pos g⟩
   ·exact .inl (if_neg g)
  ·by_cases g:b=a
   ·have O:=(if_pos g).symm.trans z
    cases O
    subst g
    exact ⟨Q,by rw [Tc];exact hl,vs,_,rv,Q⟩
   ·have O:=(if_neg g).symm.trans z
    cases O
  ·by_cases g:b=a
   ·exact g
   ·exact absurd (if_neg g) z
end L2
namespace L2
open PySem PySem.Spec PyProof.Rows
end L2
namespace L2
open PySem PySem.Spec PyProof.Rows
noncomputable def bS (s:Stmt):Arguments:=match s with
 | .FunctionDef _ a _ _ _ _ _ _ _ _=>a
 | _=>{ posonlyargs:=[],args:=[],vararg:=none,kwonlyargs:=[],kw_defaults:=[],kwarg:=none,defaults:=[] }
noncomputable def bL (s:Stmt):List Stmt:=match s with
 | .FunctionDef _ _ b _ _ _ _ _ _ _=>b
 | _=>[]
noncomputable def bA (s:Stmt):V0:=match s with
 | .FunctionDef _ _ _ _ _ _ sc _ _ _=>sc
 | _=>{ kind:=.function,names:=[],isGenerator:=false,isCoroutine:=false }
noncomputable abbrev dI:gM:=fun _ _ _ _ _ _=>False
noncomputable abbrev E0:XK:=fun _ _ _=>False
theorem o7 {X:Cx}:kQ dI X E0:=fun _ _ _ _ _ _ _ h=>h.elim
structure Fun (K:Ta)(x qual:Str)(st:Stmt)(f:Addr)(fd:Vo):Prop where
 ex:∃ (oc:Te)(od:Option Addr)(dV kV doc pm:Te)(an:Option Addr)(cdv ct:Te)(osl:Array (Option Te)),
  fd=TQ x qual (bS st) (bL st) (bA st) dV kV doc pm an cdv ct/\K.lookup f=some ⟨oc,od,.func fd,osl⟩/\Xj K cdv qual=true
 kp:Va K (.ref f)=true
section
variable {P:T3}{w:Uk}{K:Ta}{mg:Str->Option Te}{base:UW}
theorem Fun.ok {x a:Str}{st:Stmt}{f:Addr}{g:Vo}{N ps:List Str}{k:Nat}{sp:Sp}(F:Fun K x a st f g)(S:FnScope N ps (bA st))(len:∀ vs H Q E,sp vs H Q E->vs.length=ps.length)
  (c:∀ (b:Te)(A:Ug)(outer:List Yi)(s:Th)(H:Hp)(vs:List V)(Q:VK)(E:XK),Room k (A.deeper (envOfC a (bA st) s.heap.objs.size f b))->sp vs H Q E->
   ∃ t,PSs (jQ dI P w K mg base N a (bA st) f b A outer s H E).nox (bL st) t/\t { nx:=fun _ i=>Q .non i,rt:=Q } (start N vs) H):FnOk P w K mg base dI (k+1) f g ps sp:=by
 obtain ⟨p,r,o,kV,j,u,n,b,ct,m,rfl,lk,d⟩:=F.ex
 refine Hz lk d S len fun A outer s H vs Q E l e=>?_
 obtain ⟨t,h,q⟩:=c b A outer s H vs Q E l e
 exact ⟨t,h.nox,q⟩
theorem AN {x a:Str}{st:Stmt}{f:Addr}{i:Te}{j an:Option Addr}{e:Array (Option Te)}{g kV d h b ct:Te}(l:K.lookup f=some ⟨i,j,.func (TQ x a (bS st) (bL st) (bA st) g kV d h an b ct),e⟩)
  (c:Xj K b a=true)(k:Va K (.ref f)=true):Fun K x a st f (TQ x a (bS st) (bL st) (bA st) g kV d h an b ct):=⟨⟨i,j,g,kV,d,h,an,b,ct,e,rfl,l,c⟩,k⟩
end
theorem Ic {A:Ug}{k:Nat}(a:Room k A):A.units+1<VS:=Nat.lt_of_le_of_lt (Nat.add_le_add_left (by decide:1<=64) _) a.units
section
variable {X:Cx}
end
theorem l7 {A B:Prop}(h:B):if false=true then A else B:=by
 rw [if_neg Uc]
 exact h
theorem l8 {A B:Prop}(h:A):if true=true then A else B:=by
 rw [if_pos rfl]
 exact h
noncomputable def Same (H a:Hp):Prop:=∀ b o,H b=some o->a b=some o
theorem Same.refl (H:Hp):Same H H:=fun _ _ h=>h
theorem Same.trans {H d e:Hp}(a:Same H d)(b:Same d e):Same H e:=fun c o h=>b c o (a c o h)
theorem Same.free {H a:Hp}(e:Same H a){l:Addr}(h:a l=a2d):H l=a2d:=by
 cases q:H l with
 | none=>rfl
 | some o=>
  rw [e l o q] at h
  cases h
theorem Same.seq {K:Ta}{H b:Hp}{a:Addr}{xs:List V}(e:Same H b)(h:SqL K H a xs):SqL K b a xs:=by
 rcases h with (h|⟨o,h⟩)|h
 ·exact .inl (.inl (e _ _ h))
 ·exact .inl (.inr ⟨o,e _ _ h⟩)
 ·exact .inr h
section
variable {κ:Type} [DecidableEq κ]
end
end L2
namespace L3
open PySem PySem.W
theorem left_cut {p q:T3}{loose:List Str}{Xt:Th → Bool}{J:Type}{Yf:Th → J}{Ya:Uk → J}{N:Nat}{y:Bool}{hA hB hC:Vr → UW}{kA z A a:Nat}{g:Option Te}{n j l m n3:Nat}{env:Yi}{u B o E G:Vl}{i1 i2:Nat}
  (i:∀ w:Uk,(fencedOpening V3 p w N).map (fun s=>(s.heap,s.gens,s.drawn,s.toks))=some (W0 w.params,UY [],U9,Zt))
  (size:∀ w:Uk,((W0 w.params).isNs US,(W0 w.params).objs.size,(W0 w.params).nsMap US "__annotations__")=(true,a,g))
  (x:∀ (w:Uk)(b:Yl),topGo V3 p w a g n ⟨W0 w.params,UY [],U9,Zt,b⟩ (topStub p)=some (⟨hA w.params,UY [],U9,kA,b⟩,⟨denote V3 (.body (Uh p) env),.body (Uh p) env,B,[XM u]⟩))
  (v:∀ (w:Uk)(b:Yl),a0U V3 p w a g 1 j ⟨hA w.params,UY [],U9,kA,b⟩ (blockOf (Uh p) env (.body (Uh p) env) B [XM u])=some (.next,⟨hA w.params,UY [],U9,kA,b⟩,.body (Uh p) env,o))
  (U:∀ (w:Uk)(b:Yl),a0U V3 p w a g 1 l ⟨hA w.params,UY [],U9,kA,b⟩ (a1G ((Uh p).take i1) env (.body (Uh p) env) o [XM u])=some (.next,⟨hB w.params,UY [],U9,z,b⟩,.body (Uh p) env,E))
  (X:∀ (w:Uk)(b:Yl),a0U V3 p w a g 1 m ⟨hB w.params,UY [],U9,z,b⟩ (a1G (((Uh p).drop i1).take i2) env (.body (Uh p) env) E [XM u])=some (.next,⟨hC w.params,UY [],U9,A,b⟩,.body (Uh p) env,G))
  (aS:∀ (w:Uk)(b:Yl),((topRun V3 p w a g n3 ⟨hC w.params,UY [],U9,A,b⟩ (restOf (((Uh p).drop i1).drop i2) env (.body (Uh p) env) G [XM u])).bind fun c=>match staticsOk (a2N p.main.body) (W0 w.params) c.heap&&namesBound p c.heap&&gensDone c&&laidKept (W0 w.params) c.heap with
   | true=>some c
   | false=>none).map (fun s=>(openSeen q loose (a2N p.main.body) Xt y s,Yf s))=some (openGood q loose,Ya w))
  (le:Nat.ble (n+(j+(l+(m+n3)))) N=true):LeftO p q loose Xt Yf Ya N y:=fun w=>by
 obtain ⟨⟨h,L,d,k,b⟩,e,K⟩:=Tg.mp (i w)
 obtain ⟨rfl,rfl,rfl,rfl⟩:h=W0 w.params ∧ L=UY [] ∧ d=U9 ∧ k=Zt:=by simpa using K
 obtain ⟨Y,Z,z3⟩:_ ∧ _ ∧ _:=by simpa only [Prod.mk.injEq] using size w
 obtain ⟨s,Q,R⟩:=Tg.mp (aS w b)
 obtain ⟨c,M,O⟩:=S9.mp Q
 have I:=piece_app (X w b) M
 rw [Vx] at I
 have H:=piece_app (U w b) I
 rw [Vx] at H
 have T:=go_top (x w b) (piece_block (v w b) H)
 have r:=topRun_mono (N - (n+(j+(l+(m+n3))))) _ _ _ _ T
 rw [show n+(j+(l+(m+n3)))+(N - (n+(j+(l+(m+n3)))))=N by have:=Nat.le_of_ble_eq_true le;omega] at r
 have t:topFrom V3 p w N ⟨W0 w.params,UY [],U9,Zt,b⟩=some s:=by
  unfold topFrom
  dsimp only
  rw [Y,Z,z3,r]
  exact O
 unfold openEnds
 rw [e]
 show (topFrom V3 p w N _).map _=_
 rw [t]
 exact congrArg some R
end L3
namespace Lw
open PySem L2
noncomputable def aE (i:Nat):Stmt:=UD.main.body.getD i (.Pass ⟨0,0,0,0⟩)
noncomputable def cL (i j:Nat):Stmt:=match aE i with|.ClassDef _ _ _ b _ _ _ _ _ _ _=>b.getD j (.Pass ⟨0,0,0,0⟩)|_=>.Pass ⟨0,0,0,0⟩
noncomputable def Vw:T3:={ UD with main:={ UD.main with body:=aE 0::aE 2::aE 3::aE 4::aE 5::aE 6::aE 7::aE 8::aE 9::aE 10::aE 12::aE 13::aE 15::aE 16::aE 17::aE 19::aE 20::aE 21::aE 22::aE 23::aE 24::aE 26::aE 27::aE 28::aE 29::aE 30::aE 32::aE 33::aE 34::aE 35::aE 36::aE 38::aE 39::aE 40::aE 41::aE 42::aE 43::aE 44::aE 46::aE 47::aE 48::aE 49::aE 50::aE 51::aE 52::aE 53::aE 54::aE 55::aE 56::aE 57::[] } }
noncomputable abbrev vS (x:String)(n:Nat):Te:=YF (UC x) n
noncomputable abbrev vI (i:Int):Te:=UB i 0
noncomputable abbrev vR (a:Addr):Te:=Tx a
noncomputable abbrev vN:Te:=Vm
noncomputable abbrev cO (fs:Array Te):Obj:={ cls:=Tu "code",data:=TK fs }
noncomputable abbrev kO (x y:String)(a b c:Nat)(l n i j k:Int)(r:Addr)(q:Int)(vs:Array Te)(t d:Int)(e:Nat):Obj:={ cls:=Tu "code",data:=TK (#[vS x a,vS x b,vS y c,vI l,vI n,vI i,vI j,vI k,vR r,UN true,vI q]++vs++#[vI t,vI d,vS y e]) }
noncomputable abbrev tO (fs:Array Te):Obj:={ cls:=Tu "tuple",data:=Data.seq fs }
noncomputable abbrev fO (x:Str)(n:Nat)(m:Te)(c:Addr):Obj:=⟨Tu "function",none,.func (TQ x x (bS (aE n)) (bL (aE n)) (bA (aE n)) Vm Vm Vm m none (Tx c) Vm),#[]⟩
noncomputable abbrev eO (P:Vr)(x:String)(n:Nat)(v:Te):UH:={ hash:=PyData.keyHash P (UC x),key:=YF (UC x) n,val:=v }
noncomputable abbrev eR (P:Vr)(x:String)(n:Nat)(a:Addr):UH:=eO P x n (vR a)
noncomputable abbrev kA (p:Addr×Obj)(R:Ta):Ta:=p::R
noncomputable abbrev vM (n:Nat):Te:=[vS "creasecourt.places" 194,vS "creasecourt.outlines" 269,vS "creasecourt.layings" 338,vS "creasecourt.sheets" 388,vS "creasecourt.folding" 470,vS "law_creasecourt_k86_outlines_drawn" 619].getD n vN
noncomputable abbrev kF (x:String)(r a:Nat)(l n:Int)(t i:Nat)(m:Te)(R:Ta):Ta:=(r+5,kO x "/claim/cut.py" a (a+1) (a+2) l n 0 0 3 r 181 #[vR (r+1),vN,vR (r+2),vR (r+3),vR (r+4)] t l (t+1))::(r+6,fO x i m (r+5))::R
noncomputable abbrev kG (x:String)(r a:Nat)(l n:Int)(t i:Nat)(m:Te)(R:Ta):Ta:=(r+3,kO x "/claim/cut.py" a (a+1) (a+2) l n 0 0 3 r 181 #[vR (r+1),vN,vN,vN,vR (r+2)] t l (t+1))::(r+4,fO x i m (r+3))::R
noncomputable def Kx:Vr → Ta:=fun P=>kA (3,{ cls:=Tu "dict",data:=VR #[eO P "__name__" 165 (vS "law_creasecourt_k86_outlines_drawn" 619),eO P "__doc__" 166 vN,eO P "__package__" 167 vN,eO P "__loader__" 168 (Uw "__main__.__loader__#opaque"),eO P "__spec__" 169 vN,eR P "__annotations__" 170 6,eR P "__builtins__" 171 4,eO P "__file__" 173 (vS "/claim/cut.py" 172),eO P "__cached__" 174 vN,eR P "_wall" 193 21,eR P "is_whole" 202 28,eR P "is_edge" 209 35,eR P "is_quarter" 216 42,eR P "line_of" 223 49,eR P "beside" 232 56,eR P "sides_of" 238 61,eR P "number_by" 246 68,eR P "hand_of" 256 75,eR P "mirrored" 268 82,eR P "sign_for" 279 89,eR P "outline" 285 94,eR P "CreaseError" 305 104,eR P "NoSize" 321 117,eR P "NoFold" 337 129,eR P "STILL" 346 132,eR P "laying_by" 355 139,eR P "mirror_in" 362 146,eR P "led" 372 153,eR P "then" 380 160,eR P "is_turned" 387 167,eR P "is_size" 396 174,eR P "check_size" 404 181,eR P "places_within" 410 186,eR P "quarters_in" 416 191,eR P "edges_in" 422 196,eR P "heights_in" 435 203,eR P "is_above" 444 210,eR P "turned_first" 453 217,eR P "mark_by_heights" 463 224,eR P "marks_by" 469 229,eR P "copied_piles" 481 236,eR P "folded_layings" 495 243,eR P "folded_piles" 511 250,eR P "check_fold" 517 255,eR P "creased_edges" 529 262,eR P "unfolded" 540 269,eR P "Folding" 618 327,eR P "_law_cell" 629 338,eR P "_law_quarters" 640 345,eR P "_law_led" 654 352,eR P "_law_over" 670 359,eR P "_law_value" 678 366,eR P "_law_begun" 689 373,eR P "_law_folded" 695 378,eR P "_law_plan" 710 385,eR P "_law_go" 729 392,eR P "_law_sign" 739 399,eR P "_law_due" 745 404,eR P "law" 762 411] 59 }) <|
 kA (2,{ cls:=vN,data:=VR #[] }) <|
 kF "is_whole" 22 196 5 1 200 2 (vM 0) <|
 kF "is_quarter" 36 210 11 1 214 4 (vM 0) <|
 kF "line_of" 43 217 15 1 221 5 (vM 0) <|
 kF "number_by" 62 239 25 2 244 8 (vM 0) <|
 kF "hand_of" 69 247 33 2 254 9 (vM 0) <|
 kF "mirrored" 76 257 39 2 266 10 (vM 0) <|
 kF "sign_for" 83 271 52 2 277 12 (vM 1) <|
 kG "outline" 90 280 59 1 283 13 (vM 1) <|
 kA (102,tO #[]) <|
 kA (103,{ cls:=Tu "dict",data:=VR #[eO P "__module__" 295 (vS "creasecourt.errors" 286),eO P "__firstlineno__" 299 (UB 67 298),eR P "__static_attributes__" 300 102,eR P "__weakref__" 302 105,eO P "__doc__" 303 vN] 3 }) <|
 kA (104,{ cls:=Tu "type",data:=XS { name:=UC "CreaseError",bases:=[Tu "ValueError"],mro:=[vR 104,Tu "ValueError",Tu "Exception",Tu "BaseException",Tu "object"],ns:=103,qualname:=UC "CreaseError",subclasses:=[vR 117,vR 129] },slots:=#[some (vR 95),none,some (vS "CreaseError" 288),some (vS "CreaseError" 296),some (Uw "ValueError.__new__"),some (UN true)] }) <|
 kA (105,{ cls:=Tu "getset_descriptor",data:=TK #[vS "__weakref__" 301,vR 104,Uw "ExceptionGroup.__weakref__",vN] }) <|
 kA (115,tO #[]) <|
 kA (116,{ cls:=Tu "dict",data:=VR #[eO P "__module__" 313 (vS "creasecourt.errors" 286),eO P "__firstlineno__" 317 (UB 69 316),eR P "__static_attributes__" 318 115,eO P "__doc__" 319 vN] 2 }) <|
 kA (117,{ cls:=Tu "type",data:=XS { name:=UC "NoSize",bases:=[vR 104],mro:=[vR 117,vR 104,Tu "ValueError",Tu "Exception",Tu "BaseException",Tu "object"],ns:=116,qualname:=UC "NoSize" },slots:=#[some (vR 108),none,some (vS "NoSize" 306),some (vS "NoSize" 314),some (Uw "ValueError.__new__"),some (UN true)] }) <|
 kA (127,tO #[]) <|
 kA (128,{ cls:=Tu "dict",data:=VR #[eO P "__module__" 329 (vS "creasecourt.errors" 286),eO P "__firstlineno__" 333 (UB 71 332),eR P "__static_attributes__" 334 127,eO P "__doc__" 335 vN] 2 }) <|
 kA (129,{ cls:=Tu "type",data:=XS { name:=UC "NoFold",bases:=[vR 104],mro:=[vR 129,vR 104,Tu "ValueError",Tu "Exception",Tu "BaseException",Tu "object"],ns:=128,qualname:=UC "NoFold" },slots:=#[some (vR 120),none,some (vS "NoFold" 322),some (vS "NoFold" 330),some (Uw "ValueError.__new__"),some (UN true)] }) <|
 kA (132,tO #[UB 1 340,UB 0 341,UB 0 342,UB 1 343,UB 0 344,UB 0 345]) <|
 kF "laying_by" 133 347 75 3 353 20 (vM 2) <|
 kF "mirror_in" 140 356 77 1 360 21 (vM 2) <|
 kF "led" 147 363 79 2 370 22 (vM 2) <|
 kF "then" 154 373 83 2 378 23 (vM 2) <|
 kF "is_size" 168 390 88 1 394 26 (vM 3) <|
 kF "check_size" 175 397 90 2 402 27 (vM 3) <|
 kG "places_within" 182 405 93 2 408 28 (vM 3) <|
 kG "quarters_in" 187 411 98 2 414 29 (vM 3) <|
 kF "copied_piles" 230 472 123 1 479 38 (vM 4) <|
 kF "folded_layings" 237 482 128 3 493 39 (vM 4) <|
 kF "folded_piles" 244 496 135 4 509 40 (vM 4) <|
 kG "check_fold" 251 512 147 2 515 41 (vM 4) <|
 kF "unfolded" 263 530 158 2 538 43 (vM 4) <|
 kA (282,cO #[vS "__init__" 553,vS "Folding.__init__" 554,vS "/claim/cut.py" 555,vI 167,vI 3,vI 0,vI 0,vI 3,vR 277,UN true,vI 181,vR 278,vN,vR 279,vR 280,vR 281,vI 559,vI 167,vS "/claim/cut.py" 560]) <|
 kA (283,⟨Tu "function",none,.func (TQ "__init__" "Folding.__init__" (bS (cL 44 0)) (bL (cL 44 0)) (bA (cL 44 0)) vN vN vN (vS "creasecourt.folding" 470) (none) (vR 282) vN),#[]⟩) <|
 kA (284,tO #[UN true,UN true]) <|
 kA (290,cO #[vS "fold" 562,vS "Folding.fold" 563,vS "/claim/cut.py" 564,vI 173,vI 4,vI 0,vI 0,vI 3,vR 285,UN true,vI 181,vR 286,vN,vR 287,vR 288,vR 289,vI 571,vI 173,vS "/claim/cut.py" 572]) <|
 kA (291,⟨Tu "function",none,.func (TQ "fold" "Folding.fold" (bS (cL 44 1)) (bL (cL 44 1)) (bA (cL 44 1)) (vR 284) vN vN (vS "creasecourt.folding" 470) (none) (vR 290) vN),#[]⟩) <|
 kA (297,cO #[vS "back" 574,vS "Folding.back" 575,vS "/claim/cut.py" 576,vI 179,vI 1,vI 0,vI 0,vI 3,vR 292,UN true,vI 181,vR 293,vN,vR 294,vR 295,vR 296,vI 578,vI 179,vS "/claim/cut.py" 579]) <|
 kA (298,⟨Tu "function",none,.func (TQ "back" "Folding.back" (bS (cL 44 2)) (bL (cL 44 2)) (bA (cL 44 2)) vN vN vN (vS "creasecourt.folding" 470) (none) (vR 297) vN),#[]⟩) <|
 kA (304,cO #[vS "many" 581,vS "Folding.many" 582,vS "/claim/cut.py" 583,vI 182,vI 1,vI 0,vI 0,vI 3,vR 299,UN true,vI 181,vR 300,vN,vR 301,vR 302,vR 303,vI 585,vI 182,vS "/claim/cut.py" 586]) <|
 kA (305,⟨Tu "function",none,.func (TQ "many" "Folding.many" (bS (cL 44 3)) (bL (cL 44 3)) (bA (cL 44 3)) vN vN vN (vS "creasecourt.folding" 470) (none) (vR 304) vN),#[]⟩) <|
 kA (311,cO #[vS "layings" 588,vS "Folding.layings" 589,vS "/claim/cut.py" 590,vI 185,vI 1,vI 0,vI 0,vI 3,vR 306,UN true,vI 181,vR 307,vN,vR 308,vR 309,vR 310,vI 592,vI 185,vS "/claim/cut.py" 593]) <|
 kA (312,⟨Tu "function",none,.func (TQ "layings" "Folding.layings" (bS (cL 44 4)) (bL (cL 44 4)) (bA (cL 44 4)) vN vN vN (vS "creasecourt.folding" 470) (none) (vR 311) vN),#[]⟩) <|
 kA (318,cO #[vS "piles" 595,vS "Folding.piles" 596,vS "/claim/cut.py" 597,vI 188,vI 1,vI 0,vI 0,vI 3,vR 313,UN true,vI 181,vR 314,vN,vR 315,vR 316,vR 317,vI 599,vI 188,vS "/claim/cut.py" 600]) <|
 kA (319,⟨Tu "function",none,.func (TQ "piles" "Folding.piles" (bS (cL 44 5)) (bL (cL 44 5)) (bA (cL 44 5)) vN vN vN (vS "creasecourt.folding" 470) (none) (vR 318) vN),#[]⟩) <|
 kA (323,cO #[vS "sheet" 602,vS "Folding.sheet" 603,vS "/claim/cut.py" 604,vI 191,vI 1,vI 0,vI 0,vI 3,vR 320,UN true,vI 181,vR 321,vN,vN,vN,vR 322,vI 605,vI 191,vS "/claim/cut.py" 606]) <|
 kA (324,⟨Tu "function",none,.func (TQ "sheet" "Folding.sheet" (bS (cL 44 6)) (bL (cL 44 6)) (bA (cL 44 6)) vN vN vN (vS "creasecourt.folding" 470) (none) (vR 323) vN),#[]⟩) <|
 kA (325,tO #[vS "high" 608,vS "states" 609,vS "wide" 610]) <|
 kA (326,{ cls:=Tu "dict",data:=VR #[eO P "__module__" 548 (vS "creasecourt.folding" 470),eO P "__firstlineno__" 552 (UB 165 551),eR P "__init__" 561 283,eR P "fold" 573 291,eR P "back" 580 298,eR P "many" 587 305,eR P "layings" 594 312,eR P "piles" 601 319,eR P "sheet" 607 324,eR P "__static_attributes__" 611 325,eR P "__dict__" 613 328,eR P "__weakref__" 615 329,eO P "__doc__" 616 vN] 4 }) <|
 kA (327,{ cls:=Tu "type",data:=XS { name:=UC "Folding",bases:=[Tu "object"],mro:=[vR 327,Tu "object"],ns:=326,qualname:=UC "Folding" },slots:=#[none,none,some (vS "Folding" 541),some (vS "Folding" 549),some (Uw "object.__new__"),some (UN true)] }) <|
 kA (328,{ cls:=Tu "getset_descriptor",data:=TK #[vS "__dict__" 612,vR 327,Uw "function.__dict__",Uw "function.__dict__#set"] }) <|
 kA (329,{ cls:=Tu "getset_descriptor",data:=TK #[vS "__weakref__" 614,vR 327,Uw "ExceptionGroup.__weakref__",vN] }) <|
 kF "_law_cell" 332 621 197 2 627 46 (vM 5) <|
 kF "_law_quarters" 339 630 204 2 638 47 (vM 5) <|
 kF "_law_led" 346 641 211 2 652 48 (vM 5) <|
 kF "_law_over" 353 655 214 2 668 49 (vM 5) <|
 kF "_law_value" 360 671 224 2 676 50 (vM 5) <|
 kF "_law_begun" 367 679 226 2 687 51 (vM 5) <|
 kG "_law_folded" 374 690 233 4 693 52 (vM 5) <|
 kF "_law_plan" 379 696 253 3 708 53 (vM 5) <|
 kF "_law_go" 386 711 265 3 727 54 (vM 5) <|
 kF "_law_sign" 393 730 277 3 737 55 (vM 5) <|
 kG "_law_due" 400 740 282 1 743 56 (vM 5) <|
 kF "law" 405 746 291 1 760 57 (vM 5) <| []
noncomputable def As:List Addr:=[3,2,27,28,41,42,48,49,67,68,74,75,81,82,88,89,93,94,102,103,104,105,115,116,117,127,128,129,132,138,139,145,146,152,153,159,160,173,174,180,181,185,186,190,191,235,236,242,243,249,250,254,255,268,269,282,283,284,290,291,297,298,304,305,311,312,318,319,323,324,325,326,327,328,329,337,338,344,345,351,352,358,359,365,366,372,373,377,378,384,385,391,392,398,399,403,404,410,411]
theorem o8:∀ P,As=(Kx P).map (·.1):=fun _=>by kernel_rfl
open PySem.W in
noncomputable def lA (P:Vr):List Obj:=((boot_o_0 P)::(boot_o_1 P)::(boot_o_2 P)::(boot_o_3 P)::(boot_o_4 P)::(boot_o_5 P)::(boot_o_6 P)::(boot_o_7 P)::(boot_o_8 P)::(boot_o_9 P)::(boot_o_10 P)::(tO #[])::({ cls:=vN,data:=TK #[] })::(cO #[vS "<module>" 182,vS "<module>" 183,vS "/claim/cut.py" 184,vI 1,vI 0,vI 0,vI 0,vI 0,vR 11,UN false,vI 181,vR 12,vN,vN,vN,vN,vI 185,vI 1,vS "/claim/cut.py" 186])::({ cls:=Tu "frame",slots:=#[some (vR 13),some (vR 3),some (vR 3),none,some (vS "__main__" 164),none,some (vR 0)] })::[])
open PySem.W in
noncomputable def lB (P:Vr):List Obj:=(((lA P).set 3 ({ cls:=Tu "dict",data:=VR #[eO P "__name__" 165 (vS "creasecourt.errors" 286),eO P "__doc__" 166 vN,eO P "__package__" 167 vN,eO P "__loader__" 168 (Uw "__main__.__loader__#opaque"),eO P "__spec__" 169 vN,eR P "__annotations__" 170 6,eR P "__builtins__" 171 4,eO P "__file__" 173 (vS "/claim/cut.py" 172),eO P "__cached__" 174 vN,eR P "_wall" 193 21,eR P "is_whole" 202 28,eR P "is_edge" 209 35,eR P "is_quarter" 216 42,eR P "line_of" 223 49,eR P "beside" 232 56,eR P "sides_of" 238 61,eR P "number_by" 246 68,eR P "hand_of" 256 75,eR P "mirrored" 268 82,eR P "sign_for" 279 89,eR P "outline" 285 94,eR P "CreaseError" 305 104] 22 })).set 12 ({ cls:=vN,data:=TK #[vI 1,vI 0,vR 20,vI 5,vI 0,vR 27,vI 7,vI 0,vR 34,vI 11,vI 0,vR 41,vI 15,vI 0,vR 48,vI 19,vI 0,vR 55,vI 23,vI 0,vR 60,vI 25,vI 0,vR 67,vI 33,vI 0,vR 74,vI 39,vI 0,vR 81,vI 52,vI 0,vR 88,vI 59,vI 0,vR 93,vI 67,vI 0,vR 100] }))++((tO #[])::({ cls:=vN,data:=TK #[] })::(tO #[vS "k" 190])::(tO #[])::(⟨vN,none,.func ({ TQ "_wall" "_wall" (bS (aE 0)) (bL (aE 0)) (bA (aE 0)) vN vN vN vN (none) vN vN with globals:=0 }),#[]⟩)::(kO "_wall" "/claim/cut.py" 187 188 189 1 1 0 0 3 15 181 #[vR 16,vN,vR 17,vR 18,vR 19] 191 1 192)::(fO "_wall" 0 (vS "__main__" 164) 20)::(tO #[])::({ cls:=vN,data:=TK #[] })::(tO #[vS "value" 199])::(tO #[])::(⟨vN,none,.func ({ TQ "is_whole" "is_whole" (bS (aE 2)) (bL (aE 2)) (bA (aE 2)) vN vN vN vN (none) vN vN with globals:=0 }),#[]⟩)::(kO "is_whole" "/claim/cut.py" 196 197 198 5 1 0 0 3 22 181 #[vR 23,vN,vR 24,vR 25,vR 26] 200 5 201)::(fO "is_whole" 2 (vS "creasecourt.places" 194) 27)::(tO #[])::({ cls:=vN,data:=TK #[] })::(tO #[vS "place" 206])::(tO #[])::(⟨vN,none,.func ({ TQ "is_edge" "is_edge" (bS (aE 3)) (bL (aE 3)) (bA (aE 3)) vN vN vN vN (none) vN vN with globals:=0 }),#[]⟩)::(kO "is_edge" "/claim/cut.py" 203 204 205 7 1 0 0 3 29 181 #[vR 30,vN,vR 31,vR 32,vR 33] 207 7 208)::(fO "is_edge" 3 (vS "creasecourt.places" 194) 34)::(tO #[])::({ cls:=vN,data:=TK #[] })::(tO #[vS "place" 213])::(tO #[])::(⟨vN,none,.func ({ TQ "is_quarter" "is_quarter" (bS (aE 4)) (bL (aE 4)) (bA (aE 4)) vN vN vN vN (none) vN vN with globals:=0 }),#[]⟩)::(kO "is_quarter" "/claim/cut.py" 210 211 212 11 1 0 0 3 36 181 #[vR 37,vN,vR 38,vR 39,vR 40] 214 11 215)::(fO "is_quarter" 4 (vS "creasecourt.places" 194) 41)::(tO #[])::({ cls:=vN,data:=TK #[] })::(tO #[vS "edge" 220])::(tO #[])::(⟨vN,none,.func ({ TQ "line_of" "line_of" (bS (aE 5)) (bL (aE 5)) (bA (aE 5)) vN vN vN vN (none) vN vN with globals:=0 }),#[]⟩)::(kO "line_of" "/claim/cut.py" 217 218 219 15 1 0 0 3 43 181 #[vR 44,vN,vR 45,vR 46,vR 47] 221 15 222)::(fO "line_of" 5 (vS "creasecourt.places" 194) 48)::(tO #[])::({ cls:=vN,data:=TK #[] })::(tO #[vS "place" 227,vS "x" 228,vS "y" 229])::(tO #[])::(⟨vN,none,.func ({ TQ "beside" "beside" (bS (aE 6)) (bL (aE 6)) (bA (aE 6)) vN vN vN vN (none) vN vN with globals:=0 }),#[]⟩)::(kO "beside" "/claim/cut.py" 224 225 226 19 1 0 0 3 50 181 #[vR 51,vN,vR 52,vR 53,vR 54] 230 19 231)::(fO "beside" 6 (vS "creasecourt.places" 194) 55)::(tO #[])::({ cls:=vN,data:=TK #[] })::(⟨vN,none,.func ({ TQ "sides_of" "sides_of" (bS (aE 7)) (bL (aE 7)) (bA (aE 7)) vN vN vN vN (none) vN vN with globals:=0 }),#[]⟩)::(kO "sides_of" "/claim/cut.py" 233 234 235 23 1 0 0 3 57 181 #[vR 58,vN,vN,vN,vR 59] 236 23 237)::(fO "sides_of" 7 (vS "creasecourt.places" 194) 60)::(tO #[])::({ cls:=vN,data:=TK #[] })::(tO #[vS "line" 242,vS "place" 243])::(tO #[])::(⟨vN,none,.func ({ TQ "number_by" "number_by" (bS (aE 8)) (bL (aE 8)) (bA (aE 8)) vN vN vN vN (none) vN vN with globals:=0 }),#[]⟩)::(kO "number_by" "/claim/cut.py" 239 240 241 25 2 0 0 3 62 181 #[vR 63,vN,vR 64,vR 65,vR 66] 244 25 245)::(fO "number_by" 8 (vS "creasecourt.places" 194) 67)::(tO #[])::({ cls:=vN,data:=TK #[] })::(tO #[vS "place" 250,vS "edge" 251,vS "line" 252,vS "ahead" 253])::(tO #[])::(⟨vN,none,.func ({ TQ "hand_of" "hand_of" (bS (aE 9)) (bL (aE 9)) (bA (aE 9)) vN vN vN vN (none) vN vN with globals:=0 }),#[]⟩)::(kO "hand_of" "/claim/cut.py" 247 248 249 33 2 0 0 3 69 181 #[vR 70,vN,vR 71,vR 72,vR 73] 254 33 255)::(fO "hand_of" 9 (vS "creasecourt.places" 194) 74)::(tO #[])::({ cls:=vN,data:=TK #[] })::(tO #[vS "place" 260,vS "edge" 261,vS "x" 262,vS "y" 263,vS "line" 264,vS "number" 265])::(tO #[])::(⟨vN,none,.func ({ TQ "mirrored" "mirrored" (bS (aE 10)) (bL (aE 10)) (bA (aE 10)) vN vN vN vN (none) vN vN with globals:=0 }),#[]⟩)::(kO "mirrored" "/claim/cut.py" 257 258 259 39 2 0 0 3 76 181 #[vR 77,vN,vR 78,vR 79,vR 80] 266 39 267)::(fO "mirrored" 10 (vS "creasecourt.places" 194) 81)::(tO #[])::({ cls:=vN,data:=TK #[] })::(tO #[vS "piles" 274,vS "place" 275,vS "count" 276])::(tO #[])::(⟨vN,none,.func ({ TQ "sign_for" "sign_for" (bS (aE 12)) (bL (aE 12)) (bA (aE 12)) vN vN vN vN (none) vN vN with globals:=0 }),#[]⟩)::(kO "sign_for" "/claim/cut.py" 271 272 273 52 2 0 0 3 83 181 #[vR 84,vN,vR 85,vR 86,vR 87] 277 52 278)::(fO "sign_for" 12 (vS "creasecourt.outlines" 269) 88)::(tO #[])::({ cls:=vN,data:=TK #[] })::(⟨vN,none,.func ({ TQ "outline" "outline" (bS (aE 13)) (bL (aE 13)) (bA (aE 13)) vN vN vN vN (none) vN vN with globals:=0 }),#[]⟩)::(kO "outline" "/claim/cut.py" 280 281 282 59 1 0 0 3 90 181 #[vR 91,vN,vN,vN,vR 92] 283 59 284)::(fO "outline" 13 (vS "creasecourt.outlines" 269) 93)::(tO #[Tu "ValueError"])::({ cls:=Tu "builtin_function_or_method",data:=TK #[Uw "type.__prepare__",Tu "type"] })::({ cls:=Tu "dict",data:=VR #[eO P "__module__" 295 (vS "creasecourt.errors" 286),eO P "__qualname__" 297 (vS "CreaseError" 296),eO P "__firstlineno__" 299 (UB 67 298),eR P "__static_attributes__" 300 102] 4 })::(tO #[])::({ cls:=vN,data:=TK #[] })::(cO #[vS "CreaseError" 290,vS "CreaseError" 291,vS "/claim/cut.py" 292,vI 67,vI 0,vI 0,vI 0,vI 0,vR 98,UN false,vI 181,vR 99,vN,vN,vN,vN,vI 293,vI 67,vS "/claim/cut.py" 294])::({ cls:=Tu "frame",slots:=#[some (vR 100),some (vR 3),some (vR 97),none,some (vS "creasecourt.errors" 286),none,some (vR 0)] })::(tO #[])::({ cls:=Tu "dict",data:=VR #[eO P "__module__" 295 (vS "creasecourt.errors" 286),eO P "__firstlineno__" 299 (UB 67 298),eR P "__static_attributes__" 300 102,eR P "__weakref__" 302 105,eO P "__doc__" 303 vN] 3 })::({ cls:=Tu "type",data:=XS { name:=UC "CreaseError",bases:=[Tu "ValueError"],mro:=[vR 104,Tu "ValueError",Tu "Exception",Tu "BaseException",Tu "object"],ns:=103,qualname:=UC "CreaseError" },slots:=#[some (vR 95),none,some (vS "CreaseError" 288),some (vS "CreaseError" 296),some (Uw "ValueError.__new__"),some (UN true)] })::({ cls:=Tu "getset_descriptor",data:=TK #[vS "__weakref__" 301,vR 104,Uw "ExceptionGroup.__weakref__",vN] })::({ cls:=Tu "super",data:=TK #[vR 104,vR 104,vR 104] })::({ cls:=Tu "builtin_function_or_method",data:=TK #[Uw "object.__init_subclass__",vR 104] })::[])
open PySem.W in
noncomputable def lC (P:Vr):List Obj:=((((lB P).set 3 ({ cls:=Tu "dict",data:=VR #[eO P "__name__" 165 (vS "creasecourt.folding" 470),eO P "__doc__" 166 vN,eO P "__package__" 167 vN,eO P "__loader__" 168 (Uw "__main__.__loader__#opaque"),eO P "__spec__" 169 vN,eR P "__annotations__" 170 6,eR P "__builtins__" 171 4,eO P "__file__" 173 (vS "/claim/cut.py" 172),eO P "__cached__" 174 vN,eR P "_wall" 193 21,eR P "is_whole" 202 28,eR P "is_edge" 209 35,eR P "is_quarter" 216 42,eR P "line_of" 223 49,eR P "beside" 232 56,eR P "sides_of" 238 61,eR P "number_by" 246 68,eR P "hand_of" 256 75,eR P "mirrored" 268 82,eR P "sign_for" 279 89,eR P "outline" 285 94,eR P "CreaseError" 305 104,eR P "NoSize" 321 117,eR P "NoFold" 337 129,eR P "STILL" 346 132,eR P "laying_by" 355 139,eR P "mirror_in" 362 146,eR P "led" 372 153,eR P "then" 380 160,eR P "is_turned" 387 167,eR P "is_size" 396 174,eR P "check_size" 404 181,eR P "places_within" 410 186,eR P "quarters_in" 416 191,eR P "edges_in" 422 196,eR P "heights_in" 435 203,eR P "is_above" 444 210,eR P "turned_first" 453 217,eR P "mark_by_heights" 463 224,eR P "marks_by" 469 229,eR P "copied_piles" 481 236,eR P "folded_layings" 495 243] 42 })).set 12 ({ cls:=vN,data:=TK #[vI 1,vI 0,vR 20,vI 5,vI 0,vR 27,vI 7,vI 0,vR 34,vI 11,vI 0,vR 41,vI 15,vI 0,vR 48,vI 19,vI 0,vR 55,vI 23,vI 0,vR 60,vI 25,vI 0,vR 67,vI 33,vI 0,vR 74,vI 39,vI 0,vR 81,vI 52,vI 0,vR 88,vI 59,vI 0,vR 93,vI 67,vI 0,vR 100,vI 69,vI 0,vR 113,vI 71,vI 0,vR 125,vI 75,vI 0,vR 138,vI 77,vI 0,vR 145,vI 79,vI 0,vR 152,vI 83,vI 0,vR 159,vI 85,vI 0,vR 166,vI 88,vI 0,vR 173,vI 90,vI 0,vR 180,vI 93,vI 0,vR 185,vI 98,vI 0,vR 190,vI 100,vI 0,vR 195,vI 103,vI 0,vR 202,vI 109,vI 0,vR 209,vI 111,vI 0,vR 216,vI 116,vI 0,vR 223,vI 119,vI 0,vR 228,vI 123,vI 0,vR 235,vI 128,vI 0,vR 242] })).set 104 ({ cls:=Tu "type",data:=XS { name:=UC "CreaseError",bases:=[Tu "ValueError"],mro:=[vR 104,Tu "ValueError",Tu "Exception",Tu "BaseException",Tu "object"],ns:=103,qualname:=UC "CreaseError",subclasses:=[vR 117,vR 129] },slots:=#[some (vR 95),none,some (vS "CreaseError" 288),some (vS "CreaseError" 296),some (Uw "ValueError.__new__"),some (UN true)] }))++((tO #[vR 104])::({ cls:=Tu "builtin_function_or_method",data:=TK #[Uw "type.__prepare__",Tu "type"] })::({ cls:=Tu "dict",data:=VR #[eO P "__module__" 313 (vS "creasecourt.errors" 286),eO P "__qualname__" 315 (vS "NoSize" 314),eO P "__firstlineno__" 317 (UB 69 316),eR P "__static_attributes__" 318 115] 4 })::(tO #[])::({ cls:=vN,data:=TK #[] })::(cO #[vS "NoSize" 308,vS "NoSize" 309,vS "/claim/cut.py" 310,vI 69,vI 0,vI 0,vI 0,vI 0,vR 111,UN false,vI 181,vR 112,vN,vN,vN,vN,vI 311,vI 69,vS "/claim/cut.py" 312])::({ cls:=Tu "frame",slots:=#[some (vR 113),some (vR 3),some (vR 110),none,some (vS "creasecourt.errors" 286),none,some (vR 0)] })::(tO #[])::({ cls:=Tu "dict",data:=VR #[eO P "__module__" 313 (vS "creasecourt.errors" 286),eO P "__firstlineno__" 317 (UB 69 316),eR P "__static_attributes__" 318 115,eO P "__doc__" 319 vN] 2 })::({ cls:=Tu "type",data:=XS { name:=UC "NoSize",bases:=[vR 104],mro:=[vR 117,vR 104,Tu "ValueError",Tu "Exception",Tu "BaseException",Tu "object"],ns:=116,qualname:=UC "NoSize" },slots:=#[some (vR 108),none,some (vS "NoSize" 306),some (vS "NoSize" 314),some (Uw "ValueError.__new__"),some (UN true)] })::({ cls:=Tu "super",data:=TK #[vR 117,vR 117,vR 117] })::({ cls:=Tu "builtin_function_or_method",data:=TK #[Uw "object.__init_subclass__",vR 117] })::(tO #[vR 104])::({ cls:=Tu "builtin_function_or_method",data:=TK #[Uw "type.__prepare__",Tu "type"] })::({ cls:=Tu "dict",data:=VR #[eO P "__module__" 329 (vS "creasecourt.errors" 286),eO P "__qualname__" 331 (vS "NoFold" 330),eO P "__firstlineno__" 333 (UB 71 332),eR P "__static_attributes__" 334 127] 4 })::(tO #[])::({ cls:=vN,data:=TK #[] })::(cO #[vS "NoFold" 324,vS "NoFold" 325,vS "/claim/cut.py" 326,vI 71,vI 0,vI 0,vI 0,vI 0,vR 123,UN false,vI 181,vR 124,vN,vN,vN,vN,vI 327,vI 71,vS "/claim/cut.py" 328])::({ cls:=Tu "frame",slots:=#[some (vR 125),some (vR 3),some (vR 122),none,some (vS "creasecourt.errors" 286),none,some (vR 0)] })::(tO #[])::({ cls:=Tu "dict",data:=VR #[eO P "__module__" 329 (vS "creasecourt.errors" 286),eO P "__firstlineno__" 333 (UB 71 332),eR P "__static_attributes__" 334 127,eO P "__doc__" 335 vN] 2 })::({ cls:=Tu "type",data:=XS { name:=UC "NoFold",bases:=[vR 104],mro:=[vR 129,vR 104,Tu "ValueError",Tu "Exception",Tu "BaseException",Tu "object"],ns:=128,qualname:=UC "NoFold" },slots:=#[some (vR 120),none,some (vS "NoFold" 322),some (vS "NoFold" 330),some (Uw "ValueError.__new__"),some (UN true)] })::({ cls:=Tu "super",data:=TK #[vR 129,vR 129,vR 129] })::({ cls:=Tu "builtin_function_or_method",data:=TK #[Uw "object.__init_subclass__",vR 129] })::(tO #[UB 1 340,UB 0 341,UB 0 342,UB 1 343,UB 0 344,UB 0 345])::(tO #[])::({ cls:=vN,data:=TK #[] })::(tO #[vS "start" 350,vS "right" 351,vS "down" 352])::(tO #[])::(⟨vN,none,.func ({ TQ "laying_by" "laying_by" (bS (aE 20)) (bL (aE 20)) (bA (aE 20)) vN vN vN vN (none) vN vN with globals:=0 }),#[]⟩)::(kO "laying_by" "/claim/cut.py" 347 348 349 75 3 0 0 3 133 181 #[vR 134,vN,vR 135,vR 136,vR 137] 353 75 354)::(fO "laying_by" 20 (vS "creasecourt.layings" 338) 138)::(tO #[])::({ cls:=vN,data:=TK #[] })::(tO #[vS "edge" 359])::(tO #[])::(⟨vN,none,.func ({ TQ "mirror_in" "mirror_in" (bS (aE 21)) (bL (aE 21)) (bA (aE 21)) vN vN vN vN (none) vN vN with globals:=0 }),#[]⟩)::(kO "mirror_in" "/claim/cut.py" 356 357 358 77 1 0 0 3 140 181 #[vR 141,vN,vR 142,vR 143,vR 144] 360 77 361)::(fO "mirror_in" 21 (vS "creasecourt.layings" 338) 145)::(tO #[])::({ cls:=vN,data:=TK #[] })::(tO #[vS "laying" 366,vS "place" 367,vS "x" 368,vS "y" 369])::(tO #[])::(⟨vN,none,.func ({ TQ "led" "led" (bS (aE 22)) (bL (aE 22)) (bA (aE 22)) vN vN vN vN (none) vN vN with globals:=0 }),#[]⟩)::(kO "led" "/claim/cut.py" 363 364 365 79 2 0 0 3 147 181 #[vR 148,vN,vR 149,vR 150,vR 151] 370 79 371)::(fO "led" 22 (vS "creasecourt.layings" 338) 152)::(tO #[])::({ cls:=vN,data:=TK #[] })::(tO #[vS "one" 376,vS "other" 377])::(tO #[])::(⟨vN,none,.func ({ TQ "then" "then" (bS (aE 23)) (bL (aE 23)) (bA (aE 23)) vN vN vN vN (none) vN vN with globals:=0 }),#[]⟩)::(kO "then" "/claim/cut.py" 373 374 375 83 2 0 0 3 154 181 #[vR 155,vN,vR 156,vR 157,vR 158] 378 83 379)::(fO "then" 23 (vS "creasecourt.layings" 338) 159)::(tO #[])::({ cls:=vN,data:=TK #[] })::(tO #[vS "laying" 384])::(tO #[])::(⟨vN,none,.func ({ TQ "is_turned" "is_turned" (bS (aE 24)) (bL (aE 24)) (bA (aE 24)) vN vN vN vN (none) vN vN with globals:=0 }),#[]⟩)::(kO "is_turned" "/claim/cut.py" 381 382 383 85 1 0 0 3 161 181 #[vR 162,vN,vR 163,vR 164,vR 165] 385 85 386)::(fO "is_turned" 24 (vS "creasecourt.layings" 338) 166)::(tO #[])::({ cls:=vN,data:=TK #[] })::(tO #[vS "value" 393])::(tO #[])::(⟨vN,none,.func ({ TQ "is_size" "is_size" (bS (aE 26)) (bL (aE 26)) (bA (aE 26)) vN vN vN vN (none) vN vN with globals:=0 }),#[]⟩)::(kO "is_size" "/claim/cut.py" 390 391 392 88 1 0 0 3 168 181 #[vR 169,vN,vR 170,vR 171,vR 172] 394 88 395)::(fO "is_size" 26 (vS "creasecourt.sheets" 388) 173)::(tO #[])::({ cls:=vN,data:=TK #[] })::(tO #[vS "wide" 400,vS "high" 401])::(tO #[])::(⟨vN,none,.func ({ TQ "check_size" "check_size" (bS (aE 27)) (bL (aE 27)) (bA (aE 27)) vN vN vN vN (none) vN vN with globals:=0 }),#[]⟩)::(kO "check_size" "/claim/cut.py" 397 398 399 90 2 0 0 3 175 181 #[vR 176,vN,vR 177,vR 178,vR 179] 402 90 403)::(fO "check_size" 27 (vS "creasecourt.sheets" 388) 180)::(tO #[])::({ cls:=vN,data:=TK #[] })::(⟨vN,none,.func ({ TQ "places_within" "places_within" (bS (aE 28)) (bL (aE 28)) (bA (aE 28)) vN vN vN vN (none) vN vN with globals:=0 }),#[]⟩)::(kO "places_within" "/claim/cut.py" 405 406 407 93 2 0 0 3 182 181 #[vR 183,vN,vN,vN,vR 184] 408 93 409)::(fO "places_within" 28 (vS "creasecourt.sheets" 388) 185)::(tO #[])::({ cls:=vN,data:=TK #[] })::(⟨vN,none,.func ({ TQ "quarters_in" "quarters_in" (bS (aE 29)) (bL (aE 29)) (bA (aE 29)) vN vN vN vN (none) vN vN with globals:=0 }),#[]⟩)::(kO "quarters_in" "/claim/cut.py" 411 412 413 98 2 0 0 3 187 181 #[vR 188,vN,vN,vN,vR 189] 414 98 415)::(fO "quarters_in" 29 (vS "creasecourt.sheets" 388) 190)::(tO #[])::({ cls:=vN,data:=TK #[] })::(⟨vN,none,.func ({ TQ "edges_in" "edges_in" (bS (aE 30)) (bL (aE 30)) (bA (aE 30)) vN vN vN vN (none) vN vN with globals:=0 }),#[]⟩)::(kO "edges_in" "/claim/cut.py" 417 418 419 100 2 0 0 3 192 181 #[vR 193,vN,vN,vN,vR 194] 420 100 421)::(fO "edges_in" 30 (vS "creasecourt.sheets" 388) 195)::(tO #[])::({ cls:=vN,data:=TK #[] })::(tO #[vS "piles" 428,vS "heights" 429,vS "pile" 430,vS "height" 431,vS "quarter" 432])::(tO #[])::(⟨vN,none,.func ({ TQ "heights_in" "heights_in" (bS (aE 32)) (bL (aE 32)) (bA (aE 32)) vN vN vN vN (none) vN vN with globals:=0 }),#[]⟩)::(kO "heights_in" "/claim/cut.py" 425 426 427 103 1 0 0 3 197 181 #[vR 198,vN,vR 199,vR 200,vR 201] 433 103 434)::(fO "heights_in" 32 (vS "creasecourt.piles" 423) 202)::(tO #[])::({ cls:=vN,data:=TK #[] })::(tO #[vS "heights" 439,vS "one" 440,vS "other" 441])::(tO #[])::(⟨vN,none,.func ({ TQ "is_above" "is_above" (bS (aE 33)) (bL (aE 33)) (bA (aE 33)) vN vN vN vN (none) vN vN with globals:=0 }),#[]⟩)::(kO "is_above" "/claim/cut.py" 436 437 438 109 3 0 0 3 204 181 #[vR 205,vN,vR 206,vR 207,vR 208] 442 109 443)::(fO "is_above" 33 (vS "creasecourt.piles" 423) 209)::(tO #[])::({ cls:=vN,data:=TK #[] })::(tO #[vS "layings" 448,vS "edge" 449,vS "sides" 450])::(tO #[])::(⟨vN,none,.func ({ TQ "turned_first" "turned_first" (bS (aE 34)) (bL (aE 34)) (bA (aE 34)) vN vN vN vN (none) vN vN with globals:=0 }),#[]⟩)::(kO "turned_first" "/claim/cut.py" 445 446 447 111 2 0 0 3 211 181 #[vR 212,vN,vR 213,vR 214,vR 215] 451 111 452)::(fO "turned_first" 34 (vS "creasecourt.piles" 423) 216)::(tO #[])::({ cls:=vN,data:=TK #[] })::(tO #[vS "heights" 457,vS "layings" 458,vS "edge" 459,vS "sides" 460])::(tO #[])::(⟨vN,none,.func ({ TQ "mark_by_heights" "mark_by_heights" (bS (aE 35)) (bL (aE 35)) (bA (aE 35)) vN vN vN vN (none) vN vN with globals:=0 }),#[]⟩)::(kO "mark_by_heights" "/claim/cut.py" 454 455 456 116 3 0 0 3 218 181 #[vR 219,vN,vR 220,vR 221,vR 222] 461 116 462)::(fO "mark_by_heights" 35 (vS "creasecourt.piles" 423) 223)::(tO #[])::({ cls:=vN,data:=TK #[] })::(⟨vN,none,.func ({ TQ "marks_by" "marks_by" (bS (aE 36)) (bL (aE 36)) (bA (aE 36)) vN vN vN vN (none) vN vN with globals:=0 }),#[]⟩)::(kO "marks_by" "/claim/cut.py" 464 465 466 119 3 0 0 3 225 181 #[vR 226,vN,vN,vN,vR 227] 467 119 468)::(fO "marks_by" 36 (vS "creasecourt.piles" 423) 228)::(tO #[])::({ cls:=vN,data:=TK #[] })::(tO #[vS "piles" 475,vS "told" 476,vS "place" 477,vS "pile" 478])::(tO #[])::(⟨vN,none,.func ({ TQ "copied_piles" "copied_piles" (bS (aE 38)) (bL (aE 38)) (bA (aE 38)) vN vN vN vN (none) vN vN with globals:=0 }),#[]⟩)::(kO "copied_piles" "/claim/cut.py" 472 473 474 123 1 0 0 3 230 181 #[vR 231,vN,vR 232,vR 233,vR 234] 479 123 480)::(fO "copied_piles" 38 (vS "creasecourt.folding" 470) 235)::(tO #[])::({ cls:=vN,data:=TK #[] })::(tO #[vS "layings" 485,vS "edge" 486,vS "side" 487,vS "mirror" 488,vS "told" 489,vS "quarter" 490,vS "laying" 491,vS "goes" 492])::(tO #[])::(⟨vN,none,.func ({ TQ "folded_layings" "folded_layings" (bS (aE 39)) (bL (aE 39)) (bA (aE 39)) vN vN vN vN (none) vN vN with globals:=0 }),#[]⟩)::(kO "folded_layings" "/claim/cut.py" 482 483 484 128 3 0 0 3 237 181 #[vR 238,vN,vR 239,vR 240,vR 241] 493 128 494)::(fO "folded_layings" 39 (vS "creasecourt.folding" 470) 242)::[])
noncomputable def vE:Yi:={ scope:=UD.main.scope,locals:=mainNs,globals:=mainNs,cells:=[],code:=Tx 13,frame:=some 14 }
open PySem.W PyProof.Rows in
set_option maxRecDepth 100000 in
set_option maxHeartbeats 0 in
theorem Ie (w:Uk)(a:Yl):topGo V3 (U5 Tp).prog w 11 (some (Tx 6)) 12 ⟨W0 w.params,UY [],U9,Zt,a⟩ (topStub (U5 Tp).prog)=some (⟨⟨UY (lA w.params),{}⟩,UY [],U9,187,a⟩,⟨denote V3 (.body (Uh (U5 Tp).prog) vE),(.body (Uh (U5 Tp).prog) vE),⟨0,0,0,0⟩,[XM ⟨0,0,0,0⟩]⟩):=by kernel_rfl
open PySem.W PyProof.Rows in
set_option maxRecDepth 100000 in
set_option maxHeartbeats 0 in
theorem Ig (w:Uk)(a:Yl):a0U V3 (U5 Tp).prog w 11 (some (Tx 6)) 1 1 ⟨⟨UY (lA w.params),{}⟩,UY [],U9,187,a⟩ (blockOf (Uh (U5 Tp).prog) vE (.body (Uh (U5 Tp).prog) vE) ⟨0,0,0,0⟩ [XM ⟨0,0,0,0⟩])=some (.next,⟨⟨UY (lA w.params),{}⟩,UY [],U9,187,a⟩,(.body (Uh (U5 Tp).prog) vE),⟨0,0,0,0⟩):=by kernel_rfl
open PySem.W PyProof.Rows in
set_option maxRecDepth 100000 in
set_option maxHeartbeats 0 in
theorem Ih (w:Uk)(a:Yl):a0U V3 (U5 Tp).prog w 11 (some (Tx 6)) 1 569 ⟨⟨UY (lA w.params),{}⟩,UY [],U9,187,a⟩ (a1G ((Uh (U5 Tp).prog).take 16) vE (.body (Uh (U5 Tp).prog) vE) ⟨0,0,0,0⟩ [XM ⟨0,0,0,0⟩])=some (.next,⟨⟨UY (lB w.params),{}⟩,UY [],U9,306,a⟩,(.body (Uh (U5 Tp).prog) vE),⟨67,0,68,8⟩):=by kernel_rfl
open PySem.W PyProof.Rows in
set_option maxRecDepth 100000 in
set_option maxHeartbeats 0 in
theorem Ii (w:Uk)(a:Yl):a0U V3 (U5 Tp).prog w 11 (some (Tx 6)) 1 988 ⟨⟨UY (lB w.params),{}⟩,UY [],U9,306,a⟩ (a1G (((Uh (U5 Tp).prog).drop 16).take 24) vE (.body (Uh (U5 Tp).prog) vE) ⟨67,0,68,8⟩ [XM ⟨0,0,0,0⟩])=some (.next,⟨⟨UY (lC w.params),{}⟩,UY [],U9,496,a⟩,(.body (Uh (U5 Tp).prog) vE),⟨128,0,134,15⟩):=by kernel_rfl
open PySem.W PyProof.Rows in
set_option maxRecDepth 100000 in
set_option maxHeartbeats 0 in
theorem run:LeftO (U5 Tp).prog Vw [] (fun s=>xlAt Vw [] s&&recOk (a2s (a1l (U5 Tp))) s) (Hook.obs (a3B Kx As o8)) (Hook.val (a3B Kx As o8)) 5148:=
 L3.left_cut (hA:=fun P=>⟨UY (lA P),{}⟩) (hB:=fun P=>⟨UY (lB P),{}⟩) (hC:=fun P=>⟨UY (lC P),{}⟩) (n3:=1157) (i1:=16) (i2:=24) (env:=vE) (boot_open (by kernel_rfl) (by kernel_rfl) (fun _=>by kernel_rfl)) (fun w=>by kernel_rfl) Ie Ig Ih Ii (fun w a=>by kernel_rfl) (by kernel_rfl)
end Lw
set_option maxHeartbeats 4000000
namespace L3
open PySem
open PySem.SetTable (Probe Met Slot bits runEnd leap turns insertAt sizeAbove)
namespace Tb
noncomputable def l9 (m:Nat)(p:Probe):Probe:=
 if p.more>0 then { p with j:=p.j+1,more:=p.more - 1 } else
 { p with j:=(leap m p.i p.perturb).1,more:=runEnd m (leap m p.i p.perturb).1 - (leap m p.i p.perturb).1,i:=(leap m p.i p.perturb).1,perturb:=(leap m p.i p.perturb).2 }
noncomputable def Ij (m:Nat)(b:Nat):Probe:={ j:=b % (m+1),more:=runEnd m (b % (m+1)) - b % (m+1),i:=b % (m+1),perturb:=b,dummy:=none }
noncomputable def cE (m b:Nat):Nat->Probe
 | 0=>Ij m b
 | k+1=>l9 m (cE m b k)
noncomputable def lp (m b:Nat):Nat->Nat×Nat
 | 0=>(b % (m+1),b)
 | n+1=>leap m (lp m b n).1 (lp m b n).2
noncomputable def hd (m i q:Nat):Probe:={ j:=i,more:=runEnd m i - i,i:=i,perturb:=q,dummy:=none }
theorem o9 {m b k i q:Nat}(h:cE m b k=hd m i q):∀ r,r<=runEnd m i - i->cE m b (k+r) = { j:=i+r,more:=runEnd m i - i - r,i:=i,perturb:=q,dummy:=none }
 | 0,_=>by rw [X6,h];rfl
 | r+1,hr=>by
  have e:=o9 h r (by omega)
  show l9 m (cE m b (k+r))=_
  rw [e]
  unfold l9
  rw [if_pos (show runEnd m i - i - r>0 by omega)]
  show Probe.mk (i+r+1) (runEnd m i - i - r - 1) i q none=_
  rw [Nat.add_assoc,Nat.sub_sub]
theorem Ik {m b k i q:Nat}(h:cE m b k=hd m i q):cE m b (k+(runEnd m i - i)+1)=hd m (leap m i q).1 (leap m i q).2:=by
 have e:=o9 h (runEnd m i - i) (Tt _)
 show l9 m (cE m b (k+(runEnd m i - i)))=_
 rw [e]
 unfold l9
 rw [if_neg (show ¬ (runEnd m i - i - (runEnd m i - i)>0) by omega)]
 rfl
noncomputable def nx (m i:Nat):Nat:=(i * 5+1) % (m+1)
noncomputable def iF (m:Nat):Nat->Nat->Nat
 | 0,i=>i
 | n+1,i=>iF m n (nx m i)
theorem pD (m:Nat):∀ (a b i:Nat),iF m (a+b) i=iF m b (iF m a i)
 | 0,b,i=>by rw [YL];rfl
 | a+1,b,i=>by rw [Nat.succ_add];exact pD m a b (nx m i)
noncomputable def kU (m:Nat):Nat->Nat->Nat->Nat
 | 0,_,acc=>acc
 | f+1,i,acc=>kU m f (nx m i) (acc ||| (1 <<< i))
theorem AO (m j:Nat):∀ (f i a:Nat),(kU m f i a).testBit j=true->a.testBit j=true\/∃ n,n<f/\iF m n i=j
 | 0,_,_,h=>.inl h
 | f+1,i,a,h=>by
  rcases AO m j f (nx m i) _ h with h|⟨n,d,e⟩
  ·rw [Nat.testBit_or] at h
   cases c:a.testBit j with
   | true=>exact .inl rfl
   | false=>
    rw [c,a2g,Nat.testBit_shiftLeft] at h
    refine .inr ⟨0,by omega,?_⟩
    simp at h
    have b:Nat.testBit 1 (j - i)=true:=h.2
    rw [Nat.testBit_one_eq_true_iff_self_eq_zero] at b
    show i=j
    omega
  ·exact .inr ⟨n+1,by omega,e⟩
noncomputable def nB (m:Nat):Bool:=kU m (m+1) 0 0 == 2 ^ (m+1) - 1&&iF m (m+1) 0 == 0
theorem Il {m:Nat}(h:nB m=true){i j:Nat}(o:i<=m)(g:j<=m):∃ n,n<=m/\iF m n i=j:=by
 unfold nB at h
 rw [To,beq_iff_eq,beq_iff_eq] at h
 have b:∀ j,j<=m->∃ n,n<m+1/\iF m n 0=j:=fun j g=>by
  rcases AO m j (m+1) 0 0 (by rw [h.1,Nat.testBit_two_pow_sub_one];simp;omega) with q|q
  ·simp at q
  ·exact q
 obtain ⟨a,p,d⟩:=b i o
 obtain ⟨c,hc,e⟩:=b j g
 by_cases l:a<=c
 ·refine ⟨c - a,by omega,?_⟩
  rw [<- d,<- pD,show a+(c - a)=c by omega,e]
 ·refine ⟨m+1 - a+c,by omega,?_⟩
  rw [<- d,<- pD,show a+(m+1 - a+c)=m+1+c by omega,pD,h.2,e]
theorem AQ (m b:Nat):∀ n,(lp m b n).2=b / 32 ^ n
 | 0=>by simp [lp]
 | n+1=>by
  show (lp m b n).2 / 32=_
  rw [AQ m b n,Nat.div_div_eq_div_mul,Nat.pow_succ]
theorem AR (m b:Nat):∀ n,(lp m b n).1<=m
 | 0=>a1w (a3G _ (X4 _))
 | n+1=>a1w (a3G _ (X4 _))
theorem Im {m b:Nat}(c:b<2 ^ 64):∀ n,lp m b (13+n)=(iF m n (lp m b 13).1,0):=by
 have a:∀ n,13<=n->(lp m b n).2=0:=fun n d=>by
  rw [AQ]
  apply Nat.div_eq_of_lt
  refine T9 c ?_
  have:(2:Nat) ^ 64<=32 ^ 13:=by decide
  exact UE this (Nat.pow_le_pow_right (by decide) d)
 intro n
 have one:∀ n i,iF m (n+1) i=nx m (iF m n i):=fun n i=>by
  rw [pD];rfl
 induction n with
 | zero=>exact WD rfl (a 13 (Tt _))
 | succ n e=>
  show leap m (lp m b (13+n)).1 (lp m b (13+n)).2=_
  rw [e,one]
  simp [leap,nx]
theorem Io {m b j:Nat}(hc:nB m=true)(a:b<2 ^ 64)(c:j<=m):∃ n,n<=m+13/\(lp m b n).1=j:=by
 obtain ⟨n,d,e⟩:=Il hc (AR m b 13) c
 exact ⟨13+n,by omega,by rw [Im a];exact e⟩
noncomputable def Reach (m:Nat)(S:List Nat)(b j:Nat):Prop:=∃ k,(cE m b k).j=j/\∀ k',k'<k->(cE m b k').j∈S
theorem Reach.mono {m b j:Nat}{S c:List Nat}(h:Reach m S b j)(g:∀ x,x∈S->x∈c):Reach m c b j:=
 let ⟨k,e,a⟩:=h;⟨k,e,fun i d=>g _ (a i d)⟩
theorem Ip {m:Nat}{S:List Nat}(b:S.length<=m):∃ j,j<=m/\j∉S:=by
 refine Wm fun h=>?_
 have all:∀ j,j<=m->j∈S:=fun j a=>Wm fun q=>h ⟨j,a,q⟩
 have:=List.Nodup.length_le_of_subset (l₁:=Ui (m+1)) (l₂:=S) a1x fun j a=>all j (by simpa [Ze] using a)
 rw [WT] at this
 omega
theorem vA {xs:Array Nat}{j:Nat}(g:∀ a b,a<b->b<xs.size->xs.getD a 0<xs.getD b 0):∀ (f lo d:Nat),d - lo<=f->lo<=d->d<=xs.size->(∀ i,i<lo->xs.getD i 0<j)->(∀ i,d<=i->i<xs.size->j<=xs.getD i 0)->
  W7 xs j f lo d<=xs.size/\(∀ i,i<W7 xs j f lo d->xs.getD i 0<j)/\∀ i,W7 xs j f lo d<=i->i<xs.size->j<=xs.getD i 0
 | 0,lo,d,hf,h1,h2,a,b=>by
  have e:lo=d:=by omega
  show lo<=xs.size/\(∀ i,i<lo->_)/\∀ i,lo<=i->_
  exact ⟨by omega,a,by rw [e];exact b⟩
 | f+1,lo,d,hf,h1,h2,a,b=>by
  unfold W7
  by_cases q:lo<d
  ·rw [if_pos q]
   dsimp only
   have n:(lo+d) / 2<xs.size:=by omega
   have e:xs.getD ((lo+d) / 2) j=xs.getD ((lo+d) / 2) 0:=by simp [VG,n]
   rw [e]
   by_cases c:xs.getD ((lo+d) / 2) 0<j
   ·rw [if_pos c]
    refine vA g f _ _ (by omega) (by omega) h2 (fun i l=>?_) b
    rcases Wc i ((lo+d) / 2) with z|z
    ·exact X5 (g _ _ z n) c
    ·have:i=(lo+d) / 2:=by omega
     rw [this];exact c
   ·rw [if_neg c]
    refine vA g f _ _ (by omega) (by omega) (by omega) a fun i l m=>?_
    rcases Wc ((lo+d) / 2) i with z|z
    ·have:=g _ _ z m;omega
    ·have:i=(lo+d) / 2:=by omega
     rw [this];omega
  ·rw [if_neg q]
   exact ⟨by omega,a,fun i h m=>b i (by omega) m⟩
theorem AS {xs:Array Nat}(h:xs.toList.Pairwise (·<·)):∀ a b,a<b->b<xs.size->xs.getD a 0<xs.getD b 0:=fun a b c d=>by
 have:=XA.mp h a b (by simpa using X5 c d) (by simpa using d) c
 simpa [VG,d,X5 c d] using this
theorem AU {xs:Array Nat}(h:xs.toList.Pairwise (·<·))(j:Nat):UT xs j<=xs.size/\(∀ i,i<UT xs j->xs.getD i 0<j)/\∀ i,UT xs j<=i->i<xs.size->j<=xs.getD i 0:=
 vA (AS h) _ _ _ (by omega) (by omega) (Tt _) (fun i z=>absurd z (WJ _)) fun i z a=>by omega
theorem Iq {a:Type}(xs:Array a)(p:Nat)(x:a):(insertAt xs p x).toList=xs.toList.take p++x::xs.toList.drop p:=by
 unfold insertAt
 simp
 exact XY (by simp)
noncomputable abbrev nC:=Nat×Int×Te
structure Ok (t:X9)(R:List nC):Prop where
 place:t.place.toList=R.map (·.1)
 dum:t.dummies = #[]
 rise:(R.map (·.1)).Pairwise (·<·)
 le:∀ r∈R,r.1<=t.mask
 cov:nB t.mask=true
 odd:t.mask % 2=1
 room:R.length<=t.mask
 road:∀ r∈R,Reach t.mask (R.map (·.1)) (bits r.2.1) r.1
section
variable {t:X9}{R:List nC}
theorem Ir (h:Int):bits h<2 ^ 64:=by
 unfold bits
 have a:0<=h % (2 ^ 64:Int):=WK _ (by decide)
 have b:h % (2 ^ 64:Int)<2 ^ 64:=We _ (by decide)
 omega
theorem Ok.size (o:Ok t R):t.place.size=R.length:=by
 have:=congrArg Uo o.place
 simpa using this
theorem Ok.uniq (o:Ok t R){r c:nC}(h:r∈R)(h':c∈R)(e:r.1=c.1):r=c:=by
 have p:=Wl.mp o.rise
 obtain ⟨i,d,a⟩:=Vg h
 obtain ⟨k,g,b⟩:=Vg h'
 rcases YN i k with z|z|z
 ·have:=XA.mp p i k d g z
  rw [a,b] at this;omega
 ·subst z;rw [<- a,<- b]
 ·have:=XA.mp p k i g d z
  rw [a,b] at this;omega
theorem Ok.getD (o:Ok t R){i:Nat}(a:i<R.length):t.place.getD i 0=(R[i]).1:=by
 have h:t.place.toList[i]? = (R.map (·.1))[i]?:=by rw [o.place]
 have b:i<t.place.size:=by rw [o.size];exact a
 simp [a,b] at h
 simp [VG,b,h]
theorem Ok.sorted (o:Ok t R):t.place.toList.Pairwise (·<·):=by rw [o.place];exact o.rise
theorem AV (j:Nat):Zi #[] j=false:=by
 unfold Zi
 simp
theorem Ok.live (o:Ok t R){j:Nat}(h:j∈R.map (·.1)):∃ i r,t.slot j=.live i/\R[i]? = some r/\r.1=j:=by
 obtain ⟨r,m,e⟩:=Ts.mp h
 obtain ⟨i,a,d⟩:=Vg m
 have b:=AU o.sorted j
 have l:t.place.getD i 0=j:=by rw [o.getD a,d];exact e
 have c:i<t.place.size:=by rw [o.size];exact a
 have g:UT t.place j=i:=by
  rcases YN (UT t.place j) i with z|z|z
  ·have n:=b.2.2 _ (Tt _) (by omega)
   have p:=AS o.sorted _ _ z c
   omega
  ·exact z
  ·have:=b.2.1 i z;omega
 refine ⟨i,r,?_,by rw [<- d];exact TV a,e⟩
 unfold a0Z
 dsimp only
 rw [g,if_pos]
 have:t.place[i]? = some j:=by
  rw [Wz c]
  simpa [VG,c] using l
 rw [this]
 exact beq_self_eq_true _
theorem Ok.empty (o:Ok t R){j:Nat}(h:j∉R.map (·.1)):t.slot j=.empty:=by
 unfold a0Z
 dsimp only
 rw [if_neg,o.dum,AV]
 ·rfl
 ·intro q
  rw [beq_iff_eq] at q
  apply h
  rw [<- o.place]
  exact a0h.mpr (Array.mem_of_getElem? q)
theorem AW (m b:Nat):∀ k,(cE m b k).dummy=none
 | 0=>rfl
 | k+1=>by
  show (l9 m (cE m b k)).dummy=none
  unfold l9
  split<;>exact AW m b k
theorem Ok.go (o:Ok t R)(Zq:Nat->Int)(w:∀ i r,R[i]? = some r->Zq i=r.2.1){h:Int}{K:Nat}(u:(cE t.mask (bits h) K).j∉R.map (·.1))(v:∀ k',k'<K->(cE t.mask (bits h) k').j∈R.map (·.1)) :
  ∀ (f k:Nat),k<=K->K<k+f->
   (W6 t Zq h f (cE t.mask (bits h) k)=some (.empty (cE t.mask (bits h) K).j none)/\∀ k' r,k<=k'->k'<K->r∈R->r.1=(cE t.mask (bits h) k').j->r.2.1≠h) \/
   ∃ k' i r,k<=k'/\k'<K/\R[i]? = some r/\r.1=(cE t.mask (bits h) k').j/\r.2.1=h/\W6 t Zq h f (cE t.mask (bits h) k)=some (.candidate (cE t.mask (bits h) k').j i (cE t.mask (bits h) (k'+1))) /\
    ∀ c g,k<=c->c<k'->g∈R->g.1=(cE t.mask (bits h) c).j->g.2.1≠h
 | 0,k,h1,h2=>by omega
 | f+1,k,h1,h2=>by
  rcases Wc k K with z|z
  ·obtain ⟨i,r,e,n,s⟩:=o.live (v k z)
   have J:W6 t Zq h (f+1) (cE t.mask (bits h) k)=if Zq i == h then some (.candidate (cE t.mask (bits h) k).j i (cE t.mask (bits h) (k+1))) else W6 t Zq h f (cE t.mask (bits h) (k+1)):=by
    show (match t.slot (cE t.mask (bits h) k).j with|.empty=>_|.dummy=>_|.live i=>_)=_
    rw [e]
    rfl
   rw [J,w i r n]
   have p:r∈R:=Ue n
   by_cases q:r.2.1=h
   ·refine .inr ⟨k,i,r,Tt _,z,n,s,q,?_,fun c g a b=>by omega⟩
    rw [q,if_pos (beq_self_eq_true _)]
   ·rw [if_neg (by simpa using q)]
    have here:∀ g,g∈R->g.1=(cE t.mask (bits h) k).j->g.2.1≠h:=fun g d j=>by
     rw [o.uniq d p (j.trans s.symm)];exact q
    rcases Ok.go o Zq w u v f (k+1) z (by omega) with ⟨a,b⟩|⟨k',L,g,M,x,A,B,E,G,H⟩
    ·refine .inl ⟨a,fun k' g I m d j=>?_⟩
     rcases Wc k k' with y|y
     ·exact b k' g y m d j
     ·have:k'=k:=by omega
      subst this;exact here g d j
    ·refine .inr ⟨k',L,g,by omega,x,A,B,E,G,fun c l I m d j=>?_⟩
     rcases Wc k c with y|y
     ·exact H c l y m d j
     ·have:c=k:=by omega
      subst this;exact here l d j
  ·have:k=K:=by omega
   subst this
   refine .inl ⟨?_,fun k' r a b=>by omega⟩
   show (match t.slot (cE t.mask (bits h) k).j with|.empty=>_|.dummy=>_|.live i=>_)=_
   rw [o.empty u]
   show some (Met.empty _ (cE t.mask (bits h) k).dummy)=_
   rw [AW]
theorem Ok.put (o:Ok t R){j:Nat}{h:Int}{x:Te}(n:j<=t.mask)(u:j∉R.map (·.1))(a:Reach t.mask (R.map (·.1)) (bits h) j)(A:R.length+1<=t.mask) :
  (t.put j).2=UT t.place j/\(t.put j).1.mask=t.mask/\(t.put j).1.led=t.led/\(t.put j).1.plain=t.plain/\Ok (t.put j).1 (R.take (UT t.place j)++(j,h,x)::R.drop (UT t.place j)):=by
 have b:=AU o.sorted j
 rw [o.size] at b
 refine ⟨rfl,rfl,rfl,rfl,?_⟩
 have c:∀ r,r∈R.take (UT t.place j)++(j,h,x)::R.drop (UT t.place j)↔r=(j,h,x)\/r∈R:=fun r=>by
  constructor
  ·intro q
   rcases U7.mp q with q|q
   ·exact .inr (Yg q)
   ·rcases T1.mp q with q|q
    ·exact .inl q
    ·exact .inr (a0p q)
  ·rintro (q|q)
   ·exact U7.mpr (.inr (T1.mpr (.inl q)))
   ·rw [<- Vx (UT t.place j) R] at q
    rcases U7.mp q with q|q
    ·exact U7.mpr (.inl q)
    ·exact U7.mpr (.inr (T1.mpr (.inr q)))
 have g:∀ y,y∈R.map (·.1)->y∈(R.take (UT t.place j)++(j,h,x)::R.drop (UT t.place j)).map (·.1):=fun y v=>by
  obtain ⟨r,q,e⟩:=Ts.mp v
  exact Ts.mpr ⟨r,(c r).mpr (.inr q),e⟩
 have m:∀ r,r∈R.take (UT t.place j)->r.1<j:=fun r a=>by
  obtain ⟨i,d,e⟩:=Vg a
  rw [Uv] at d
  have:=b.2.1 i (by omega)
  rw [o.getD (by omega)] at this
  rw [List.getElem_take] at e
  rw [<- e];exact this
 have d:∀ r,r∈R.drop (UT t.place j)->j<r.1:=fun r a=>by
  have s:r∈R:=a0p a
  obtain ⟨i,d,e⟩:=Vg a
  rw [Ww] at d
  have:=b.2.2 (UT t.place j+i) (by omega) (by omega)
  rw [o.getD (by omega)] at this
  rw [List.getElem_drop] at e
  rw [e] at this
  have ne:r.1≠j:=fun z=>u (Ts.mpr ⟨r,s,z⟩)
  omega
 refine ⟨?_,?_,?_,?_,o.cov,o.odd,?_,?_⟩
 ·show (insertAt t.place _ j).toList=_
  rw [Iq,o.place,TM,Tq,XG,ZD]
 ·show (if Zi t.dummies j=true then _ else t.dummies) = #[]
  rw [o.dum,AV];rfl
 ·have p:=Wl.mp o.rise
  rw [Wl,a0o]
  refine ⟨p.sublist (a1n _ _),List.pairwise_cons.mpr ⟨fun r a=>d r a,p.sublist (List.drop_sublist _ _)⟩,fun r a w l=>?_⟩
  rcases T1.mp l with q|q
  ·subst q;exact m r a
  ·exact X5 (m r a) (d w q)
 ·intro r q
  rcases (c r).mp q with q|q
  ·subst q;exact n
  ·exact o.le r q
 ·rw [Tz,T6,Uv,Ww]
  show _<=t.mask
  omega
 ·intro r q
  rcases (c r).mp q with q|q
  ·subst q;exact a.mono g
  ·exact (o.road r q).mono g
end
noncomputable def lv (m:Nat)(a:Array (Option Nat)):List (Nat×Nat):=(Ui (m+1)).filterMap fun j=>(a.getD j none).map (j,·)
theorem mem_lv {m:Nat}{c:Array (Option Nat)}{j i:Nat}:(j,i)∈lv m c↔j<=m/\c.getD j none=some i:=by
 unfold lv
 rw [Yw]
 constructor
 ·rintro ⟨a,n,e⟩
  rw [Tg] at e
  obtain ⟨b,d,g⟩:=e
  cases g
  exact ⟨by simpa [Ze] using n,d⟩
 ·rintro ⟨h,l⟩
  exact ⟨j,by simpa [Ze] using h,by rw [l];rfl⟩
theorem Iu (m:Nat)(i:Array (Option Nat)):((lv m i).map (·.1)).Pairwise (·<·):=by
 rw [Wl]
 unfold lv
 refine a2H (R:=(·<·)) _ (fun a j h b d l c=>?_) List.pairwise_lt_range
 rw [Tg] at d c
 obtain ⟨_,_,e⟩:=d
 obtain ⟨_,_,g⟩:=c
 rw [<- e,<- g]
 exact h
structure Ow (m:Nat)(ds:List Int)(ow:Array (Option Nat)):Prop where
 size:ow.size=m+1
 lt:∀ j i,ow.getD j none=some i->i<ds.length
 all:∀ i,i<ds.length->∃ j,ow.getD j none=some i
 inj:∀ j j' i,ow.getD j none=some i->ow.getD j' none=some i->j=j'
 road:∀ j i,ow.getD j none=some i->Reach m ((lv m ow).map (·.1)) (bits (ds.getD i 0)) j
section
variable {m:Nat}{ds:List Int}{ow:Array (Option Nat)}
theorem Ow.le (o:Ow m ds ow){j i:Nat}(h:ow.getD j none=some i):j<=m:=by
 rcases Wc j ow.size with z|z
 ·rw [o.size] at z;omega
 ·simp [VG,W8.mpr z] at h
theorem Ow.taken (o:Ow m ds ow){j:Nat}(b:j<=m):j∈(lv m ow).map (·.1)↔(ow.getD j (some 0)).isNone=false:=by
 have c:j<ow.size:=by rw [o.size];omega
 have e:ow.getD j (some 0)=ow.getD j none:=by simp [VG,c]
 rw [e]
 constructor
 ·intro q
  obtain ⟨⟨a,i⟩,d,rfl⟩:=Ts.mp q
  rw [(mem_lv.mp d).2];rfl
 ·intro q
  cases z:ow.getD j none with
  | none=>rw [z] at q;cases q
  | some i=>exact Ts.mpr ⟨(j,i),mem_lv.mpr ⟨b,z⟩,rfl⟩
theorem Ow.perm (o:Ow m ds ow):((lv m ow).map (·.2)).Perm (Ui ds.length):=by
 have nd:((lv m ow).map (·.2)).Nodup:=by
  have p:=Wl.mp (Iu m ow)
  unfold List.Nodup
  rw [Wl]
  refine p.imp_of_mem fun {a b} l n c e=>?_
  obtain ⟨d,g⟩:=a
  obtain ⟨h,s⟩:=b
  have:=o.inj d h g (mem_lv.mp l).2 (by have:=(mem_lv.mp n).2;rw [this];exact congrArg some e.symm)
  exact VA _ (this ▸ c)
 refine (List.perm_ext_iff_of_nodup nd a1x).mpr fun i=>?_
 rw [Vk]
 constructor
 ·intro q
  obtain ⟨⟨a,i⟩,r,rfl⟩:=Ts.mp q
  exact o.lt a i (mem_lv.mp r).2
 ·intro q
  obtain ⟨j,e⟩:=o.all i q
  exact Ts.mpr ⟨(j,i),mem_lv.mpr ⟨o.le e,e⟩,rfl⟩
theorem Ow.count (o:Ow m ds ow):(lv m ow).length=ds.length:=by
 have:=o.perm.length_eq
 simpa using this
theorem Ow.free (o:Ow m ds ow){b:Nat}:∀ (f n a:Nat),cE m b a=hd m (lp m b n).1 (lp m b n).2->(∀ k',k'<a->(cE m b k').j∈(lv m ow).map (·.1))->(∃ N,n<=N/\N<n+f/\(lp m b N).1∉(lv m ow).map (·.1))->
  ∃ j,Xc m ow f (lp m b n).1 (lp m b n).2=some j/\j<=m/\j∉(lv m ow).map (·.1)/\Reach m ((lv m ow).map (·.1)) b j
 | 0,n,a,_,_,⟨N,h1,h2,_⟩=>by omega
 | f+1,n,a,hk,ht,⟨N,h1,h2,hN⟩=>by
  have v:=AR m b n
  have l:runEnd m (lp m b n).1<=m:=by unfold runEnd;split<;>omega
  have p:(lp m b n).1<=runEnd m (lp m b n).1:=by unfold runEnd;split<;>omega
  unfold Xc
  cases z:(Ui (runEnd m (lp m b n).1+1 - (lp m b n).1)).find? fun k=>(ow.getD ((lp m b n).1+k) (some 0)).isNone with
  | some r=>
   rw [List.find?_range_eq_some] at z
   obtain ⟨h,s,u⟩:=z
   rw [Vk] at s
   refine ⟨(lp m b n).1+r,rfl,by omega,fun q=>?_,a+r,by rw [o9 hk r (by omega)],fun k' c=>?_⟩
   ·rw [o.taken (by omega)] at q
    rw [q] at h;cases h
   ·rcases Wc k' a with y|y
    ·exact ht k' y
    ·obtain ⟨d,rfl⟩:=ZV y
     rw [o9 hk d (by omega)]
     show (lp m b n).1+d∈_
     rw [o.taken (by omega)]
     have:=u d (by omega)
     simpa using this
  | none=>
   rw [List.find?_range_eq_none] at z
   have g:∀ r,r<runEnd m (lp m b n).1+1 - (lp m b n).1->(lp m b n).1+r∈(lv m ow).map (·.1):=fun r i=>by
    rw [o.taken (by omega)]
    have:=z r i
    simpa using this
   have ne:N≠n:=fun e=>hN (by rw [e];exact g 0 (by omega))
   refine Ow.free o f (n+1) _ (Ik hk) (fun k' c=>?_) ⟨N,by omega,by omega,hN⟩
   rcases Wc k' a with y|y
   ·exact ht k' y
   ·obtain ⟨d,rfl⟩:=ZV y
    rw [o9 hk d (by omega)]
    exact g d (by omega)
theorem Ow.step (o:Ow m ds ow)(hc:nB m=true)(G:ds.length<=m)(h:Int):∃ j,Xc m ow (turns m) (bits h % (m+1)) (bits h)=some j/\Ow m (ds++[h]) (ow.setIfInBounds j (some ds.length)):=by
 obtain ⟨g,B,u⟩:=Ip (m:=m) (S:=(lv m ow).map (·.1)) (by rw [Tc,o.count];exact G)
 obtain ⟨N,J,A⟩:=Io hc (Ir h) B
 obtain ⟨j,e,E,w,H⟩:=o.free (b:=bits h) (turns m) 0 0 rfl (fun l z=>absurd z (WJ _)) ⟨N,Uz _,by unfold turns;omega,by rw [A];exact u⟩
 have x:j<ow.size:=by rw [o.size];omega
 have get:∀ k,(ow.setIfInBounds j (some ds.length)).getD k none=if k=j then some ds.length else ow.getD k none:=fun k=>by
  by_cases q:k=j
  ·subst q;simp [VG,x]
  ·rw [if_neg q]
   simp [VG]
   split
   ·rw [Array.getElem_setIfInBounds]
    rw [if_neg (Uu q)]
   ·rfl
 have r:ow.getD j none=none:=by
  cases z:ow.getD j none with
  | none=>rfl
  | some i=>exact absurd (Ts.mpr ⟨(j,i),mem_lv.mpr ⟨E,z⟩,rfl⟩) w
 have p:∀ y,y∈(lv m ow).map (·.1)->y∈(lv m (ow.setIfInBounds j (some ds.length))).map (·.1):=fun y I=>by
  obtain ⟨⟨a,i⟩,q,rfl⟩:=Ts.mp I
  have s:=mem_lv.mp q
  refine Ts.mpr ⟨(a,i),mem_lv.mpr ⟨s.1,?_⟩,rfl⟩
  rw [get,if_neg (fun z=>by rw [z,r] at s;cases s.2)]
  exact s.2
 refine ⟨j,e,⟨by rw [Array.size_setIfInBounds];exact o.size,fun k i b=>?_,fun i v=>?_,fun k l i c d=>?_,fun k i b=>?_⟩⟩
 ·rw [get] at b
  rw [Tz,Vj]
  by_cases q:k=j
  ·rw [if_pos q] at b;cases b;omega
  ·rw [if_neg q] at b;have:=o.lt k i b;omega
 ·rw [Tz,Vj] at v
  by_cases q:i=ds.length
  ·exact ⟨j,by rw [get,if_pos rfl,q]⟩
  ·obtain ⟨k,b⟩:=o.all i (by omega)
   exact ⟨k,by rw [get,if_neg (fun z=>by rw [z,r] at b;cases b)];exact b⟩
 ·rw [get] at c d
  by_cases q:k=j
  ·by_cases n:l=j
   ·rw [q,n]
   ·rw [if_pos q] at c;rw [if_neg n] at d
    cases c;exact absurd (o.lt l _ d) (VA _)
  ·by_cases n:l=j
   ·rw [if_neg q] at c;rw [if_pos n] at d
    cases d;exact absurd (o.lt k _ c) (VA _)
   ·rw [if_neg q] at c;rw [if_neg n] at d
    exact o.inj k l i c d
 ·rw [get] at b
  by_cases q:k=j
  ·rw [if_pos q] at b;cases b
   rw [q]
   have:(ds++[h]).getD ds.length 0=h:=by simp [V1]
   rw [this]
   exact H.mono p
  ·rw [if_neg q] at b
   have v:=o.lt k i b
   have:(ds++[h]).getD i 0=ds.getD i 0:=by simp [V1,TR v]
   rw [this]
   exact (o.road k i b).mono p
end
theorem Ow.nil (m:Nat):Ow m [] (Y2 (m+1) none):=by
 have e:∀ j,(Y2 (m+1) (none:Option Nat)).getD j none=none:=fun j=>by
  simp [VG]
 have a:∀ {P:Prop}(j i:Nat),(Y2 (m+1) (none:Option Nat)).getD j none=some i->P:=fun j i h=>by
  rw [e] at h;exact nomatch h
 exact ⟨by simp,fun j i h=>a j i h,fun i h=>absurd h (WJ _),fun j b i h _=>a j i h,fun j i h=>a j i h⟩
end Tb
end L3
namespace L3
open PySem
open PySem.SetTable (Probe Met Slot bits runEnd leap turns insertAt sizeAbove)
namespace Tb
section
variable {prog:T3}{w:Uk}{K:Type} [DecidableEq K] {knd:KeyKind prog w K}{A:Ug}{E:Te->Th->Prop}{s:Th}
theorem fits_of {t:X9}{R:List nC}{a:Array (Int×Te)}(o:Ok t R)(d:a.toList=R.map (·.2)):t.fits a.size=true:=by
 have b:a.size=R.length:=by simpa using congrArg Uo d
 have c:=o.room
 unfold SetTable.fits SetTable.fill
 rw [o.size,b,o.dum]
 simp;exact c
end
section
variable {prog:T3}{w:Uk}{A:Ug}{E:Te->Th->Prop}{s:Th}
noncomputable abbrev El:=List Int×Addr
noncomputable def hashT (k:List Int):Int:=reduceHash (a2J (k.map hashInt))
noncomputable def Iw (p:El):Int×Te:=(hashT p.1,Tx p.2)
noncomputable def Msk (m:Nat):Prop:=m=7\/m=31\/m=127\/m=511
theorem Msk.cov {m:Nat}(h:Msk m):nB m=true:=by
 rcases h with rfl|rfl|rfl|rfl<;>decide +kernel
theorem Msk.odd {m:Nat}(h:Msk m):m % 2=1:=by
 rcases h with rfl|rfl|rfl|rfl<;>rfl
noncomputable def AX (w:Uk):Bool:=w.params.followText "set-order"
noncomputable def Iy (b:Bool)(L:List El)(o:Obj):Prop:=∃ a c t R,o.ExactSet/\o.data=.set a c t/\a.toList=R.map (·.2)/\Ok t R/\a.toList.Perm (L.map Iw)/\(L.map (·.1)).Nodup/\Msk t.mask/\L.length * 5<t.mask * 3/\t.plain=true/\t.led=b
noncomputable def SObj (L:List El)(o:Obj):Prop:=∃ a,Iy a L o
end
end Tb
end L3
namespace L3
open PySem
namespace Tb
noncomputable def Iz (w:Uk)(t:X9):Nat->Nat
 | 0=>0
 | i+1=>if AX w then 0 else t.place.getD i 0+1
section
variable {prog:T3}{w:Uk}{A:Ug}{E:Te->Th->Prop}{s:Th}
noncomputable def SIt (w:Uk)(h:UW)(I a:Addr)(t:X9)(i n b:Nat):Prop:=∃ o,h.get? I=some o/\o.cls=.type "set_iterator"/\o.data=.fields #[XN (Iz w t i),XN i,.ref a,XN n,XN b]
theorem SIt.ty {I a:Addr}{t:X9}{i n b:Nat}(x:SIt w s.heap I a t i n b):s.TypeIs (.ref I) "set_iterator":=let ⟨o,c,hc,_⟩:=x;⟨o,c,hc⟩
structure SAt (w:Uk)(h:UW)(a:Addr)(es:Array (Int×Te))(ep:Nat)(t:X9)(R:List nC):Prop where
 at_:∃ o,h.get? a=some o/\o.cls=.type "set"/\o.data=.set es ep t
 he:es.toList=R.map (·.2)
 ok:Ok t R
 pl:t.plain=true
 led:t.led = !AX w
theorem SAt.ty {a:Addr}{c:Array (Int×Te)}{b:Nat}{t:X9}{R:List nC}(x:SAt w s.heap a c b t R):s.TypeIs (.ref a) "set":=let ⟨o,d,hc,_⟩:=x.at_;⟨o,d,hc⟩
end
end Tb
end L3
namespace L3
open PySem L2
inductive D where
 | non|bl (b:Bool)|int (i:Int)|str (x:Str)|tup (xs:List D)|rol (xs:List D)|loc (a:Nat)|ty (n:String)
 deriving Inhabited
inductive C where
 | lst (xs:List D)
 | dK (kvs:List (aN×D))
 | st (ks:List (List Int))
 | dT (kvs:List (List Int×D))
 | dF (kvs:List (List Int×D))
 | ins (x:Str)(fs:List (Str×D))
 deriving Inhabited
noncomputable abbrev Hm:=List C
noncomputable abbrev aI:=List (Option D)
noncomputable abbrev ME:=aI->Hm->Option (D×Hm)
noncomputable abbrev MT:=aI->Hm->Option (Bool×Hm)
noncomputable abbrev MA:=aI->Hm->Option (List D×Hm)
inductive Fl where
 | nx|rt (d:D)|bk|ct
noncomputable abbrev MS:=aI->Hm->Option (Fl×aI×Hm)
noncomputable abbrev MF:=List D->Hm->Option (D×Hm)
noncomputable def RoL (K:Ta)(H:Hp)(p:Addr)(xs:List V):Prop:=
 (∃ o,H p=some (.frz o (.lst xs))) \/
  ∃ (o:Obj)(its:Array Te)(n:Nat),K.lookup p=some o/\o.cls=.type "list"/\o.dict=none/\o.data=.seq its n/\its.size<=TC/\Vals xs its.toList
theorem RoL.sq {K:Ta}{H:Hp}{p:Addr}{xs:List V}(h:RoL K H p xs):SqL K H p xs:=by
 rcases h with ⟨o,h⟩|h
 ·exact .inl (.inr ⟨o,h⟩)
 ·exact .inr h
mutual
inductive IsD (K:Ta)(π:Nat->Addr)(n:Nat)(H:Hp):V->D->Prop where
 | non:IsD K π n H .non .non
 | bl (b:Bool):IsD K π n H (.bl b) (.bl b)
 | int (i:Int):IsD K π n H (.int i) (.int i)
 | str (x:Str):IsD K π n H (.str x) (.str x)
 | tup {p:Addr}{vs:List V}{ds:List D}(h:SqT K H p vs)(t:IsDs K π n H vs ds):IsD K π n H (.ref p) (.tup ds)
 | rol {p:Addr}{vs:List V}{ds:List D}(h:RoL K H p vs)(t:IsDs K π n H vs ds):IsD K π n H (.ref p) (.rol ds)
 | loc {a:Nat}(h:a<n):IsD K π n H (.ref (π a)) (.loc a)
 | ty (x:String):IsD K π n H (.ty x) (.ty x)
inductive IsDs (K:Ta)(π:Nat->Addr)(n:Nat)(H:Hp):List V->List D->Prop where
 | nil:IsDs K π n H [] []
 | cons {v:V}{d:D}{vs:List V}{ds:List D}(h:IsD K π n H v d)(t:IsDs K π n H vs ds):IsDs K π n H (v::vs) (d::ds)
end
structure Ext (π:Nat->Addr)(n:Nat)(H:Hp)(π':Nat->Addr)(n':Nat)(H':Hp):Prop where
 le:n<=n'
 pi:∀ a,a<n->π' a=π a
 tup:∀ p vs,H p=some (.tup vs)->H' p=some (.tup vs)
 frz:∀ p o u,H p=some (.frz o u)->H' p=some (.frz o u)
structure Ext0 (π:Nat->Addr)(n:Nat)(H:Hp)(π':Nat->Addr)(n':Nat)(H':Hp):Prop where
 le:n<=n'
 pi:∀ a,a<n->π' a=π a
 tup:∀ p vs,H p=some (.tup vs)->H' p=some (.tup vs)
 frz:∀ p o u,(∀ φ,u≠HO.ext φ)->H p=some (.frz o u)->H' p=some (.frz o u)
section
variable {K:Ta}{π π' π2:Nat->Addr}{n n' n2:Nat}{H H' H2:Hp}
theorem Ext.weak (e:Ext π n H π' n' H'):Ext0 π n H π' n' H':=⟨e.le,e.pi,e.tup,fun p o u _ h=>e.frz p o u h⟩
theorem Ext.refl:Ext π n H π n H:=⟨Tt _,fun _ _=>rfl,fun _ _ h=>h,fun _ _ _ h=>h⟩
theorem Ext.trans (a:Ext π n H π' n' H')(b:Ext π' n' H' π2 n2 H2):Ext π n H π2 n2 H2:=
 ⟨UE a.le b.le,fun i h=>(b.pi i (T9 h a.le)).trans (a.pi i h),fun p c h=>b.tup p c (a.tup p c h),fun p o u h=>b.frz p o u (a.frz p o u h)⟩
theorem Ext0.sqT (e:Ext0 π n H π' n' H'){p:Addr}{vs:List V}(h:SqT K H p vs):SqT K H' p vs:=by
 rcases h with h|h
 ·rcases h with h|⟨o,h⟩
  ·exact .inl (.inl (e.tup _ _ h))
  ·exact .inl (.inr ⟨o,e.frz _ _ _ (fun _ z=>nomatch z) h⟩)
 ·exact .inr h
theorem Ext.sqT (e:Ext π n H π' n' H'){p:Addr}{vs:List V}(h:SqT K H p vs):SqT K H' p vs:=e.weak.sqT h
theorem Ext0.roL (e:Ext0 π n H π' n' H'){p:Addr}{vs:List V}(h:RoL K H p vs):RoL K H' p vs:=by
 rcases h with ⟨o,h⟩|h
 ·exact .inl ⟨o,e.frz _ _ _ (fun _ z=>nomatch z) h⟩
 ·exact .inr h
theorem Ext.roL (e:Ext π n H π' n' H'){p:Addr}{vs:List V}(h:RoL K H p vs):RoL K H' p vs:=e.weak.roL h
mutual
theorem IsD.mono0 {v:V}{d:D}(e:Ext0 π n H π' n' H'):IsD K π n H v d->IsD K π' n' H' v d
 | .non=>.non
 | .bl b=>.bl b
 | .int i=>.int i
 | .str x=>.str x
 | .ty x=>.ty x
 | .tup h t=>.tup (e.sqT h) (IsDs.mono0 e t)
 | .rol h t=>.rol (e.roL h) (IsDs.mono0 e t)
 | .loc h=>by
  rw [<- e.pi _ h]
  exact .loc (T9 h e.le)
theorem IsDs.mono0 {vs:List V}{ds:List D}(e:Ext0 π n H π' n' H'):IsDs K π n H vs ds->IsDs K π' n' H' vs ds
 | .nil=>.nil
 | .cons h t=>.cons (IsD.mono0 e h) (IsDs.mono0 e t)
end
theorem IsD.mono {v:V}{d:D}(e:Ext π n H π' n' H')(h:IsD K π n H v d):IsD K π' n' H' v d:=h.mono0 e.weak
theorem IsDs.mono {vs:List V}{ds:List D}(e:Ext π n H π' n' H')(h:IsDs K π n H vs ds):IsDs K π' n' H' vs ds:=h.mono0 e.weak
theorem IsDs.length {vs:List V}{ds:List D}(h:IsDs K π n H vs ds):vs.length=ds.length:=by
 induction ds generalizing vs with
 | nil=>cases h;rfl
 | cons d ds a=>
  cases h with
  | cons h t=>rw [T6,T6,a t]
theorem IsDs.get {vs:List V}{ds:List D}(h:IsDs K π n H vs ds){i:Nat}{d:D}(e:ds[i]? = some d):∃ v,vs[i]? = some v/\IsD K π n H v d:=by
 induction ds generalizing vs i with
 | nil=>simp at e
 | cons g ds c=>
  cases h with
  | cons h t=>
   cases i with
   | zero=>
    simp at e
    subst e
    exact ⟨_,rfl,h⟩
   | succ i=>
    obtain ⟨v,a,b⟩:=c t (by simpa using e)
    exact ⟨v,by simpa using a,b⟩
theorem IsDs.append {vs ws:List V}{ds a:List D}(h:IsDs K π n H vs ds)(b:IsDs K π n H ws a):IsDs K π n H (vs++ws) (ds++a):=by
 induction ds generalizing vs with
 | nil=>cases h;exact b
 | cons d ds c=>
  cases h with
  | cons h t=>exact .cons h (c t)
theorem IsDs.drop {vs:List V}{ds:List D}(h:IsDs K π n H vs ds)(k:Nat):IsDs K π n H (vs.drop k) (ds.drop k):=by
 induction ds generalizing vs k with
 | nil=>cases h;simpa using IsDs.nil
 | cons d ds a=>
  cases h with
  | cons h t=>
   cases k with
   | zero=>exact .cons h t
   | succ k=>exact a t k
theorem IsDs.take {vs:List V}{ds:List D}(h:IsDs K π n H vs ds)(k:Nat):IsDs K π n H (vs.take k) (ds.take k):=by
 induction ds generalizing vs k with
 | nil=>cases h;simpa using IsDs.nil
 | cons d ds a=>
  cases h with
  | cons h t=>
   cases k with
   | zero=>exact .nil
   | succ k=>exact .cons h (a t k)
theorem IsDs.atI {vs:List V}{ds:List D}(h:IsDs K π n H vs ds){i:Int}{d:D}(e:L2.atI ds i=some d):∃ v,L2.atI vs i=some v/\IsD K π n H v d:=by
 unfold L2.atI at e ⊢
 rw [h.length]
 cases q:kS ds.length i with
 | none=>rw [q] at e;cases e
 | some j=>
  rw [q] at e
  exact h.get e
end
noncomputable def rB (p:Addr)(L:List Tb.El):HO:=.ext fun h=>∃ o,h.get? p=some o/\Tb.SObj L o
noncomputable def pE (p:List Int×Addr×V)(w:Te):UH:=⟨Tb.hashT p.1,.ref p.2.1,w⟩
noncomputable def aY (a:Addr)(ps:List (List Int×Addr×V)):HO:=.ext fun h=>∃ ws:List Te,Vals (ps.map (·.2.2)) ws/\(a == UR)=false/\ps.length<=TC /\
 ∃ o b c,h.get? a=some o/\o.ExactDict/\o.data=.dict b c/\b.toList=Xo pE ps ws/\(ps.map (·.1)).Nodup
noncomputable def InsIs (K:Ta)(π:Nat->Addr)(n:Nat)(H:Hp)(o:HO)(x:Str)(fs:List (Str×D)):Prop:=
 ∃ (C a:Addr)(vs:List (Str×V)),o=.ins C a vs/\V6 K US x=some (some (.ref C))/\vs.map (·.1)=fs.map (·.1)/\IsDs K π n H (vs.map (·.2)) (fs.map (·.2))
theorem InsIs.mono0 {K:Ta}{π a:Nat->Addr}{n c:Nat}{H b:Hp}{o:HO}{x:Str}{fs:List (Str×D)}(e:Ext0 π n H a c b)(h:InsIs K π n H o x fs):InsIs K a c b o x fs:=
 let ⟨C,d,m,g,i,j,l⟩:=h;⟨C,d,m,g,i,j,l.mono0 e⟩
structure Rp (K:Ta)(π:Nat->Addr)(H:Hp)(μ:Hm):Prop where
 inj:∀ a b,a<μ.length->b<μ.length->π a=π b->a=b
 has:∀ a,a<μ.length->(H (π a)).isSome=true
 lst:∀ a xs,μ[a]? = some (.lst xs)->∃ vs,H (π a)=some (.lst vs)/\IsDs K π μ.length H vs xs
 dK:∀ a kvs,μ[a]? = some (.dK kvs)->∃ vs,H (π a)=some (.dK vs)/\vs.map (·.1)=kvs.map (·.1)/\IsDs K π μ.length H (vs.map (·.2)) (kvs.map (·.2))
 st:∀ a ks,μ[a]? = some (.st ks)->∃ L:List Tb.El,H (π a)=some (rB (π a) L)/\L.map (·.1)=ks/\IsDs K π μ.length H (L.map fun p=>V.ref p.2) (ks.map fun k=>D.tup (k.map D.int))
 dT:∀ a kvs,μ[a]? = some (.dT kvs)->∃ ps:List (List Int×Addr×V),H (π a)=some (aY (π a) ps)/\ps.map (·.1)=kvs.map (·.1)/\IsDs K π μ.length H (ps.map fun p=>V.ref p.2.1) (kvs.map fun k=>D.tup (k.1.map D.int))/\IsDs K π μ.length H (ps.map (·.2.2)) (kvs.map (·.2))
 dF:∀ a kvs,μ[a]? = some (.dF kvs)->∃ (ob:Obj)(ps:List (List Int×Addr×V)),H (π a)=some (.frz ob (aY (π a) ps))/\ps.map (·.1)=kvs.map (·.1)/\IsDs K π μ.length H (ps.map fun p=>V.ref p.2.1) (kvs.map fun k=>D.tup (k.1.map D.int))/\IsDs K π μ.length H (ps.map (·.2.2)) (kvs.map (·.2))
 ins:∀ a x fs,μ[a]? = some (.ins x fs)->∃ o,H (π a)=some o/\InsIs K π μ.length H o x fs
structure En (K:Ta)(π:Nat->Addr)(n:Nat)(H:Hp)(σ:St)(ρ:aI):Prop where
 len:σ.length=ρ.length
 get:∀ (i:Nat)(d:D),ρ[i]? = some (some d)->∃ v,σ[i]? = some (some v)/\IsD K π n H v d
section
variable {K:Ta}{π π' π2:Nat->Addr}{n n' n2:Nat}{H H' H2:Hp}{μ μ':Hm}{σ:St}{ρ:aI}
theorem En.mono (E:En K π n H σ ρ)(e:Ext π n H π' n' H'):En K π' n' H' σ ρ:=
 ⟨E.len,fun i d h=>let ⟨v,a,b⟩:=E.get i d h;⟨v,a,b.mono e⟩⟩
theorem En.set (E:En K π n H σ ρ){v:V}{d:D}(h:IsD K π n H v d)(i:Nat):En K π n H (σ.set i (some v)) (ρ.set i (some d)):=by
 refine ⟨by rw [Ud,Ud];exact E.len,fun j c e=>?_⟩
 rw [List.getElem?_set] at e ⊢
 by_cases a:i=j
 ·subst a
  rw [if_pos rfl] at e ⊢
  rw [E.len]
  by_cases b:i<ρ.length
  ·rw [if_pos b] at e ⊢
   cases e
   exact ⟨v,rfl,h⟩
  ·rw [if_neg b] at e
   cases e
 ·rw [if_neg a] at e ⊢
  exact E.get j c e
theorem Rp.ne {p:Addr}(R:Rp K π H μ)(h:H p=none){a:Nat}(b:a<μ.length):π a≠p:=fun e=>by
 have:=R.has a b
 rw [e,h] at this
 cases this
theorem Rp.fresh {p:Addr}{o:HO}(R:Rp K π H μ)(h:H p=none):Ext π μ.length H π μ.length (aO H p o)/\Rp K π (aO H p o) μ:=by
 have keep:∀ b u,H b=some u->aO H p o b=some u:=fun b u e=>by
  rw [bI (gH e h)]
  exact e
 have e:Ext π μ.length H π μ.length (aO H p o):=⟨Tt _,fun _ _=>rfl,fun q j e=>keep q _ e,fun q o u e=>keep q _ e⟩
 refine ⟨e,R.inj,fun a c=>?_,fun a v c=>?_,fun a i c=>?_,fun a r c=>?_
  ,fun a i c=>?_
  ,fun a i c=>?_
  ,fun a x fs c=>?_
  ⟩
 ·rw [bI (R.ne h c)]
  exact R.has a c
 ·obtain ⟨j,d,g⟩:=R.lst a v c
  exact ⟨j,keep _ _ d,g.mono e⟩
 ·obtain ⟨j,d,g,l⟩:=R.dK a i c
  exact ⟨j,keep _ _ d,g,l.mono e⟩
 ·obtain ⟨j,d,g,l⟩:=R.st a r c
  exact ⟨j,keep _ _ d,g,l.mono e⟩
 ·obtain ⟨j,d,g,l,m⟩:=R.dT a i c
  exact ⟨j,keep _ _ d,g,l.mono e,m.mono e⟩
 ·obtain ⟨s,j,d,g,l,m⟩:=R.dF a i c
  exact ⟨s,j,keep _ _ d,g,l.mono e,m.mono e⟩
 ·obtain ⟨o,d,g⟩:=R.ins a x fs c
  exact ⟨o,keep _ _ d,g.mono0 e.weak⟩
noncomputable def pF (K:Ta)(π:Nat->Addr)(n:Nat)(H:Hp)(p:Addr):C->HO->Prop
 | .lst xs,.lst vs=>IsDs K π n H vs xs
 | .dK kvs,.dK vs=>vs.map (·.1)=kvs.map (·.1)/\IsDs K π n H (vs.map (·.2)) (kvs.map (·.2))
 | .st ks,o=>∃ L:List Tb.El,o=rB p L/\L.map (·.1)=ks/\IsDs K π n H (L.map fun p=>V.ref p.2) (ks.map fun k=>D.tup (k.map D.int))
 | .dT kvs,o=>∃ ps:List (List Int×Addr×V),o=aY p ps/\ps.map (·.1)=kvs.map (·.1)/\IsDs K π n H (ps.map fun p=>V.ref p.2.1) (kvs.map fun k=>D.tup (k.1.map D.int))/\IsDs K π n H (ps.map (·.2.2)) (kvs.map (·.2))
 | .dF kvs,o=>∃ (ob:Obj)(ps:List (List Int×Addr×V)),o=.frz ob (aY p ps)/\ps.map (·.1)=kvs.map (·.1)/\IsDs K π n H (ps.map fun p=>V.ref p.2.1) (kvs.map fun k=>D.tup (k.1.map D.int))/\IsDs K π n H (ps.map (·.2.2)) (kvs.map (·.2))
 | .ins x fs,o=>InsIs K π n H o x fs
 | _,_=>False
noncomputable def fD (π:Nat->Addr)(n:Nat)(p:Addr):Nat->Addr:=fun a=>if a=n then p else π a
theorem Rp.alloc {p:Addr}{c:C}{o:HO}(R:Rp K π H μ)(h:H p=none)(hc:pF K π μ.length H p c o) :
  Ext π μ.length H (fD π μ.length p) (μ++[c]).length (aO H p o)/\Rp K (fD π μ.length p) (aO H p o) (μ++[c])/\fD π μ.length p μ.length=p:=by
 have E:(μ++[c]).length=μ.length+1:=by simp
 have keep:∀ b u,H b=some u->aO H p o b=some u:=fun b u e=>by
  rw [bI (gH e h)]
  exact e
 have y:fD π μ.length p μ.length=p:=if_pos rfl
 have s:∀ a,a<μ.length->fD π μ.length p a=π a:=fun a d=>if_neg (TY d)
 have e:Ext π μ.length H (fD π μ.length p) (μ++[c]).length (aO H p o):=⟨by rw [E];exact Y3 _,s,fun q m e=>keep q _ e,fun q o u e=>keep q _ e⟩
 have split:∀ a,a<(μ++[c]).length->a<μ.length\/a=μ.length:=fun a d=>by rw [E] at d;omega
 have get:∀ a,a<μ.length->(μ++[c])[a]? = μ[a]?:=fun a d=>TR d
 have i:(μ++[c])[μ.length]? = some c:=by simp
 refine ⟨e,⟨fun a b d A q=>?_,fun a d=>?_,fun a J d=>?_,fun a w d=>?_,fun a G d=>?_
  ,fun a w d=>?_
  ,fun a w d=>?_
  ,fun a x fs d=>?_
  ⟩,y⟩
 ·rcases split a d with d|rfl<;>rcases split b A with A|rfl
  ·rw [s a d,s b A] at q
   exact R.inj a b d A q
  ·rw [s a d,y] at q
   exact absurd q (R.ne h d)
  ·rw [y,s b A] at q
   exact absurd q.symm (R.ne h A)
  ·rfl
 ·rcases split a d with d|rfl
  ·rw [s a d,bI (R.ne h d)]
   exact R.has a d
  ·rw [y,c9]
   rfl
 ·have g:a<(μ++[c]).length:=(Tf.mp d).1
  rcases split a g with j|rfl
  ·rw [get a j] at d
   obtain ⟨m,v,l⟩:=R.lst a J d
   rw [s a j]
   exact ⟨m,keep _ _ v,l.mono e⟩
  ·rw [i] at d
   cases d
   cases o with
   | lst m=>
    rw [y]
    exact ⟨m,c9,IsDs.mono e hc⟩
   | _=>exact Vb hc
 ·have g:a<(μ++[c]).length:=(Tf.mp d).1
  rcases split a g with j|rfl
  ·rw [get a j] at d
   obtain ⟨m,v,l,r⟩:=R.dK a w d
   rw [s a j]
   exact ⟨m,keep _ _ v,l,r.mono e⟩
  ·rw [i] at d
   cases d
   cases o with
   | dK m=>
    rw [y]
    exact ⟨m,c9,hc.1,IsDs.mono e hc.2⟩
   | _=>exact Vb hc
 ·have g:a<(μ++[c]).length:=(Tf.mp d).1
  rcases split a g with j|rfl
  ·rw [get a j] at d
   obtain ⟨m,v,l,r⟩:=R.st a G d
   rw [s a j]
   exact ⟨m,keep _ _ v,l,r.mono e⟩
  ·rw [i] at d
   cases d
   obtain ⟨L,rfl,l,r⟩:=hc
   rw [y]
   exact ⟨L,c9,l,r.mono e⟩
 ·have g:a<(μ++[c]).length:=(Tf.mp d).1
  rcases split a g with j|rfl
  ·rw [get a j] at d
   obtain ⟨m,v,l,r,z⟩:=R.dT a w d
   rw [s a j]
   exact ⟨m,keep _ _ v,l,r.mono e,z.mono e⟩
  ·rw [i] at d
   cases d
   obtain ⟨L,rfl,l,r,z⟩:=hc
   rw [y]
   exact ⟨L,c9,l,r.mono e,z.mono e⟩
 ·have g:a<(μ++[c]).length:=(Tf.mp d).1
  rcases split a g with j|rfl
  ·rw [get a j] at d
   obtain ⟨B,m,v,l,r,z⟩:=R.dF a w d
   rw [s a j]
   exact ⟨B,m,keep _ _ v,l,r.mono e,z.mono e⟩
  ·rw [i] at d
   cases d
   obtain ⟨B,L,rfl,l,r,z⟩:=hc
   rw [y]
   exact ⟨B,L,c9,l,r.mono e,z.mono e⟩
 ·have g:a<(μ++[c]).length:=(Tf.mp d).1
  rcases split a g with j|rfl
  ·rw [get a j] at d
   obtain ⟨I,v,l⟩:=R.ins a x fs d
   rw [s a j]
   exact ⟨I,keep _ _ v,l.mono0 e.weak⟩
  ·rw [i] at d
   cases d
   rw [y]
   exact ⟨o,c9,InsIs.mono0 e.weak hc⟩
theorem Rp.putU {a:Nat}{c:C}{o u:HO}(R:Rp K π H μ)(I:a<μ.length)(A:H (π a)=some u)(B:(∀ vs,u≠.tup vs)/\∀ ob v,(∀ N,v≠HO.ext N)->u≠.frz ob v)(hc:pF K π μ.length H (π a) c o) :
  Ext0 π μ.length H π (μ.set a c).length (aO H (π a) o)/\Rp K π (aO H (π a) o) (μ.set a c):=by
 have p:(μ.set a c).length=μ.length:=Ud ..
 have e:Ext0 π μ.length H π (μ.set a c).length (aO H (π a) o):=by
  refine ⟨Xs p.symm,fun _ _=>rfl,fun q vs z=>?_,fun q E O nx z=>?_⟩
  ·rw [bI]
   ·exact z
   ·intro e
    subst e
    rw [A] at z
    exact B.1 _ (TL z)
  ·rw [bI]
   ·exact z
   ·intro e
    subst e
    rw [A] at z
    exact B.2 _ _ nx (TL z)
 have i:∀ b,b<μ.length->b≠a->aO H (π a) o (π b)=H (π b):=fun b d y=>bI fun q=>y (R.inj b a d I q)
 refine ⟨e,⟨fun b G d w=>R.inj b G (p ▸ d) (p ▸ w),fun b d=>?_,fun b M d=>?_,fun b r d=>?_,fun b J d=>?_
  ,fun b r d=>?_
  ,fun b r d=>?_
  ,fun b x fs d=>?_
  ⟩⟩
 ·by_cases h:b=a
  ·subst h
   rw [c9]
   rfl
  ·rw [i b (p ▸ d) h]
   exact R.has b (p ▸ d)
 ·have g:b<μ.length:=p ▸ (Tf.mp d).1
  by_cases h:b=a
  ·subst h
   rw [TU g] at d
   cases d
   cases o with
   | lst vs=>exact ⟨vs,c9,IsDs.mono0 e hc⟩
   | _=>exact Vb hc
  ·rw [Tv (Uu h)] at d
   obtain ⟨vs,m,j⟩:=R.lst b M d
   exact ⟨vs,by rw [i b g h];exact m,j.mono0 e⟩
 ·have g:b<μ.length:=p ▸ (Tf.mp d).1
  by_cases h:b=a
  ·subst h
   rw [TU g] at d
   cases d
   cases o with
   | dK vs=>exact ⟨vs,c9,hc.1,IsDs.mono0 e hc.2⟩
   | _=>exact Vb hc
  ·rw [Tv (Uu h)] at d
   obtain ⟨vs,m,j,l⟩:=R.dK b r d
   exact ⟨vs,by rw [i b g h];exact m,j,l.mono0 e⟩
 ·have g:b<μ.length:=p ▸ (Tf.mp d).1
  by_cases h:b=a
  ·subst h
   rw [TU g] at d
   cases d
   obtain ⟨L,rfl,j,l⟩:=hc
   exact ⟨L,c9,j,l.mono0 e⟩
  ·rw [Tv (Uu h)] at d
   obtain ⟨vs,m,j,l⟩:=R.st b J d
   exact ⟨vs,by rw [i b g h];exact m,j,l.mono0 e⟩
 ·have g:b<μ.length:=p ▸ (Tf.mp d).1
  by_cases h:b=a
  ·subst h
   rw [TU g] at d
   cases d
   obtain ⟨L,rfl,j,l,s⟩:=hc
   exact ⟨L,c9,j,l.mono0 e,s.mono0 e⟩
  ·rw [Tv (Uu h)] at d
   obtain ⟨vs,m,j,l,s⟩:=R.dT b r d
   exact ⟨vs,by rw [i b g h];exact m,j,l.mono0 e,s.mono0 e⟩
 ·have g:b<μ.length:=p ▸ (Tf.mp d).1
  by_cases h:b=a
  ·subst h
   rw [TU g] at d
   cases d
   obtain ⟨ob,L,rfl,j,l,s⟩:=hc
   exact ⟨ob,L,c9,j,l.mono0 e,s.mono0 e⟩
  ·rw [Tv (Uu h)] at d
   obtain ⟨ob,vs,m,j,l,s⟩:=R.dF b r d
   exact ⟨ob,vs,by rw [i b g h];exact m,j,l.mono0 e,s.mono0 e⟩
 ·have g:b<μ.length:=p ▸ (Tf.mp d).1
  by_cases h:b=a
  ·subst h
   rw [TU g] at d
   cases d
   exact ⟨o,c9,InsIs.mono0 e hc⟩
  ·rw [Tv (Uu h)] at d
   obtain ⟨E,m,j⟩:=R.ins b x fs d
   exact ⟨E,by rw [i b g h];exact m,j.mono0 e⟩
theorem Rp.put0 {a:Nat}{c:C}{o u:HO}(R:Rp K π H μ)(e:a<μ.length)(g:H (π a)=some u)(d:(∃ vs,u=.lst vs)\/(∃ vs,u=.dK vs)\/(∃ b,u=.ext b)\/∃ ob b,u=.frz ob (.ext b))(hc:pF K π μ.length H (π a) c o) :
  Ext0 π μ.length H π (μ.set a c).length (aO H (π a) o)/\Rp K π (aO H (π a) o) (μ.set a c):=
 R.putU e g ⟨fun vs z=>(by rcases d with ⟨w,rfl⟩|⟨w,rfl⟩|⟨w,rfl⟩|⟨ob,w,rfl⟩<;>cases z),fun ob v nx z=>by
  rcases d with ⟨w,rfl⟩|⟨w,rfl⟩|⟨w,rfl⟩|⟨ob,w,rfl⟩<;>cases z
  exact nx _ rfl⟩ hc
theorem Rp.putE {a:Nat}{c:C}{o u:HO}(R:Rp K π H μ)(g:a<μ.length)(d:H (π a)=some u)(b:(∀ vs,u≠.tup vs)/\∀ ob v,u≠.frz ob v)(hc:pF K π μ.length H (π a) c o) :
  Ext π μ.length H π (μ.set a c).length (aO H (π a) o)/\Rp K π (aO H (π a) o) (μ.set a c):=by
 have e:Ext π μ.length H π (μ.set a c).length (aO H (π a) o):=by
  refine ⟨Xs (Ud ..).symm,fun _ _=>rfl,fun q vs z=>?_,fun q h i z=>?_⟩
  ·rw [bI]
   ·exact z
   ·intro e
    subst e
    rw [d] at z
    exact b.1 _ (TL z)
  ·rw [bI]
   ·exact z
   ·intro e
    subst e
    rw [d] at z
    exact b.2 _ _ (TL z)
 exact ⟨e,(R.putU g d ⟨b.1,fun ob v _=>b.2 ob v⟩ hc).2⟩
theorem Rp.put {a:Nat}{c:C}{o u:HO}(R:Rp K π H μ)(d:a<μ.length)(e:H (π a)=some u)(b:(∃ vs,u=.lst vs)\/(∃ vs,u=.dK vs)\/∃ g,u=.ext g)(hc:pF K π μ.length H (π a) c o) :
  Ext π μ.length H π (μ.set a c).length (aO H (π a) o)/\Rp K π (aO H (π a) o) (μ.set a c):=
 R.putE d e ⟨fun vs z=>(by rcases b with ⟨w,rfl⟩|⟨w,rfl⟩|⟨w,rfl⟩<;>cases z),fun h v z=>by rcases b with ⟨w,rfl⟩|⟨w,rfl⟩|⟨w,rfl⟩<;>cases z⟩ hc
end
noncomputable def KC (K:Ta)(Q:VK)(π:Nat->Addr)(n:Nat)(H:Hp)(d:D)(μ':Hm):Prop:=
 ∀ a v b,Ext π n H a μ'.length b->Rp K a b μ'->IsD K a μ'.length b v d->Q v b
theorem KC.after {K:Ta}{Q:VK}{π a:Nat->Addr}{n g:Nat}{H c:Hp}{d:D}{μ':Hm}(k:KC K Q π n H d μ')(e:Ext π n H a g c):KC K Q a g c d μ':=
 fun b v h j R i=>k b v h (e.trans j) R i
noncomputable def tM (K:Ta)(m:ME):TE:=fun σ H Q=>∃ π b a d μ',Rp K π H a/\En K π a.length H σ b/\m b a=some (d,μ')/\KC K Q π a.length H d μ'
noncomputable def cY (K:Ta)(m:MT):TT:=fun σ H Q=>∃ π e c b μ',Rp K π H c/\En K π c.length H σ e/\m e c=some (b,μ')/\∀ a d,Ext π c.length H a μ'.length d->Rp K a d μ'->Q b d
noncomputable def dY (K:Ta)(m:MA):TA:=fun σ H Q=>∃ π d c ds μ',Rp K π H c/\En K π c.length H σ d/\m d c=some (ds,μ')/\∀ a vs b,Ext π c.length H a μ'.length b->Rp K a b μ'->IsDs K a μ'.length b vs ds->Q vs b
noncomputable def nD (K:Ta)(E:Ends)(π:Nat->Addr)(n:Nat)(H:Hp)(g:Fl)(e:aI)(μ':Hm):Prop:=
 match g with
 | .nx=>∀ a b c,Ext π n H a μ'.length c->Rp K a c μ'->En K a μ'.length c b e->E.nx b c
 | .bk=>∀ a b c,Ext π n H a μ'.length c->Rp K a c μ'->En K a μ'.length c b e->E.bk b c
 | .ct=>∀ a b c,Ext π n H a μ'.length c->Rp K a c μ'->En K a μ'.length c b e->E.ct b c
 | .rt d=>KC K E.rt π n H d μ'
noncomputable def c5 (K:Ta)(m:MS):TS:=fun E σ H=>∃ π d b c a μ',Rp K π H b/\En K π b.length H σ d/\m d b=some (c,a,μ')/\nD K E π b.length H c a μ'
noncomputable def dJ (K:Ta)(k:Nat)(f:MF):Sp:=fun vs H Q _=>vs.length=k/\∃ π ds a d μ',Rp K π H a/\IsDs K π a.length H vs ds/\f ds a=some (d,μ')/\KC K Q π a.length H d μ'
section
variable {X:Cx}{e a b c:Expr}{t:TE}{m ma mb mc:ME}{pos:Vl}
theorem cG (h:PE X e t)(hw:∀ σ H Q,tM X.K m σ H Q->t σ H Q):PE X e (tM X.K m):=fun a3J s σ H Q I q=>h a3J s σ H Q I (hw σ H Q q)
theorem rC {t:TT}{m:MT}(h:PT X e t)(hw:∀ σ H Q,cY X.K m σ H Q->t σ H Q):PT X e (cY X.K m):=fun a3J s σ H Q I q=>h a3J s σ H Q I (hw σ H Q q)
theorem AY {t:TT}{m:MT}(h:PW X e t)(hw:∀ σ H Q,cY X.K m σ H Q->t σ H Q):PW X e (cY X.K m):=fun d a3J s σ H Q I q=>h d a3J s σ H Q I (hw σ H Q q)
theorem AZ {d:List Expr}{t:TA}{m:MA}(h:PA X d t)(hw:∀ σ H Q,dY X.K m σ H Q->t σ H Q):PA X d (dY X.K m):=fun p a3J s σ H Q I q=>h p a3J s σ H Q I (hw σ H Q q)
theorem iW {st:Stmt}{t:TS}{m:MS}(h:PS X st t)(hw:∀ E σ H,c5 X.K m E σ H->t E σ H):PS X st (c5 X.K m):=fun a3J s σ H E I q=>h a3J s σ H E I (hw E σ H q)
theorem A0 {st:List Stmt}{t:TS}{m:MS}(h:PSs X st t)(hw:∀ E σ H,c5 X.K m E σ H->t E σ H):PSs X st (c5 X.K m):=fun a3J s σ H E I q=>h a3J s σ H E I (hw E σ H q)
noncomputable def aA (i:Nat):ME:=fun h g=>match h[i]? with|some (some d)=>some (d,g)|_=>none
noncomputable def mC (d:D):ME:=fun _ g=>some (d,g)
theorem IA {i:Nat}{j:aI}{g μ':Hm}{d:D}(h:aA i j g=some (d,μ')):j[i]? = some (some d)/\μ'=g:=by
 unfold aA at h
 split at h
 ·rename_i l e
  cases h
  exact ⟨e,rfl⟩
 ·cases h
theorem IB {x:Str}(i:Nat)(h:PE X (.Name x pos) (z4 i)):PE X (.Name x pos) (tM X.K (aA i)):=cG h (by
 rintro s H Q ⟨p,r,q,d,o,R,E,n,k⟩
 obtain ⟨g,rfl⟩:=IA n
 obtain ⟨v,j,l⟩:=E.get i d g
 exact ⟨v,j,k p v H .refl R l⟩)
theorem nE {v:V}{d:D}(h:PE X e (tC v))(hd:∀ π n H,IsD X.K π n H v d):PE X e (tM X.K (mC d)):=cG h (by
 rintro p H Q ⟨π,o,l,j,i,R,E,g,k⟩
 cases g
 exact k π v H .refl R (hd _ _ _))
theorem IC {i:Int}{j:Nat}:PE X (.Constant (.int i) j pos) (tM X.K (mC (.int i))):=nE FI fun _ _ _=>.int i
theorem ID {i:Bool}{j:Nat}:PE X (.Constant (.bool i) j pos) (tM X.K (mC (.bl i))):=nE FJ fun _ _ _=>.bl i
theorem IE {i:Str}{j:Nat}:PE X (.Constant (.str i) j pos) (tM X.K (mC (.str i))):=nE FL fun _ _ _=>.str i
theorem IF {j:Nat}:PE X (.Constant .none j pos) (tM X.K (mC .non)):=nE FK fun _ _ _=>.non
noncomputable def aB (f:D->D->Hm->Option (D×Hm))(a b:ME):ME:=fun d g=>(a d g).bind fun p=>(b d p.2).bind fun q=>f p.1 q.1 q.2
noncomputable def cH (K:Ta)(f:D->D->Hm->Option (D×Hm))(r:R2):Prop:=
 ∀ i H g x y d h j l Q,Rp K i H g->IsD K i g.length H j x->IsD K i g.length H l y->f x y g=some (d,h)->KC K Q i g.length H d h->r j l H Q
theorem pG {f:D->D->Hm->Option (D×Hm)}{r:R2}{K:Ta}(z:cH K f r):∀ σ H Q,tM K (aB f ma mb) σ H Q->o6 r (tM K ma) (tM K mb) σ H Q:=by
 rintro σ H Q ⟨L,q,J,d,j,R,E,g,k⟩
 obtain ⟨⟨x,h⟩,v,g⟩:=S9.mp g
 obtain ⟨⟨y,i⟩,w,g⟩:=S9.mp g
 exact ⟨L,q,J,x,h,R,E,v,fun l G M o u A=>⟨l,q,h,y,i,u,E.mono o,w,fun n I s p R2 B=>z n s i x y d j G I Q R2 (A.mono p) B g (k.after (o.trans p))⟩⟩
theorem IG {op:a0a}{r:R2}{f:D->D->Hm->Option (D×Hm)}(i:OpR X (WC op) r)(h:cH X.K f r)(d:PE X a (tM X.K ma))(g:PE X b (tM X.K mb)):PE X (.BinOp a op b pos) (tM X.K (aB f ma mb)):=
 cG (GK i d g) (pG h)
theorem dZ {op:WN}{r:R2}{f:D->D->Hm->Option (D×Hm)}(j:OpR X (UG op) r)(h:cH X.K f r)(d:PE X a (tM X.K ma))(g:PE X b (tM X.K mb))(i:Wo op b=false):PE X (.Compare a [op] [b] pos) (tM X.K (aB f ma mb)):=
 cG (GR j d g i) (pG h)
noncomputable def aT (m:ME):MT:=fun g d=>(m g d).bind fun p=>match p.1 with|.bl b=>some (b,p.2)|_=>none
theorem A1 {K:Ta}:∀ σ H Q,cY K (aT m) σ H Q->tM K m σ H fun x g=>∃ k,x=.bl k/\Q k g:=by
 rintro σ H Q ⟨r,s,o,b,p,R,E,d,k⟩
 obtain ⟨⟨x,q⟩,l,d⟩:=S9.mp d
 cases x with
 | bl c=>
  cases d
  refine ⟨r,s,o,_,_,R,E,l,fun h v g j i n=>?_⟩
  cases n
  exact ⟨_,rfl,k h g j i⟩
 | _=>cases d
theorem d7 {op:WN}{r:R2}{f:D->D->Hm->Option (D×Hm)}(n:OpR X (UG op) r)(j:cH X.K f r)(g:PE X a (tM X.K ma))(i:PE X b (tM X.K mb))(l:Wo op b=false):PT X (.Compare a [op] [b] pos) (cY X.K (aT (aB f ma mb))):=
 rC (GS n g i l) fun d H Q h=>pG j d H _ (A1 d H Q h)
end
end L3
namespace L3
open PySem L2
section
variable {X:Cx}{e a b c:Expr}{m ma mb mc:ME}{pos:Vl}{mt mu:MT}{bU:List Expr}
noncomputable def gP (a b:MT):MT:=fun d g=>(a d g).bind fun p=>match p.1 with|true=>b d p.2|false=>some (false,p.2)
noncomputable def eT (a b:MT):MT:=fun d g=>(a d g).bind fun p=>match p.1 with|true=>some (true,p.2)|false=>b d p.2
noncomputable def iX (a:MT):MT:=fun g d=>(a g d).map fun p=>(!p.1,p.2)
theorem IH (d:PT X a (cY X.K mt)):PW X (.BoolOp .And [a] pos) (cY X.K mt):=FU d
theorem II (d:PT X a (cY X.K mt)):PW X (.BoolOp .Or [a] pos) (cY X.K mt):=FV d
theorem IJ (v:PT X a (cY X.K mt))(w:PW X (.BoolOp .And (b::bU) pos) (cY X.K mu)):PW X (.BoolOp .And (a::b::bU) pos) (cY X.K (gP mt mu)):=AY (FW v w) (by
 rintro A H Q ⟨z,p,y,d,l,R,E,i,k⟩
 obtain ⟨⟨x,g⟩,u,i⟩:=S9.mp i
 refine ⟨z,p,y,x,g,R,E,u,fun h q j o=>?_⟩
 cases x with
 | true=>
  refine l8 ?_
  exact ⟨h,p,g,d,l,o,E.mono j,i,fun n r s R2=>k n r (j.trans s) R2⟩
 | false=>
  refine l7 ?_
  cases i
  exact k h q j o)
theorem IK (v:PT X a (cY X.K mt))(w:PW X (.BoolOp .Or (b::bU) pos) (cY X.K mu)):PW X (.BoolOp .Or (a::b::bU) pos) (cY X.K (eT mt mu)):=AY (FX v w) (by
 rintro A H Q ⟨z,p,y,d,l,R,E,i,k⟩
 obtain ⟨⟨x,g⟩,u,i⟩:=S9.mp i
 refine ⟨z,p,y,x,g,R,E,u,fun h q j o=>?_⟩
 cases x with
 | true=>
  refine l8 ?_
  cases i
  exact k h q j o
 | false=>
  refine l7 ?_
  exact ⟨h,p,g,d,l,o,E.mono j,i,fun n r s R2=>k n r (j.trans s) R2⟩)
theorem IL (p:PT X a (cY X.K mt)):PT X (.UnaryOp .Not a pos) (cY X.K (iX mt)):=rC (FY p) (by
 rintro v H Q ⟨s,u,q,d,r,R,E,g,k⟩
 obtain ⟨⟨x,h⟩,o,g⟩:=Tg.mp g
 cases g
 exact ⟨s,u,q,x,h,R,E,o,fun i j n l=>k i j n l⟩)
noncomputable def iY (a b:ME):ME:=fun d g=>(a d g).bind fun p=>match p.1 with|.bl true=>b d p.2|.bl false=>some (.bl false,p.2)|_=>none
noncomputable def vB (a b:ME):ME:=fun d g=>(a d g).bind fun p=>match p.1 with|.bl true=>some (.bl true,p.2)|.bl false=>b d p.2|_=>none
noncomputable def nF (a:ME):ME:=fun g d=>(a g d).bind fun p=>match p.1 with|.bl b=>some (.bl (!b),p.2)|_=>none
theorem IM {op:BoolOp}(h:PE X a (tM X.K m)):PE X (.BoolOp op [a] pos) (tM X.K m):=F2 h
theorem IP (r:PE X a (tM X.K ma))(s:PE X (.BoolOp .And (b::bU) pos) (tM X.K mb)):PE X (.BoolOp .And (a::b::bU) pos) (tM X.K (iY ma mb)):=cG (F3 r s) (by
 rintro z H Q ⟨w,o,v,d,l,R,E,g,k⟩
 obtain ⟨⟨x,h⟩,q,g⟩:=S9.mp g
 cases x with
 | bl c=>
  refine ⟨w,o,v,.bl c,h,R,E,q,fun i y p j n u=>?_⟩
  cases u
  refine ⟨c,rfl,?_⟩
  cases c with
  | true=>
   refine l8 ?_
   exact ⟨i,o,h,d,l,n,E.mono j,g,k.after j⟩
  | false=>
   refine l7 ?_
   cases g
   exact k i _ p j n (.bl false)
 | _=>cases g)
theorem IQ (r:PE X a (tM X.K ma))(s:PE X (.BoolOp .Or (b::bU) pos) (tM X.K mb)):PE X (.BoolOp .Or (a::b::bU) pos) (tM X.K (vB ma mb)):=cG (F4 r s) (by
 rintro z H Q ⟨w,o,v,d,l,R,E,g,k⟩
 obtain ⟨⟨x,h⟩,q,g⟩:=S9.mp g
 cases x with
 | bl c=>
  refine ⟨w,o,v,.bl c,h,R,E,q,fun i y p j n u=>?_⟩
  cases u
  refine ⟨c,rfl,?_⟩
  cases c with
  | true=>
   refine l8 ?_
   cases g
   exact k i _ p j n (.bl true)
  | false=>
   refine l7 ?_
   exact ⟨i,o,h,d,l,n,E.mono j,g,k.after j⟩
 | _=>cases g)
theorem IS (o:PE X a (tM X.K ma)):PE X (.UnaryOp .Not a pos) (tM X.K (nF ma)):=cG (F5 o) (by
 rintro y H Q ⟨u,v,q,d,r,R,E,g,k⟩
 obtain ⟨⟨x,s⟩,n,g⟩:=S9.mp g
 cases x with
 | bl c=>
  cases g
  refine ⟨u,v,q,_,_,R,E,n,fun h w i l j p=>?_⟩
  cases p
  exact ⟨_,rfl,k h _ i l j (.bl _)⟩
 | _=>cases g)
noncomputable def gQ (t:MT)(a b:ME):ME:=fun d g=>(t d g).bind fun p=>match p.1 with|true=>a d p.2|false=>b d p.2
theorem IT (hc:PT X c (cY X.K mt))(q:PE X a (tM X.K ma))(r:PE X b (tM X.K mb)):PE X (.IfExp c a b pos) (tM X.K (gQ mt ma mb)):=cG (F7 hc q r) (by
 rintro w H Q ⟨u,n,s,d,h,R,E,l,k⟩
 obtain ⟨⟨x,g⟩,p,l⟩:=S9.mp l
 refine ⟨u,n,s,x,g,R,E,p,fun i v j o=>?_⟩
 cases x with
 | true=>
  refine l8 ?_
  exact ⟨i,n,g,d,h,o,E.mono j,l,k.after j⟩
 | false=>
  refine l7 ?_
  exact ⟨i,n,g,d,h,o,E.mono j,l,k.after j⟩)
noncomputable def aD:MA:=fun _ d=>some ([],d)
noncomputable def aC (a:ME)(r:MA):MA:=fun d g=>(a d g).bind fun p=>(r d p.2).bind fun q=>some (p.1::q.1,q.2)
variable {es:List Expr}{ms:MA}
theorem IU:PA X [] (dY X.K aD):=AZ Hk (by
 rintro n H Q ⟨i,l,j,d,h,R,E,g,k⟩
 cases g
 exact k i [] H .refl R .nil)
theorem IV (v:PE X e (tM X.K m))(w:PA X es (dY X.K ms))(y:T8 (e::es) X.env=(false,eval e X.env)::T8 es X.env:=by rfl):PA X (e::es) (dY X.K (aC m ms)):=AZ (Hl v w y) (by
 rintro N H Q ⟨J,p,G,d,I,R,E,g,k⟩
 obtain ⟨⟨x,h⟩,s,g⟩:=S9.mp g
 obtain ⟨⟨B,i⟩,u,g⟩:=S9.mp g
 cases g
 exact ⟨J,p,G,x,h,R,E,s,fun j L K n r z=>⟨j,p,h,B,i,r,E.mono n,u,fun l M q o R2 A=>k l _ q (n.trans o) R2 (.cons (z.mono o) A)⟩⟩)
noncomputable def bW (ms:MA):ME:=fun g d=>(ms g d).bind fun p=>if p.1.length<=TC then some (.tup p.1,p.2) else none
noncomputable def cU (ms:MA):ME:=fun g d=>(ms g d).bind fun p=>if p.1.length<=TC then some (.loc p.2.length,p.2++[.lst p.1]) else none
theorem IW {v:Nat}(h:PA X es (dY X.K ms)):PE X (.Tuple es v pos) (tM X.K (bW ms)):=cG (Hq h) (by
 rintro I H Q ⟨z,A,w,d,x,R,E,g,k⟩
 obtain ⟨⟨G,y⟩,q,g⟩:=S9.mp g
 split at g
 ·rename_i r
  cases g
  refine ⟨z,A,w,_,_,R,E,q,fun i u B o n l=>⟨by rw [l.length];exact r,fun p s=>?_⟩⟩
  obtain ⟨j,R2⟩:=n.fresh (o:=.tup u) s
  exact k i _ _ (o.trans j) R2 (.tup (.of c9) (l.mono j))
 ·cases g)
theorem IX (h:PA X es (dY X.K ms)):PE X (.List es pos) (tM X.K (cU ms)):=cG (Hr h) (by
 rintro J H Q ⟨G,I,A,d,B,R,E,i,k⟩
 obtain ⟨⟨l,g⟩,w,i⟩:=S9.mp i
 split at i
 ·rename_i x
  cases i
  refine ⟨G,I,A,l,g,R,E,w,fun j n o u s r=>⟨by rw [r.length];exact x,fun p y=>?_⟩⟩
  obtain ⟨v,R2,q⟩:=s.alloc (c:=.lst l) (o:=.lst n) y r
  have z:IsD X.K (fD j g.length p) (g++[C.lst l]).length (aO o p (.lst n)) (.ref p) (.loc g.length):=by
   have:=IsD.loc (K:=X.K) (π:=fD j g.length p) (n:=(g++[C.lst l]).length) (H:=aO o p (.lst n)) (a:=g.length) (by simp)
   rw [q] at this
   exact this
  exact k _ _ _ (u.trans v) R2 z
 ·cases i)
noncomputable def aG (f:MF)(ms:MA):ME:=fun g d=>(ms g d).bind fun p=>f p.1 p.2
theorem IY {K:Ta}{f:MF}{n:Nat}{E:XK}(v:∀ i h ds μ',ms i h=some (ds,μ')->ds.length=n):∀ σ H Q,tM K (aG f ms) σ H Q->uX (dJ K n f) [] E (dY K ms) σ H Q:=by
 rintro σ H Q ⟨x,i,h,d,μ',R,E,j,k⟩
 obtain ⟨⟨l,g⟩,p,j⟩:=S9.mp j
 refine ⟨x,i,h,l,g,R,E,p,fun o w r u s q=>?_⟩
 show dJ K n f (w++[]) r Q _
 rw [UM]
 exact ⟨by rw [q.length];exact v i h l g p,o,l,g,d,μ',s,q,j,k.after u⟩
theorem A2:∀ g d ds μ',aD g d=some (ds,μ')->ds.length=0:=by
 intro g d ds μ' h
 cases h
 rfl
theorem IZ {n:Nat}(h:∀ g i ds μ',ms g i=some (ds,μ')->ds.length=n):∀ g i ds μ',aC m ms g i=some (ds,μ')->ds.length=n+1:=by
 intro g i ds μ' d
 obtain ⟨⟨x,j⟩,q,d⟩:=S9.mp d
 obtain ⟨⟨o,p⟩,l,d⟩:=S9.mp d
 cases d
 rw [T6,h g j o _ l]
theorem Ja {k:Nat}{f:Addr}{i:Vo}{ps:List Str}{j:MF}{x:Str}{p:Vl}{n:Nat}(F:FnOk X.prog X.w X.K X.mg X.base dI k f i ps (dJ X.K n j))(w:Room k X.A)(r:Gl X x)(u:X.mg x=some (.ref f))
  (s:Va X.K (.ref f)=true)(o:Binds X.K i ps [])(l:PA X (e::es) (dY X.K ms))(v:∀ z y ds h,ms z y=some (ds,h)->ds.length=n)(d:(x == ("__debug__":Str))=false:=by decide)
  (q:T8 (e::es) X.env=(false,eval e X.env)::T8 es X.env:=by rfl)(g:(Vv pos (T8 es X.env)).any (·.1)=false:=by rfl) :
  PE X (.Call (.Name x p) (e::es) [] pos) (tM X.K (aG j ms)):=
 cG (Hs F w r u s o .nil (E:=E0) o7 l d q g) (IY v)
noncomputable def cP (K:Ta)(f:MF)(r:List V->Hp->VK->Prop):Prop:=
 ∀ i H h l d g j Q,Rp K i H h->IsDs K i h.length H j l->f l h=some (d,g)->KC K Q i h.length H d g->r j H Q
theorem vC {K:Ta}{f:MF}{r:List V->Hp->VK->Prop}(s:cP K f r):∀ σ H Q,tM K (aG f ms) σ H Q->rA r (dY K ms) σ H Q:=by
 rintro σ H Q ⟨x,y,w,d,i,R,E,h,k⟩
 obtain ⟨⟨l,g⟩,q,h⟩:=S9.mp h
 exact ⟨x,y,w,l,g,R,E,q,fun j v n p o u=>s j n g l d i v Q o u h (k.after p)⟩
theorem Jb {f:MF}{r:List V->Hp->VK->Prop}{id:String}{x:Str}{p:Vl}(hc:CallR X (.builtin id) r)(j:cP X.K f r)(l:Gl X x)(n:X.mg x=none)(q:Vh x=some (.builtin id))(h:PA X (e::es) (dY X.K ms))
  (o:x ≠ "__name__":=by decide) (d:(x == ("__debug__":Str))=false:=by decide)
  (i:T8 (e::es) X.env=(false,eval e X.env)::T8 es X.env:=by rfl)(g:(Vv pos (T8 es X.env)).any (·.1)=false:=by rfl):PE X (.Call (.Name x p) (e::es) [] pos) (tM X.K (aG f ms)):=
 cG (HA hc l n q h o d i g) (vC j)
theorem Jc {f:MF}{r:List V->Hp->VK->Prop}{T:String}{x:Str}{p:Vl}(hc:CallR X (.type T) r)(j:cP X.K f r)(l:Gl X x)(n:X.mg x=none)(q:Vh x=some (.type T))(h:PA X (e::es) (dY X.K ms))
  (o:x ≠ "__name__":=by decide) (d:(x == ("__debug__":Str))=false:=by decide)
  (i:T8 (e::es) X.env=(false,eval e X.env)::T8 es X.env:=by rfl)(g:(Vv pos (T8 es X.env)).any (·.1)=false:=by rfl):PE X (.Call (.Name x p) (e::es) [] pos) (tM X.K (aG f ms)):=
 cG (HB hc l n q h o d i g) (vC j)
noncomputable def bP (d:Hm):D->Option (List D)
 | .tup xs=>some xs
 | .rol xs=>some xs
 | .loc a=>match d[a]? with|some (.lst xs)=>some xs|_=>none
 | _=>none
noncomputable def fE:D->D->Hm->Option (D×Hm)
 | .str z,.int i,μ=>if z.length<=TC then (atI z.cps.toList i).map fun c=>(.str ⟨#[c]⟩,μ) else none
 | x,.int i,μ=>(bP μ x).bind fun g=>(atI g i).map fun d=>(d,μ)
 | _,_,_=>none
theorem Jd {K:Ta}:cH K fE (AE K):=by
 intro p H N x y d G L M Q R r B g k
 cases B with
 | int i=>
  cases r with
  | str z=>
   simp only [fE] at g
   split at g
   ·rename_i w
    obtain ⟨c,j,l⟩:=Tg.mp g
    cases l
    exact .inr (.inr ⟨z,i,c,rfl,rfl,w,j,k p _ H .refl R (.str _)⟩)
   ·cases g
  | tup h t=>
   simp only [fE,bP,TZ] at g
   obtain ⟨q,j,l⟩:=Tg.mp g
   cases l
   obtain ⟨v,n,o⟩:=t.atI j
   exact .inr (.inl ⟨_,_,i,v,rfl,rfl,h,n,k p _ H .refl R o⟩)
  | rol h t=>
   simp only [fE,bP,TZ] at g
   obtain ⟨q,j,l⟩:=Tg.mp g
   cases l
   obtain ⟨v,n,o⟩:=t.atI j
   exact .inl ⟨_,_,i,v,rfl,rfl,h.sq,n,k p _ H .refl R o⟩
  | @loc a I=>
   simp only [fE,bP] at g
   split at g
   ·rename_i E A
    simp only [TZ] at g
    obtain ⟨q,j,l⟩:=Tg.mp g
    cases l
    obtain ⟨J,s,u⟩:=R.lst a E A
    obtain ⟨v,n,o⟩:=u.atI j
    exact .inl ⟨_,_,i,v,rfl,rfl,.of s,n,k p _ H .refl R o⟩
   ·cases g
  | _=>simp [fE,bP] at g
 | _=>cases r<;>simp [fE] at g
theorem Je (d:PE X a (tM X.K ma))(g:PE X b (tM X.K mb))(h:u5 b):PE X (.Subscript a b pos) (tM X.K (aB fE ma mb)):=cG (HP HR d g h) (pG Jd)
noncomputable def iZ (xs:List D)(lo d:Option Int):List D:=(xs.drop (HT.sIx xs.length 0 lo)).take (HT.sIx xs.length xs.length d - HT.sIx xs.length 0 lo)
noncomputable abbrev MO:=aI->Hm->Option (Option Int×Hm)
noncomputable def gR:MO:=fun _ d=>some (none,d)
noncomputable def i0 (m:ME):MO:=fun g d=>(m g d).bind fun p=>match p.1 with|.int i=>some (some i,p.2)|_=>none
noncomputable def pH (K:Ta)(m:MO):TO:=fun σ H Q=>∃ π i g o μ',Rp K π H g/\En K π g.length H σ i/\m i g=some (o,μ')/\∀ d h,Ext π g.length H d μ'.length h->Rp K d h μ'->Q o h
theorem Jf:PO X none (pH X.K gR):=fun a3J s σ H Q I q=>HH a3J s σ H Q I (by
 obtain ⟨h,j,i,o,g,R,E,d,k⟩:=q
 cases d
 exact k h H .refl R)
theorem Jg (h:PE X e (tM X.K m)):PO X (some e) (pH X.K (i0 m)):=fun a3J s σ H Q I q=>HJ h a3J s σ H Q I (by
 obtain ⟨y,z,u,o,v,R,E,d,k⟩:=q
 obtain ⟨⟨x,w⟩,p,d⟩:=S9.mp d
 cases x with
 | int i=>
  cases d
  refine ⟨y,z,u,_,_,R,E,p,fun g A j n l r=>?_⟩
  cases r
  exact ⟨_,rfl,k g j n l⟩
 | _=>cases d)
noncomputable abbrev A3 (K:Ta):V->Option Int->Option Int->Hp->VK->Prop:=u6 K
theorem Jh {X:Cx}:SlR X (A3 X.K):=HV
theorem A4 {K:Ta}{x:V}{lo d:Option Int}{H:Hp}{Q:VK}(h:u6 K x lo d H Q):A3 K x lo d H Q:=h
noncomputable def mB (a:ME)(lo g:MO):ME:=fun d i=>(a d i).bind fun p=>(lo d p.2).bind fun q=>(g d q.2).bind fun r=>
 match p.1 with
 | .tup _=>none
 | x=>(bP r.2 x).bind fun h=>some (.loc r.2.length,r.2++[.lst (iZ h q.1 r.1)])
theorem A5 {K:Ta}{π:Nat->Addr}{n:Nat}{H:Hp}{vs:List V}{ds:List D}(h:IsDs K π n H vs ds)(lo d:Option Int):IsDs K π n H (kR vs lo d) (iZ ds lo d):=by
 unfold kR iZ
 rw [h.length]
 exact (h.drop _).take _
theorem iG {K:Ta}{π:Nat->Addr}{d:Hm}{p:Addr}{c:C}{H:Hp}:IsD K (fD π d.length p) (d++[c]).length H (.ref p) (.loc d.length):=by
 have:=IsD.loc (K:=K) (π:=fD π d.length p) (n:=(d++[c]).length) (H:=H) (a:=d.length) (by simp)
 rw [show fD π d.length p d.length=p from if_pos rfl] at this
 exact this
theorem Ji {lo J:Option Expr}{L K:MO}{p2:Vl}(ha:PE X a (tM X.K ma))(hl:PO X lo (pH X.K L))(hu:PO X J (pH X.K K)):PE X (.Subscript a (.Slice lo J none p2) pos) (tM X.K (mB ma L K)):=cG (HL Jh ha hl hu) (by
 rintro σ H Q ⟨π,I,μ,d,μ',R,E,g,k⟩
 obtain ⟨⟨x,j⟩,O,g⟩:=S9.mp g
 obtain ⟨⟨l,n⟩,T,g⟩:=S9.mp g
 obtain ⟨⟨u,A⟩,U,g⟩:=S9.mp g
 refine ⟨π,I,μ,x,j,R,E,O,fun B v1 H1 o N i1=>⟨B,I,j,l,n,N,E.mono o,T,fun G H2 r R2=>⟨G,I,n,u,A,R2,(E.mono o).mono r,U,fun π3 H3 w s=>?_⟩⟩⟩
 have i3:=(i1.mono r).mono w
 cases i3 with
 | rol h t=>
  simp only [bP,TZ] at g
  cases g
  refine A4 ⟨_,_,rfl,h.sq,fun p z=>?_⟩
  obtain ⟨y,v,q⟩:=s.alloc (c:=.lst (iZ _ l u)) (o:=.lst (kR _ l u)) z (A5 t l u)
  exact k _ _ _ (((o.trans r).trans w).trans y) v iG
 | @loc i hi'=>
  simp only [bP] at g
  split at g
  ·rename_i M hx
   simp only [TZ] at g
   cases g
   obtain ⟨vs,Y,Z⟩:=s.lst i M hx
   refine A4 ⟨_,_,rfl,.of Y,fun p z=>?_⟩
   obtain ⟨y,v,q⟩:=s.alloc (c:=.lst (iZ M l u)) (o:=.lst (kR vs l u)) z (A5 Z l u)
   exact k _ _ _ (((o.trans r).trans w).trans y) v iG
  ·cases g
 | tup h t=>simp at g
 | _=>simp [bP] at g)
end
section
variable {X:Cx}{e a b c:Expr}{m:ME}{pos:Vl}{mt:MT}{st:Stmt}{bU body orelse:List Stmt}{ms mr mu:MS}
noncomputable def bM:MS:=fun g d=>some (.nx,g,d)
noncomputable def aK (a b:MS):MS:=fun g d=>(a g d).bind fun p=>match p.1 with|.nx=>b p.2.1 p.2.2|_=>some p
noncomputable def bC (m:ME):MS:=fun d g=>(m d g).map fun p=>(.rt p.1,d,p.2)
noncomputable def eU (m:ME):MS:=fun d g=>(m d g).map fun p=>(.nx,d,p.2)
noncomputable def bN (t:MT)(a b:MS):MS:=fun d g=>(t d g).bind fun p=>match p.1 with|true=>a d p.2|false=>b d p.2
noncomputable def aQ (i:Nat)(m:ME):MS:=fun d g=>(m d g).map fun p=>(.nx,d.set i (some p.1),p.2)
theorem Jj:PSs X [] (c5 X.K bM):=A0 Ga (by
 rintro E l H ⟨i,p,o,n,j,h,R,d,g,k⟩
 cases g
 exact k i l H .refl R d)
theorem Jk (r:PS X st (c5 X.K ms))(B:PSs X bU (c5 X.K mr)):PSs X (st::bU) (c5 X.K (aK ms mr)):=A0 (Gb r B) (by
 rintro E M H ⟨I,J,G,x,v,s,R,z,i,k⟩
 obtain ⟨⟨w,p,o⟩,r,i⟩:=S9.mp i
 refine ⟨I,J,G,w,p,o,R,z,r,?_⟩
 cases w with
 | nx=>
  intro u K L q A y
  refine ⟨u,p,o,x,v,s,A,y,i,?_⟩
  cases x with
  | nx=>exact fun g h l n R2 j=>k g h l (q.trans n) R2 j
  | bk=>exact fun g h l n R2 j=>k g h l (q.trans n) R2 j
  | ct=>exact fun g h l n R2 j=>k g h l (q.trans n) R2 j
  | rt d=>exact KC.after k q
 | rt d=>cases i;exact k
 | bk=>cases i;exact k
 | ct=>cases i;exact k)
theorem Jl (d:PS X st (c5 X.K ms)):PSs X [st] (c5 X.K ms):=Ge d
theorem Jm:PS X (.Pass pos) (c5 X.K bM):=iW Gf (by
 rintro E l H ⟨i,p,o,n,j,h,R,d,g,k⟩
 cases g
 exact k i l H .refl R d)
theorem Jn (j:PE X e (tM X.K m)):PS X (.Return (some e) pos) (c5 X.K (bC m)):=iW (Gk j) (by
 rintro E s H ⟨o,p,l,r,q,n,R,h,d,k⟩
 obtain ⟨⟨x,g⟩,i,d⟩:=Tg.mp d
 cases d
 exact ⟨o,p,l,x,g,R,h,i,k⟩)
theorem Jo (p:PE X e (tM X.K m))(q:Xi e none pos.line X.env=pure false:=by rfl):PS X (.Expr e pos) (c5 X.K (eU m)):=iW (Gi p q) (by
 rintro E y H ⟨u,v,r,z,w,s,R,i,d,k⟩
 obtain ⟨⟨x,g⟩,o,d⟩:=Tg.mp d
 cases d
 exact ⟨u,v,r,x,g,R,i,o,fun h B l j n A=>k h y l j n (i.mono j)⟩)
theorem Jp (hc:PT X c (cY X.K mt))(G:PSs X body (c5 X.K ms))(I:PSs X orelse (c5 X.K mu)):PS X (.If c body orelse pos) (c5 X.K (bN mt ms mu)):=iW (Gq hc G I) (by
 rintro E L H ⟨K,w,J,s,n,j,R,v,u,k⟩
 obtain ⟨⟨x,i⟩,B,u⟩:=S9.mp u
 refine ⟨K,w,J,x,i,R,v,B,fun l A o y=>?_⟩
 have z:nD X.K E l i.length A s n j:=by
  cases s with
  | nx=>exact fun g h q r R2 p=>k g h q (o.trans r) R2 p
  | bk=>exact fun g h q r R2 p=>k g h q (o.trans r) R2 p
  | ct=>exact fun g h q r R2 p=>k g h q (o.trans r) R2 p
  | rt d=>exact KC.after k o
 cases x with
 | true=>
  refine l8 ?_
  exact ⟨l,w,i,s,n,j,y,v.mono o,u,z⟩
 | false=>
  refine l7 ?_
  exact ⟨l,w,i,s,n,j,y,v.mono o,u,z⟩)
theorem A6 {i:Nat}{x:Str}{d:Vl}(r:X.N.Nodup)(v:X.N[i]? = some x)(y:Loc X.env.scope x)(s:PE X e (tM X.K m))(w:Xi e (some (.Name x d)) pos.line X.env=pure false:=by rfl)
  (u:X.fn x=true\/X.env.scope.names.lookup x=some .local:=by first|exact .inl rfl|exact .inr rfl|assumption):PS X (.Assign [.Name x d] e pos) (c5 X.K (aQ i m)):=iW (Gw r v y s w u) (by
 rintro E M H ⟨G,I,A,K,J,B,R,l,g,k⟩
 obtain ⟨⟨x,h⟩,q,g⟩:=Tg.mp g
 cases g
 exact ⟨G,I,A,x,h,R,l,q,fun j L o n p z=>k j _ o n p ((l.mono n).set z i)⟩)
end
noncomputable def rD (n:Nat)(ds:List D):aI:=ds.map some++VB (n - ds.length) none
noncomputable def vD (n:Nat)(m:MS):MF:=fun ds a=>(m (rD n ds) a).bind fun p=>match p.1 with|.rt d=>some (d,p.2.2)|.nx=>some (.non,p.2.2)|_=>none
theorem Jq {K:Ta}{π:Nat->Addr}{n:Nat}{H:Hp}{N:List Str}{vs:List V}{ds:List D}(h:IsDs K π n H vs ds)(o:vs.length<=N.length):En K π n H (L2.start N vs) (rD N.length ds):=by
 have a:=h.length
 refine ⟨by simp [L2.start,rD,a],fun i d e=>?_⟩
 unfold rD at e
 unfold L2.start
 by_cases b:i<ds.length
 ·rw [TR (by simpa using b),TH] at e
  obtain ⟨m,c,g⟩:=Tg.mp e
  cases g
  obtain ⟨v,j,l⟩:=h.get c
  exact ⟨v,by rw [TR (by rw [Tc,a];exact b),TH,j];rfl,l⟩
 ·rw [Us (by simpa using W8.mp b)] at e
  have:=V5 (n:=N.length - ds.length) (a:=(none:Option D)) (i:=i - (ds.map some).length)
  rw [this] at e
  split at e<;>simp at e
section
variable {P:T3}{w:Uk}{K:Ta}{mg:Str->Option Te}{base:UW}
theorem Jr {x a:Str}{st:Stmt}{f:Addr}{o:Vo}{N ps:List Str}{k:Nat}{m:MS}(F:Fun K x a st f o)(S:FnScope N ps (bA st))(g:ps.length<=N.length)
  (c:∀ (b:Te)(A:Ug)(outer:List Yi)(s:Th)(H:Hp)(E:XK),Room k (A.deeper (Zd a (bA st) s.heap.objs.size f b))->
   PSs (jQ dI P w K mg base N a (bA st) f b A outer s H E).nox (bL st) (c5 K m)):FnOk P w K mg base dI (k+1) f o ps (dJ K ps.length (vD N.length m)):=by
 refine F.ok S (fun G H Q E h=>h.1) fun b A outer s H G Q E z h=>⟨_,c b A outer s H E z,?_⟩
 obtain ⟨B,L,ds,I,d,J,R,i,e,q⟩:=h
 obtain ⟨⟨p,n,j⟩,y,e⟩:=S9.mp e
 refine ⟨L,_,I,p,n,j,R,Jq i (by rw [B];exact g),y,?_⟩
 cases p with
 | rt T=>cases e;exact q
 | nx=>cases e;exact fun l M r v u O=>q l .non r v u .non
 | bk=>cases e
 | ct=>cases e
end
end L3
namespace L3
open PySem L2
open SeqAt (EqAt RcAt RcNeAt)
inductive KD where
 | non|bl (b:Bool)|int (i:Int)|str (x:Str)|tup (n:Nat)|lst (n:Nat)
inductive IsK (s:Th):Te->KD->Prop where
 | non:IsK s .none .non
 | bl (b:Bool):IsK s (.bool b) (.bl b)
 | int (i:Int)(t:Tok):IsK s (.int i t) (.int i)
 | str (x:Str)(t:Tok):IsK s (.str x t) (.str x)
 | tup {l:Addr}{its:List Te}(h:s.heap.IsTuple l its.toArray):IsK s (.ref l) (.tup its.length)
 | lst {l:Addr}{its:List Te}(h:s.heap.IsList l its.toArray):IsK s (.ref l) (.lst its.length)
noncomputable def nG (e:Nat->Bool):KD->KD->Bool
 | .non,.non=>true
 | .bl a,.bl b=>a == b
 | .bl a,.int b=>(if a then 1 else 0) == b
 | .int a,.bl b=>a == (if b then 1 else 0)
 | .int a,.int b=>a == b
 | .str a,.str b=>a == b
 | .tup n,.tup k=>(Ui (min n k)).all e&&n == k
 | .lst n,.lst k=>(Ui (min n k)).all e&&n == k
 | _,_=>false
noncomputable def rF (A:Ug)(s:Th)(u v:Te)(e:Nat->Bool):Prop:=
 (∀ l b c a,u=.ref l->v=.ref b->s.heap.IsTuple l c->s.heap.IsTuple b a->∀ j (d:j<c.size)(g:j<a.size),EqAt A.in1 s c[j] a[j] (e j)) /\
 (∀ l b c a,u=.ref l->v=.ref b->s.heap.IsList l c->s.heap.IsList b a->∀ j (d:j<c.size)(g:j<a.size),EqAt A.in1 s c[j] a[j] (e j))
section
variable {A:Ug}{s:Th}{u v:Te}{k k':KD}{e:Nat->Bool}
theorem A7 {n k:Nat}(e:Nat->Bool)(h:n=k):((Ui (min n k)).all e&&n == k)=(Ui n).all e:=by
 subst h
 simp
theorem A8 {n k:Nat}(e:Nat->Bool)(h:n≠k):((Ui (min n k)).all e&&n == k)=false:=by
 simp [h]
theorem vF (h:IsK s u k)(h':IsK s v k')(c:A.units<VS)(o:rF A s u v e):RcAt A s u v (nG e k k'):=by
 cases h with
 | non=>
  cases h' with
  | non=>exact RcAt.none_none
  | bl b=>exact RcAt.none_bool b
  | int i t=>exact RcAt.none_int i t
  | str x t=>exact RcAt.none_str x t
  | tup h=>exact RcAt.none_tuple h c
  | lst h=>exact RcAt.none_list h c
 | bl a=>
  cases h' with
  | non=>exact RcAt.bool_none a
  | bl b=>exact RcAt.bool_bool a b
  | int i t=>exact RcAt.bool_int a i t
  | str x t=>exact RcAt.bool_str a x t
  | tup h=>exact RcAt.bool_tuple a h c
  | lst h=>exact RcAt.bool_list a h c
 | int a j=>
  cases h' with
  | non=>exact RcAt.int_none a j
  | bl b=>exact RcAt.int_bool a j b
  | int i t=>exact RcAt.int_int a j i t
  | str x t=>exact RcAt.int_str a j x t
  | tup h=>exact RcAt.int_tuple a j h c
  | lst h=>exact RcAt.int_list a j h c
 | str a j=>
  cases h' with
  | non=>exact RcAt.str_none a j
  | bl b=>exact RcAt.str_bool a j b
  | int i t=>exact RcAt.str_int a j i t
  | str x t=>exact RcAt.str_str a j x t
  | tup h=>exact RcAt.str_tuple a j h c
  | lst h=>exact RcAt.str_list a j h c
 | tup g=>
  cases h' with
  | non=>exact RcAt.tuple_none g c
  | bl b=>exact RcAt.tuple_bool b g c
  | int i t=>exact RcAt.tuple_int i t g c
  | str x t=>exact RcAt.tuple_str x t g c
  | tup h=>
   have:=RcAt.tuples (e:=e) g h c (o.1 _ _ _ _ rfl rfl g h)
   simpa [nG] using this
  | lst h=>exact RcAt.tuple_list g h c
 | lst g=>
  cases h' with
  | non=>exact RcAt.list_none g c
  | bl b=>exact RcAt.list_bool b g c
  | int i t=>exact RcAt.list_int i t g c
  | str x t=>exact RcAt.list_str x t g c
  | tup h=>exact RcAt.list_tuple g h c
  | @lst b d h=>
   rename_i l m
   by_cases n:m.length=d.length
   ·have:=RcAt.lists (e:=e) g h (by simpa using n) c (o.2 _ _ _ _ rfl rfl g h)
    show RcAt A s _ _ ((Ui (min m.length d.length)).all e&&m.length == d.length)
    rw [A7 e n]
    simpa using this
   ·have:=RcAt.lists_lengths g h (by simpa using n) c
    show RcAt A s _ _ ((Ui (min m.length d.length)).all e&&m.length == d.length)
    rw [A8 e n]
    exact this
theorem Js (h:IsK s u k)(h':IsK s v k')(c:A.units<VS)(o:rF A s u v e):RcNeAt A s u v (!nG e k k'):=by
 cases h with
 | non=>
  cases h' with
  | non=>exact RcNeAt.none_none
  | bl b=>exact RcNeAt.none_bool b
  | int i t=>exact RcNeAt.none_int i t
  | str x t=>exact RcNeAt.none_str x t
  | tup h=>exact RcNeAt.none_tuple h c
  | lst h=>exact RcNeAt.none_list h c
 | bl a=>
  cases h' with
  | non=>exact RcNeAt.bool_none a
  | bl b=>exact RcNeAt.bool_bool a b
  | int i t=>exact RcNeAt.bool_int a i t
  | str x t=>exact RcNeAt.bool_str a x t
  | tup h=>exact RcNeAt.bool_tuple a h c
  | lst h=>exact RcNeAt.bool_list a h c
 | int a j=>
  cases h' with
  | non=>exact RcNeAt.int_none a j
  | bl b=>exact RcNeAt.int_bool a j b
  | int i t=>exact RcNeAt.int_int a j i t
  | str x t=>exact RcNeAt.int_str a j x t
  | tup h=>exact RcNeAt.int_tuple a j h c
  | lst h=>exact RcNeAt.int_list a j h c
 | str a j=>
  cases h' with
  | non=>exact RcNeAt.str_none a j
  | bl b=>exact RcNeAt.str_bool a j b
  | int i t=>exact RcNeAt.str_int a j i t
  | str x t=>exact RcNeAt.str_str a j x t
  | tup h=>exact RcNeAt.str_tuple a j h c
  | lst h=>exact RcNeAt.str_list a j h c
 | tup g=>
  cases h' with
  | non=>exact RcNeAt.tuple_none g c
  | bl b=>exact RcNeAt.tuple_bool b g c
  | int i t=>exact RcNeAt.tuple_int i t g c
  | str x t=>exact RcNeAt.tuple_str x t g c
  | tup h=>
   have:=RcNeAt.tuples (e:=e) g h c (o.1 _ _ _ _ rfl rfl g h)
   simpa [nG] using this
  | lst h=>exact RcNeAt.tuple_list g h c
 | lst g=>
  cases h' with
  | non=>exact RcNeAt.list_none g c
  | bl b=>exact RcNeAt.list_bool b g c
  | int i t=>exact RcNeAt.list_int i t g c
  | str x t=>exact RcNeAt.list_str x t g c
  | tup h=>exact RcNeAt.list_tuple g h c
  | @lst b d h=>
   rename_i l m
   by_cases n:m.length=d.length
   ·have:=RcNeAt.lists (e:=e) g h (by simpa using n) c (o.2 _ _ _ _ rfl rfl g h)
    show RcNeAt A s _ _ (!((Ui (min m.length d.length)).all e&&m.length == d.length))
    rw [A7 e n]
    simpa using this
   ·have:=RcNeAt.lists_lengths g h (by simpa using n) c
    show RcNeAt A s _ _ (!((Ui (min m.length d.length)).all e&&m.length == d.length))
    rw [A8 e n]
    exact this
theorem Jt (h:IsK s u k)(h':IsK s v k')(c:A.units<VS)(o:rF A s u v e)(n:∀ l b,u=.ref l->v=.ref b->l≠b):EqAt A s u v (nG e k k'):=by
 cases h with
 | non=>
  cases h' with
  | non=>exact EqAt.same _
  | bl b=>exact EqAt.none_bool b
  | int i t=>exact EqAt.none_int i t
  | str x t=>exact EqAt.none_str x t
  | tup h=>exact EqAt.none_tuple h c
  | lst h=>exact EqAt.none_list h c
 | bl a=>
  cases h' with
  | non=>exact EqAt.bool_none a
  | bl b=>exact EqAt.bool_bool a b
  | int i t=>exact EqAt.bool_int a i t
  | str x t=>exact EqAt.bool_str a x t
  | tup h=>exact EqAt.bool_tuple a h c
  | lst h=>exact EqAt.bool_list a h c
 | int a d=>
  cases h' with
  | non=>exact EqAt.int_none a d
  | bl b=>exact EqAt.int_bool a d b
  | int i t=>exact EqAt.int_int a d i t
  | str x t=>exact EqAt.int_str a d x t
  | tup h=>exact EqAt.int_tuple a d h c
  | lst h=>exact EqAt.int_list a d h c
 | str a d=>
  cases h' with
  | non=>exact EqAt.str_none a d
  | bl b=>exact EqAt.str_bool a d b
  | int i t=>exact EqAt.str_int a d i t
  | str x t=>exact EqAt.str_str a d x t
  | tup h=>exact EqAt.str_tuple a d h c
  | lst h=>exact EqAt.str_list a d h c
 | @tup l m g=>
  cases h' with
  | non=>exact EqAt.tuple_none g c
  | bl b=>exact EqAt.tuple_bool b g c
  | int i t=>exact EqAt.tuple_int i t g c
  | str x t=>exact EqAt.tuple_str x t g c
  | @tup b j h=>exact EqAt.of_refs (n l b rfl rfl) (vF (k:=.tup m.length) (k':=.tup j.length) (.tup g) (.tup h) c o)
  | lst h=>exact EqAt.tuple_list g h c
 | @lst l m g=>
  cases h' with
  | non=>exact EqAt.list_none g c
  | bl b=>exact EqAt.list_bool b g c
  | int i t=>exact EqAt.list_int i t g c
  | str x t=>exact EqAt.list_str x t g c
  | tup h=>exact EqAt.list_tuple g h c
  | @lst b j h=>exact EqAt.of_refs (n l b rfl rfl) (vF (k:=.lst m.length) (k':=.lst j.length) (.lst g) (.lst h) c o)
end
inductive KdD where
 | non|bl (b:Bool)|int (i:Int)|str (x:Str)|tup (xs:List D)|lst (xs:List D)
noncomputable def dR (c:Hm):D->Option KdD
 | .non=>some .non
 | .bl b=>some (.bl b)
 | .int i=>some (.int i)
 | .str x=>some (.str x)
 | .tup xs=>some (.tup xs)
 | .rol xs=>some (.lst xs)
 | .loc a=>match c[a]? with|some (.lst xs)=>some (.lst xs)|_=>none
 | .ty _=>none
noncomputable def fT (f:D->D->Option Bool):List D->List D->Option Bool
 | x::xs,y::ys=>(f x y).bind fun b=>(fT f xs ys).map fun c=>b&&c
 | [],[]=>some true
 | _,_=>some false
noncomputable def iH (f:D->D->Option Bool):KdD->KdD->Option Bool
 | .non,.non=>some true
 | .bl a,.bl b=>some (a == b)
 | .bl a,.int b=>some ((if a then 1 else 0) == b)
 | .int a,.bl b=>some (a == (if b then 1 else 0))
 | .int a,.int b=>some (a == b)
 | .str a,.str b=>some (a == b)
 | .tup xs,.tup ys=>fT f xs ys
 | .lst xs,.lst ys=>fT f xs ys
 | _,_=>some false
noncomputable abbrev vG (f:D->D->Option Bool):D->D->Option Bool:=f
theorem A9 {f:D->D->Option Bool}{x y:D}{b:Bool}(h:vG f x y=some b):f x y=some b\/(b=true/\∃ a,x=.loc a/\y=.loc a):=.inl h
noncomputable def cZ:Nat->Hm->D->D->Option Bool
 | 0,_,_,_=>none
 | n+1,μ,x,y=>(dR μ x).bind fun a=>(dR μ y).bind fun b=>iH (vG (cZ n μ)) a b
noncomputable abbrev iI (n:Nat)(a:Hm):D->D->Option Bool:=vG (cZ n a)
noncomputable def vH:KdD->KD
 | .non=>.non|.bl b=>.bl b|.int i=>.int i|.str x=>.str x|.tup xs=>.tup xs.length|.lst xs=>.lst xs.length
noncomputable def nH:KdD->List D
 | .tup xs=>xs|.lst xs=>xs|_=>[]
section
variable {X:Cx}{a3J:List (Addr×Obj)}{σ:St}{H:Hp}{s:Th}{π:Nat->Addr}{μ:Hm}
inductive KdAt (X:Cx)(π:Nat->Addr)(n:Nat)(H:Hp)(s:Th)(u:Te):KdD->Prop where
 | non (h:u=.none):KdAt X π n H s u .non
 | bl (b:Bool)(h:u=.bool b):KdAt X π n H s u (.bl b)
 | int (i:Int)(t:Tok)(h:u=.int i t):KdAt X π n H s u (.int i)
 | str (x:Str)(t:Tok)(h:u=.str x t):KdAt X π n H s u (.str x)
 | tup {xs:List D}(p:Addr)(vs:List V)(its:List Te)(h:u=.ref p)(q:SqT X.K H p vs)(i:IsDs X.K π n H vs xs)(r:Vals vs its)(t:s.heap.IsTuple p its.toArray):KdAt X π n H s u (.tup xs)
 | lst {xs:List D}(p:Addr)(vs:List V)(its:List Te)(h:u=.ref p)(q:SqL X.K H p vs)(i:IsDs X.K π n H vs xs)(r:Vals vs its)(t:s.heap.IsList p its.toArray):KdAt X π n H s u (.lst xs)
theorem nI (I:Inv X a3J σ H s)(R:Rp X.K π H μ){v:V}{d:D}{u:Te}(h:IsD X.K π μ.length H v d)(r:RelV v u){k:KdD}(e:dR μ d=some k):KdAt X π μ.length H s u k:=by
 cases h with
 | non=>cases e;exact .non r
 | bl b=>cases e;exact .bl b r
 | int i=>cases e;obtain ⟨t,q⟩:=r;exact .int i t q
 | str x=>cases e;obtain ⟨t,q⟩:=r;exact .str x t q
 | ty x=>cases e
 | tup q t=>
  cases e
  obtain ⟨c,g,p,_⟩:=I.tuple q
  exact .tup _ _ c r q t g p
 | rol q t=>
  cases e
  obtain ⟨c,g,p,_⟩:=I.list q.sq
  exact .lst _ _ c r q.sq t g p.isList
 | @loc a w=>
  simp only [dR] at e
  split at e
  ·rename_i o m
   cases e
   obtain ⟨n,j,l⟩:=R.lst a o m
   have q:SqL X.K H (π a) n:=.of j
   obtain ⟨c,g,p,_⟩:=I.list q
   exact .lst _ _ c r q l g p.isList
  ·cases e
theorem KdAt.isK {u:Te}{k:KdD}{n:Nat}(h:KdAt X π n H s u k):IsK s u (vH k):=by
 cases h with
 | non h=>subst h;exact .non
 | bl b h=>subst h;exact .bl b
 | int i t h=>subst h;exact .int i t
 | str x t h=>subst h;exact .str x t
 | tup p c a h q i r t=>
  subst h
  have:a.length=_:=r.length.symm.trans i.length
  show IsK s (.ref p) (.tup _)
  rw [<- this]
  exact .tup t
 | lst p c a h q i r t=>
  subst h
  have:a.length=_:=r.length.symm.trans i.length
  show IsK s (.ref p) (.lst _)
  rw [<- this]
  exact .lst t
noncomputable def gS (f:D->D->Option Bool)(xs a:List D)(j:Nat):Bool:=match xs[j]?,a[j]? with
 | some x,some y=>(f x y).getD false
 | _,_=>false
theorem vJ {f:D->D->Option Bool}:∀ {xs a:List D}{b:Bool},fT f xs a=some b->b=((Ui (min xs.length a.length)).all (gS f xs a)&&xs.length == a.length)/\∀ (j:Nat) x y,xs[j]? = some x->a[j]? = some y->f x y=some (gS f xs a j)
 | [],[],b,h=>by
  cases h
  exact ⟨rfl,fun j x y e=>by simp at e⟩
 | x::xs,[],b,h=>by
  cases h
  exact ⟨by simp,fun j x y _ e=>by simp at e⟩
 | [],y::a,b,h=>by
  cases h
  exact ⟨by simp,fun j x y e=>by simp at e⟩
 | x::xs,y::a,b,h=>by
  simp only [fT] at h
  obtain ⟨c,m,o⟩:=S9.mp h
  obtain ⟨d,p,q⟩:=Tg.mp o
  obtain ⟨r,u⟩:=vJ p
  have l:gS f (x::xs) (y::a) 0=c:=by simp [gS,m]
  have n:∀ j,gS f (x::xs) (y::a) (j+1)=gS f xs a j:=fun j=>by simp [gS]
  refine ⟨?_,fun j v w g i=>?_⟩
  ·subst q
   rw [r]
   simp only [T6,Nat.add_min_add_right]
   rw [ZW,Ur,List.all_map,l]
   have:(gS f (x::xs) (y::a) ∘ Nat.succ)=gS f xs a:=funext fun j=>n j
   rw [this]
   simp [Bool.and_assoc]
  ·cases j with
   | zero=>
    simp at g i
    subst g;subst i
    rw [l,m]
   | succ j=>
    rw [n j]
    exact u j v w (by simpa using g) (by simpa using i)
theorem Ba {f:D->D->Option Bool}{k k':KdD}{b:Bool}(h:iH f k k'=some b):b=nG (gS f (nH k) (nH k')) (vH k) (vH k'):=by
 cases k<;>cases k'<;>simp only [iH] at h<;>first
  | (have a:=TL h;subst a;rfl)
  | (obtain ⟨c,_⟩:=vJ h;rw [c];rfl)
theorem Ju (I:Inv X a3J σ H s)(R:Rp X.K π H μ):∀ (n:Nat){v:V}{u:Te}{x y:D}{b:Bool},RelV v u->IsD X.K π μ.length H v x->IsD X.K π μ.length H v y->cZ n μ x y=some b->b=true:=by
 intro n
 induction n with
 | zero=>intro v u x y b _ _ _ h;cases h
 | succ n ih=>
  intro v u x y b r hx hy h
  obtain ⟨k,T,h⟩:=S9.mp h
  obtain ⟨k',h2,h⟩:=S9.mp h
  have a1:=nI I R hx r T
  have o:=nI I R hy r h2
  have g:∀ {vs:List V}{xs Q:List D}{c:Bool},(∀ v∈vs,∃ u,RelV v u)->IsDs X.K π μ.length H vs xs->IsDs X.K π μ.length H vs Q->fT (iI n μ) xs Q=some c->c=true:=by
   intro vs
   induction vs with
   | nil=>intro xs Q c _ Y m h;cases Y;cases m;cases h;rfl
   | cons w vs Z=>
    intro xs Q c hr Y m h
    cases Y with
    | cons p1 t1=>
     cases m with
     | cons K B=>
      simp only [fT] at h
      obtain ⟨c1,T,h3⟩:=S9.mp h
      obtain ⟨c2,h4,h5⟩:=Tg.mp h3
      obtain ⟨O,M⟩:=hr w (Um ..)
      have a:c1=true:=(A9 T).elim (ih M p1 K) (·.1)
      have l:=Z (fun v G=>hr v (Ua _ G)) t1 B h4
      subst a;subst l
      exact h5.symm
  cases a1 with
  | non a=>
   subst a
   cases o with
   | non _=>simp only [iH] at h;exact (TL h).symm
   | bl _ e=>cases e
   | int _ _ e=>cases e
   | str _ _ e=>cases e
   | tup _ _ _ e=>cases e
   | lst _ _ _ e=>cases e
  | bl c a=>
   subst a
   cases o with
   | non e=>cases e
   | bl _ e=>cases e;simp only [iH,beq_self_eq_true] at h;exact (TL h).symm
   | int _ _ e=>cases e
   | str _ _ e=>cases e
   | tup _ _ _ e=>cases e
   | lst _ _ _ e=>cases e
  | int c t a=>
   subst a
   cases o with
   | non e=>cases e
   | bl _ e=>cases e
   | int _ _ e=>cases e;simp only [iH,beq_self_eq_true] at h;exact (TL h).symm
   | str _ _ e=>cases e
   | tup _ _ _ e=>cases e
   | lst _ _ _ e=>cases e
  | str c t a=>
   subst a
   cases o with
   | non e=>cases e
   | bl _ e=>cases e
   | int _ _ e=>cases e
   | str _ _ e=>cases e;simp only [iH,beq_self_eq_true] at h;exact (TL h).symm
   | tup _ _ _ e=>cases e
   | lst _ _ _ e=>cases e
  | tup p vs J a q i N t=>
   have z:KdAt X π μ.length H s (.ref p) _:=a ▸ KdAt.tup p vs J a q i N t
   rw [a] at o
   cases o with
   | non e=>cases e
   | bl _ e=>cases e
   | int _ _ e=>cases e
   | str _ _ e=>cases e
   | tup K E d l L m A B=>
    cases l
    have:=I.tuple_inj q L
    subst this
    exact g (fun v G=>by
     obtain ⟨j,U,rfl⟩:=Vg G
     obtain ⟨O,_,M⟩:=N.get (TV U)
     exact ⟨O,M⟩) i m h
   | lst K E d l L m A B=>
    cases l
    exact absurd rfl (Vq B t)
  | lst p vs J a q i N t=>
   rw [a] at o
   cases o with
   | non e=>cases e
   | bl _ e=>cases e
   | int _ _ e=>cases e
   | str _ _ e=>cases e
   | tup K E d l L m A B=>
    cases l
    exact absurd rfl (Vq t B)
   | lst K E d l L m A B=>
    cases l
    have:=I.list_inj q L
    subst this
    exact g (fun v G=>by
     obtain ⟨j,U,rfl⟩:=Vg G
     obtain ⟨O,_,M⟩:=N.get (TV U)
     exact ⟨O,M⟩) i m h
theorem mD (A:Ug):A.in1.units=A.units+1:=rfl
theorem Bb (I:Inv X a3J σ H s){A:Ug}{n:Nat}(ih:∀ {A:Ug}{v v':V}{u u':Te}{x y:D}{b:Bool},A.units+n<VS->RelV v u->RelV v' u'->IsD X.K π μ.length H v x->IsD X.K π μ.length H v' y->cZ n μ x y=some b->EqAt A s u u' b)
  (hu:A.units+(n+1)<VS){u u':Te}{k k':KdD}{b:Bool}(a1:KdAt X π μ.length H s u k)(a2:KdAt X π μ.length H s u' k')(h:iH (iI n μ) k k'=some b):rF A s u u' (gS (iI n μ) (nH k) (nH k')):=by
 have G:∀ {vs Q:List V}{its its':List Te}{xs Y:List D}{c:Bool},Vals vs its->Vals Q its'->IsDs X.K π μ.length H vs xs->IsDs X.K π μ.length H Q Y->fT (iI n μ) xs Y=some c->
   ∀ j (T:j<its.length)(U:j<its'.length),EqAt A.in1 s its[j] its'[j] (gS (iI n μ) xs Y j):=by
  intro vs Q its its' xs Y c r r' i i' e j T U
  have l1:=r.length
  have l2:=r'.length
  have l3:=i.length
  have l4:=i'.length
  have hx:xs[j]? = some (xs[j]'(by omega)):=TV _
  have hy:Y[j]? = some (Y[j]'(by omega)):=TV _
  obtain ⟨v,v1,v2⟩:=i.get hx
  obtain ⟨v',v1',v2'⟩:=i'.get hy
  obtain ⟨w,w1,w2⟩:=r.get v1
  obtain ⟨w',w1',w2'⟩:=r'.get v1'
  rw [TV T] at w1
  rw [TV U] at w1'
  cases w1
  cases w1'
  have key:∀ {x y:D}{b:Bool},IsD X.K π μ.length H v x->IsD X.K π μ.length H v' y->iI n μ x y=some b->EqAt A.in1 s its[j] its'[j] b:=fun {x y b} i1 J hq=>by
   rcases A9 hq with hq|⟨rfl,a,rfl,rfl⟩
   ·exact ih (by rw [mD];omega) w2 w2' i1 J hq
   ·cases i1
    cases J
    have z1:its[j]=Tx (π a):=w2
    have z2:its'[j]=Tx (π a):=w2'
    rw [z1,z2]
    exact EqAt.same _
  exact key v2 v2' ((vJ e).2 j _ _ hx hy)
 constructor
 ·intro l b' E z e1 e2 t1 t2 j T U
  subst e1;subst e2
  cases a1 with
  | tup p vs its e q i r t=>
   cases e
   cases a2 with
   | tup p2 R B d q2 J Z O=>
    cases d
    have z1:E=its.toArray:=by
     obtain ⟨o,K,g2,n1,M⟩:=t1
     obtain ⟨o',g,L,N,m⟩:=t
     rw [K] at g;cases g
     rw [M] at m
     injection m
    have z2:z=B.toArray:=by
     obtain ⟨o,K,g2,n1,M⟩:=t2
     obtain ⟨o',g,L,N,m⟩:=O
     rw [K] at g;cases g
     rw [M] at m
     injection m
    subst z1;subst z2
    have:=G r Z i J h j (by simpa using T) (by simpa using U)
    simpa [nH] using this
   | lst p2 R B d q2 J Z O=>
    cases d
    exact absurd rfl (Vq O t2)
   | non d=>cases d
   | bl _ d=>cases d
   | int _ _ d=>cases d
   | str _ _ d=>cases d
  | lst p vs its e q i r t=>
   cases e
   exact absurd rfl (Vq t t1)
  | non e=>cases e
  | bl _ e=>cases e
  | int _ _ e=>cases e
  | str _ _ e=>cases e
 ·intro l b' E z e1 e2 t1 t2 j T U
  subst e1;subst e2
  cases a1 with
  | lst p vs its e q i r t=>
   cases e
   cases a2 with
   | lst p2 R B d q2 J Z O=>
    cases d
    have z1:E=its.toArray:=by
     obtain ⟨o,K,g2,n1,M⟩:=t1
     obtain ⟨o',g,L,N,m⟩:=t
     rw [K] at g;cases g
     rw [M] at m
     injection m
    have z2:z=B.toArray:=by
     obtain ⟨o,K,g2,n1,M⟩:=t2
     obtain ⟨o',g,L,N,m⟩:=O
     rw [K] at g;cases g
     rw [M] at m
     injection m
    subst z1;subst z2
    have:=G r Z i J h j (by simpa using T) (by simpa using U)
    simpa [nH] using this
   | tup p2 R B d q2 J Z O=>
    cases d
    exact absurd rfl (Vq t2 O)
   | non d=>cases d
   | bl _ d=>cases d
   | int _ _ d=>cases d
   | str _ _ d=>cases d
  | tup p vs its e q i r t=>
   cases e
   exact absurd rfl (Vq t1 t)
  | non e=>cases e
  | bl _ e=>cases e
  | int _ _ e=>cases e
  | str _ _ e=>cases e
theorem vK (I:Inv X a3J σ H s)(R:Rp X.K π H μ):∀ (n:Nat){A:Ug}{v c:V}{u a:Te}{x y:D}{b:Bool},A.units+n<VS->RelV v u->RelV c a->IsD X.K π μ.length H v x->IsD X.K π μ.length H c y->cZ n μ x y=some b->EqAt A s u a b:=by
 intro n
 induction n with
 | zero=>intro A v c u a x y b _ _ _ _ _ h;cases h
 | succ n J=>
  intro A v c u a x y b G r m i j h
  have q:=h
  obtain ⟨k,w,h⟩:=S9.mp h
  obtain ⟨L,B,h⟩:=S9.mp h
  have d:=nI I R i r w
  have e:=nI I R j m B
  by_cases g:u=a
  ·subst g
   have:v=c:=r.inj m
   subst this
   have:=Ju I R (n+1) r i j q
   subst this
   exact EqAt.same _
  ·have E:=Bb I J G d e h
   rw [Ba h]
   exact Jt d.isK e.isK (by omega) E fun l K o p z=>g (by rw [o,p,z])
theorem Bc (I:Inv X a3J σ H s)(R:Rp X.K π H μ)(n:Nat){A:Ug}{v g:V}{u d:Te}{x y:D}{b:Bool}(l:A.units+n<VS)(r:RelV v u)(p:RelV g d)(m:IsD X.K π μ.length H v x)(o:IsD X.K π μ.length H g y)(h:cZ n μ x y=some b) :
  RcAt A s u d b/\RcNeAt A s u d (!b):=by
 cases n with
 | zero=>cases h
 | succ n=>
  obtain ⟨k,i,h⟩:=S9.mp h
  obtain ⟨q,j,h⟩:=S9.mp h
  have a:=nI I R m r i
  have c:=nI I R o p j
  have e:=Bb I (A:=A) (vK I R n) l a c h
  rw [Ba h]
  exact ⟨vF a.isK c.isK (by omega) e,Js a.isK c.isK (by omega) e⟩
end
end L3
namespace L3
open PySem L2
open SeqAt (EqAt RcAt RcNeAt)
section
variable {K:Ta}
noncomputable def jR (g:Int->Int->Option Int):D->D->Hm->Option (D×Hm)
 | .int i,.int j,μ=>(g i j).map fun z=>(.int z,μ)
 | _,_,_=>none
theorem Bd {g:Int->Int->Option Int}{x y d:D}{a μ':Hm}(h:jR g x y a=some (d,μ')):∃ i j z,x=.int i/\y=.int j/\g i j=some z/\d=.int z/\μ'=a:=by
 unfold jR at h
 split at h
 ·rename_i i j
  obtain ⟨z,b,c⟩:=Tg.mp h
  cases c
  exact ⟨i,j,z,rfl,rfl,b,rfl,rfl⟩
 ·cases h
theorem rG {a:Int->Int->Prop}{g:Int->Int->Option Int}{g':Int->Int->Int}(e:∀ i j z,g i j=some z->a i j/\z=g' i j):cH K (jR g) (rI a fun i j=>.int (g' i j)):=by
 intro o H r x y d n p q Q R l m h k
 obtain ⟨i,j,z,rfl,rfl,b,rfl,rfl⟩:=Bd h
 cases l
 cases m
 obtain ⟨c,rfl⟩:=e i j z b
 exact ⟨i,j,rfl,rfl,c,k o _ H .refl R (.int _)⟩
theorem Jv {g':Int->Int->Int}:cH K (jR fun i j=>some (g' i j)) (fS fun i j=>.int (g' i j)):=by
 intro h H n x y d g l m Q R c e b k
 obtain ⟨i,j,z,rfl,rfl,a,rfl,rfl⟩:=Bd b
 cases c
 cases e
 cases a
 exact ⟨i,j,rfl,rfl,k h _ H .refl R (.int _)⟩
noncomputable def cQ:=jR fun i j=>some (i - j)
noncomputable def Be:=jR fun i j=>if ((-(2 ^ 64)<i/\i<2 ^ 64)\/(-(2 ^ 64)<j/\j<2 ^ 64))\/(i.natAbs<2 ^ 4000/\j.natAbs<2 ^ 4000)\/Uj i+Uj j<=134217728 then some (i * j) else none
noncomputable def bX:D->D->Hm->Option (D×Hm)
 | x,y,μ=>Be x y μ
noncomputable def dS:=jR fun i j=>if 0<j/\j<2 ^ 4000 then some (i / j) else none
noncomputable def bJ:=jR fun i j=>if 0<j then some (i % j) else none
noncomputable def gT:=jR fun i j=>if (0<=j/\j<=1000000/\i.natAbs<2 ^ 64)\/(0<=j/\j<=100/\i.natAbs<2 ^ 4000) then some (i ^ j.toNat) else none
noncomputable def CMulB (i j:Int):Prop:=CMul i j\/(i.natAbs<2 ^ 4000/\j.natAbs<2 ^ 4000)\/Uj i+Uj j<=134217728
noncomputable def Bf (i j:Int):Prop:=0<j/\j<2 ^ 4000
noncomputable def Bg (i j:Int):Prop:=GN i j\/(0<=j/\j<=100/\i.natAbs<2 ^ 4000)
theorem vL {i:Int}(h:i.natAbs<2 ^ 4000):Uj i<=4000:=by
 unfold Uj
 split
 ·exact Uz _
 ·rename_i b
  have a:i.natAbs≠0:=by
   intro z
   exact b (by simpa using z)
  have:=(a3f a).mpr h
  omega
theorem CMulB.ok {i j:Int}(h:CMulB i j):a1L i j:=by
 rcases h with h|⟨b,c⟩|h
 ·exact h.ok
 rotate_left
 ·have a:WL (Uj i+Uj j)=false:=by
   unfold WL
   rw [decide_eq_false]
   have:bitsLine=134217728:=by decide
   omega
  unfold a1L
  rw [a]
  simp
 ·have d:=vL b
  have e:=vL c
  have a:WL (Uj i+Uj j)=false:=by
   unfold WL
   rw [decide_eq_false]
   have:(8000:Int)<=bitsLine:=by decide
   omega
  unfold a1L
  rw [a]
  simp
section
variable {X:Cx}
theorem Jw:OpR X (WC .Mult) (rI CMulB fun i j=>.int (i * j)):=qY fun _ _ _ _ _ _ _ hc q=>a2U q hc.ok
theorem Jx:OpR X (WC .FloorDiv) (rI Bf fun i j=>.int (i / j)):=qY fun i j _ _ _ _ _ hc q=>by
 have c:(0:Int)<j:=hc.1
 have d:j<2 ^ 4000:=hc.2
 have a:j.natAbs≠0:=by omega
 have b:j.natAbs<2 ^ 4000:=by
  have:((2 ^ 4000:Nat):Int)=2 ^ 4000:=by decide
  omega
 have e:=(a3f a).mpr b
 exact a2Y (by omega) (by rw [Int.fdiv_eq_ediv_of_nonneg i (by omega)];exact q) (.inl (PyProof.noPylong_of_log2 (by omega)))
theorem Jy:OpR X (WC .Pow) (rI Bg fun i j=>.int (i ^ j.toNat)):=qY fun i j _ _ _ _ _ hc q=>by
 rcases hc with hc|⟨a,c,d⟩
 ·exact a2R hc.1 hc.2.1 hc.2.2 q
 ·have b:=vL d
  refine a2S a ?_ q
  have:(Uj i:Int) * j<=4000 * 100:=a2e (by omega) c a (by omega)
  omega
end
theorem rH {c:Prop} [Decidable c] {a z:Int}(h:(if c then some a else none)=some z):c/\z=a:=by
 split at h
 ·cases h;exact ⟨by assumption,rfl⟩
 ·cases h
theorem Jz:cH K cQ (fS fun i j=>.int (i - j)):=Jv
theorem JA:cH K Be (rI CMulB fun i j=>.int (i * j)):=rG fun i j z h=>by
 have:=rH h
 exact this
theorem JB:cH K bX (rI CMulB fun i j=>.int (i * j)):=JA
theorem JC:cH K dS (rI Bf fun i j=>.int (i / j)):=rG fun i j z h=>by
 have:=rH h
 exact this
theorem JD:cH K bJ (rI (fun _ j=>0<j) fun i j=>.int (i % j)):=rG fun _ _ _ h=>rH h
theorem JE:cH K gT (rI Bg fun i j=>.int (i ^ j.toNat)):=rG fun i j z h=>by
 have:=rH h
 exact this
noncomputable def vO:D->Option D
 | .int i=>some (.int (-i))
 | _=>none
noncomputable def bK:D->D->Hm->Option (D×Hm)
 | .int i,.int j,μ=>some (.int (i+j),μ)
 | .str x,.str y,μ=>if x.length+y.length<=TC then some (.str (x++y),μ) else none
 | .loc a,.loc b,μ=>match μ[a]?,μ[b]? with
  | some (.lst xs),some (.lst ys)=>if xs.length+ys.length<=TC then some (.loc μ.length,μ++[.lst (xs++ys)]) else none
  | _,_=>none
 | _,_,_=>none
noncomputable def vP (K:Ta):R2:=fun x y H Q=>fS (fun i j=>.int (i+j)) x y H Q\/(∃ i j,x=.str i/\y=.str j/\i.length+j.length<=TC/\Q (.str (i++j)) H)\/AK x y H Q
theorem JF {X:Cx}:OpR X (WC .Add) (vP X.K):=op_add.or (op_add_str.or Ia)
noncomputable abbrev vQ (K:Ta):R2:=vP K
theorem JG {X:Cx}:OpR X (WC .Add) (vQ X.K):=JF
theorem vT {K:Ta}{x y:V}{H:Hp}{Q:VK}(h:vP K x y H Q):vQ K x y H Q:=h
theorem JH:cH K bK (vQ K):=by
 intro o H E x y d z A B Q R c e a k
 unfold bK at a
 split at a
 ·cases a
  cases c
  cases e
  exact vT (.inl ⟨_,_,rfl,rfl,k o _ H .refl R (.int _)⟩)
 ·split at a
  ·rename_i b
   cases a
   cases c
   cases e
   exact vT (.inr (.inl ⟨_,_,rfl,rfl,b,k o _ H .refl R (.str _)⟩))
  ·cases a
 ·split at a
  ·rename_i m n u v
   split at a
   ·rename_i b
    cases a
    cases c
    cases e
    obtain ⟨j,g,h⟩:=R.lst _ m u
    obtain ⟨l,s,i⟩:=R.lst _ n v
    refine vT (.inr (.inr ⟨_,_,j,l,rfl,rfl,by first|exact g|exact .inl (.inl g),s,by rw [h.length,i.length];exact b,fun p w=>?_⟩))
    obtain ⟨r,R2,q⟩:=R.alloc (c:=.lst (m++n)) (o:=.lst (j++l)) w (h.append i)
    exact k _ _ _ r R2 iG
   ·cases a
  ·cases a
 ·cases a
noncomputable def fF (p:Int->Int->Bool):D->D->Hm->Option (D×Hm)
 | .int i,.int j,μ=>some (.bl (p i j),μ)
 | _,_,_=>none
theorem gU {p:Int->Int->Bool}:cH K (fF p) (fS fun i j=>.bl (p i j)):=by
 intro g H m x y d e h l Q R b c a k
 unfold fF at a
 split at a
 ·cases a
  cases b
  cases c
  exact ⟨_,_,rfl,rfl,k g _ H .refl R (.bl _)⟩
 ·cases a
noncomputable def nJ:=fF fun i j=>decide (i<j)
noncomputable def kW:=fF fun i j=>decide (i<=j)
noncomputable def kX:=fF fun i j=>decide (j<i)
noncomputable def vU:=fF fun i j=>decide (j<=i)
noncomputable def vV (K:Ta)(ne:Bool):R2:=fun x y H Q=>∃ π a c d b,Rp K π H a/\IsD K π a.length H x c/\IsD K π a.length H y d/\cZ 8 a c d=some b/\Q (.bl (if ne then !b else b)) H
theorem Bh {X:Cx}(c:X.A.units+8<VS):OpR X (UG .Eq) (vV X.K false):=by
 intro a s p H x y v u Q I i j h
 obtain ⟨o,n,l,m,b,R,d,g,e,q⟩:=h
 exact (Bc I R 8 c i j d g e).1 _ _ _ _ ⟨.bl b,H,I,rfl,q⟩
theorem Bi {X:Cx}(c:X.A.units+8<VS):OpR X (UG .NotEq) (vV X.K true):=by
 intro a s p H x y v u Q I i j h
 obtain ⟨o,n,l,m,b,R,d,g,e,q⟩:=h
 exact (Bc I R 8 c i j d g e).2 _ _ _ _ ⟨.bl (!b),H,I,rfl,q⟩
noncomputable def a8 (ne:Bool):D->D->Hm->Option (D×Hm):=fun x y a=>(cZ 8 a x y).map fun b=>(.bl (if ne then !b else b),a)
theorem rJ {ne:Bool}:cH K (a8 ne) (vV K ne):=by
 intro a H j x y d l m n Q R h i g k
 obtain ⟨b,c,e⟩:=Tg.mp g
 cases e
 exact ⟨a,j,x,y,b,R,h,i,c,k a _ H .refl R (.bl _)⟩
noncomputable def vW:D->D->Hm->Option (D×Hm)
 | .str i,.str j,μ=>some (.bl (!(U8 j i 0 j.length 1).isEmpty),μ)
 | _,_,_=>none
theorem Bj:cH K vW (fun x y H Q=>∃ i j,x=.str i/\y=.str j/\Q (.bl (!(U8 j i 0 j.length 1).isEmpty)) H):=by
 intro g H m x y d e h l Q R b c a k
 unfold vW at a
 split at a
 ·cases a
  cases b
  cases c
  exact ⟨_,_,rfl,rfl,k g _ H .refl R (.bl _)⟩
 ·cases a
end
section
variable {X:Cx}{a b c:Expr}{ma mb mc:ME}{pos:Vl}
theorem rK {k:Nat}{A:Ug}(r:Room k A):A.units+8<VS:=by have:=r.un;omega
theorem JI (s:PE X a (tM X.K ma)):PE X (.UnaryOp .USub a pos) (tM X.K (fun j g=>(ma j g).bind fun p=>(vO p.1).map fun d=>(d,p.2))):=cG (GL GQ s) (by
 rintro B H Q ⟨z,j,g,d,v,R,E,e,k⟩
 obtain ⟨⟨x,w⟩,q,e⟩:=S9.mp e
 obtain ⟨y,l,r⟩:=Tg.mp e
 cases r
 cases x with
 | int i=>
  cases l
  refine ⟨z,j,g,_,_,R,E,q,fun h A m o n u=>?_⟩
  cases u
  exact ⟨_,rfl,k h _ m o n (.int _)⟩
 | _=>cases l)
theorem JJ {x:Str}{n:String}(d:Gl X x)(e:X.mg x=none)(h:Vh x=some (.type n))(g:x ≠ "__name__":=by decide) (hd:(x == ("__debug__":Str))=false:=by decide):PE X (.Name x pos) (tM X.K (mC (.ty n))):=
 nE (FP (v:=.ty n) d e h rfl g hd) fun _ _ _=>.ty n
end
noncomputable def vX (b:Hm):D->Option String
 | .non=>some "NoneType"
 | .bl _=>some "bool"
 | .int _=>some "int"
 | .str _=>some "str"
 | .tup _=>some "tuple"
 | .rol _=>some "list"
 | .loc a=>match b[a]? with
  | some (.lst _)=>some "list"
  | some (.dK _)=>some "dict"
  | some (.dT _)=>some "dict"
  | _=>none
 | .ty _=>none
noncomputable def rL (t c:String):Option Bool:=match c with
 | "int"=>some (t == "int" || t == "bool")
 | "bool"=>some (t == "bool")
 | "str"=>some (t == "str")
 | "list"=>some (t == "list")
 | "tuple"=>some (t == "tuple")
 | "dict"=>some (t == "dict")
 | _=>none
noncomputable def i7:MF:=fun ds a=>match ds with
 | [x,.ty c]=>(vX a x).bind fun t=>(rL t c).map fun b=>(.bl b,a)
 | _=>none
theorem jS (K:Ta){t c:String}{b:Bool}(d:t = "NoneType"\/t = "bool"\/t = "int"\/t = "str"\/t = "tuple"\/t = "list"\/t = "dict") (h:rL t c=some b):a1b K (.type t) (.type c)=some b:=by
 unfold rL at h
 split at h<;>first
  | cases h;done
  | (have a:=TL h;subst a
     rcases d with rfl|rfl|rfl|rfl|rfl|rfl|rfl<;>first|rfl|decide +kernel|(unfold a1b;simp;rfl))
end L3
namespace L3
open PySem L2
noncomputable abbrev MG:=D->aI->Hm->Option aI
noncomputable def eV (K:Ta)(g:MG):TG:=fun v σ H Q=>∃ π e a d b,Rp K π H a/\En K π a.length H σ e/\IsD K π a.length H v d/\g d e a=some b/\∀ c,En K π a.length H c b->Q c H
noncomputable def cI (i:Nat):MG:=fun d a _=>some (a.set i (some d))
section
variable {X:Cx}{pos:Vl}
theorem Bk {i:Nat}{x:Str}(b:X.N.Nodup)(e:X.N[i]? = some x)(j:Loc X.env.scope x)(c:X.fn x=true\/X.env.scope.names.lookup x=some .local:=by first|exact .inl rfl|exact .inr rfl|assumption):PG X (.Name x pos) (eV X.K (cI i)):=by
 intro a s m H v u Q I r h
 obtain ⟨o,p,n,d,l,R,E,hd,g,k⟩:=h
 cases g
 exact z6 b e j c a s m H v u Q I r (k _ (E.set hd i))
noncomputable def JK (K:Ta)(c:TE):TI:=fun σ H R=>c σ H fun x b=>∃ a,x=.ref a/\(((∃ xs,SqL K b a xs)/\R (uJ K a) b)\/((∃ xs,SqT K b a xs)/\R (uK K a) b))
theorem JL {l tg:Expr}{r:TE}(u:PE X l r):PI X tg l (JK X.K r):=by
 intro i s E H R I h
 refine aW (u i s E H _ I h) fun v c ⟨x,n,d,z,y⟩=>?_
 obtain ⟨a,e,q⟩:=y
 subst e
 cases z
 rcases q with ⟨⟨B,m⟩,q⟩|⟨⟨B,m⟩,q⟩
 ·obtain ⟨g,A,p,w⟩:=d.list m
  refine XW p.isList ?_
  refine ⟨c.heap.objs.size,[c.heap.objs.size],_,_,n,rfl,d.kept (t':=c.toks) fun b o e=>Ti _ e,Gx a _,⟨_,TJ _ rfl,rfl,rfl⟩,fun b j=>?_,q⟩
  have e:b=c.heap.objs.size:=by simpa using j
  subst e
  exact d.fpOk (Tt _) (d.hok.fresh (Tt _))
 ·obtain ⟨g,A,p,w⟩:=d.tuple m
  refine wpAny_pyIter_tuple (show c.heap.IsTuple a g.toArray from p) ?_
  refine ⟨c.heap.objs.size,[c.heap.objs.size],_,_,n,rfl,d.kept (t':=c.toks) fun b o e=>Ti _ e,Gy a _,⟨_,TJ _ rfl,rfl,rfl⟩,fun b j=>?_,q⟩
  have e:b=c.heap.objs.size:=by simpa using j
  subst e
  exact d.fpOk (Tt _) (d.hok.fresh (Tt _))
end
structure Wk (K:Ta)(J:It)(src:Hm->Nat->Option (Option D))(π:Nat->Addr)(n:Nat)(H:Hp):Prop where
 stop:∀ π' μ H' i,Ext π n H π' μ.length H'->Rp K π' H' μ->src μ i=some none->J.stop i H'
 go:∀ π' μ H' i d,Ext π n H π' μ.length H'->Rp K π' H' μ->src μ i=some (some d)->J.go i H'/\∀ x H2,J.yld i H' x H2->Ext π' μ.length H' π' μ.length H2/\Rp K π' H2 μ/\IsD K π' μ.length H2 x d
noncomputable def jT (x:D):Hm->Nat->Option (Option D):=fun a i=>(bP a x).map fun xs=>xs[i]?
theorem JM {K:Ta}{π:Nat->Addr}{B:Hm}{H:Hp}{v:V}{x:D}{xs:List D}(R:Rp K π H B)(h:IsD K π B.length H v x)(E:bP B x=some xs) :
  ∃ a,v=.ref a/\(((∃ b,SqL K H a b)/\Wk K (uJ K a) (jT x) π B.length H)\/((∃ b,SqT K H a b)/\Wk K (uK K a) (jT x) π B.length H)):=by
 cases h with
 | @tup p b ds q t=>
  refine ⟨p,rfl,.inr ⟨⟨b,q⟩,⟨fun l j r i e m z=>?_,fun l j r i d e m z=>?_⟩⟩⟩
  ·simp only [jT,bP,Ub] at z
   have g:ds[i]? = none:=TL z
   exact ⟨b,e.sqT q,by rw [t.length];exact Ux.mp g⟩
  ·simp only [jT,bP,Ub] at z
   have g:ds[i]? = some d:=TL z
   obtain ⟨w,c,n⟩:=t.get g
   refine ⟨⟨b,w,e.sqT q,c⟩,fun y J ⟨s,u⟩=>?_⟩
   subst s
   have:=u b (e.sqT q)
   rw [c] at this
   cases this
   exact ⟨.refl,m,n.mono e⟩
 | @rol p b ds q t=>
  refine ⟨p,rfl,.inl ⟨⟨b,q.sq⟩,⟨fun l j r i e m z=>?_,fun l j r i d e m z=>?_⟩⟩⟩
  ·simp only [jT,bP,Ub] at z
   have g:ds[i]? = none:=TL z
   exact ⟨b,(e.roL q).sq,by rw [t.length];exact Ux.mp g⟩
  ·simp only [jT,bP,Ub] at z
   have g:ds[i]? = some d:=TL z
   obtain ⟨w,c,n⟩:=t.get g
   refine ⟨⟨b,w,(e.roL q).sq,c⟩,fun y J ⟨s,u⟩=>?_⟩
   subst s
   have:=u b (e.roL q).sq
   rw [c] at this
   cases this
   exact ⟨.refl,m,n.mono e⟩
 | @loc a M=>
  have hc:∃ b,H (π a)=some (.lst b):=by
   simp only [bP] at E
   split at E
   ·rename_i o A
    obtain ⟨b,c,_⟩:=R.lst a o A
    exact ⟨b,c⟩
   ·cases E
  obtain ⟨I,G⟩:=hc
  refine ⟨π a,rfl,.inl ⟨⟨I,.of G⟩,⟨fun l j r i e m z=>?_,fun l j r i d e m z=>?_⟩⟩⟩
  ·simp only [jT,bP] at z
   split at z
   ·rename_i o A
    obtain ⟨b,c,n⟩:=m.lst a o A
    rw [e.pi a M] at c
    have g:o[i]? = none:=TL z
    exact ⟨b,.of c,by rw [n.length];exact Ux.mp g⟩
   ·cases z
  ·simp only [jT,bP] at z
   split at z
   ·rename_i o A
    obtain ⟨b,c,n⟩:=m.lst a o A
    rw [e.pi a M] at c
    have g:o[i]? = some d:=TL z
    obtain ⟨w,L,N⟩:=n.get g
    refine ⟨⟨b,w,.of c,L⟩,fun y J ⟨s,u⟩=>?_⟩
    subst s
    have:=u b (.of c)
    rw [L] at this
    cases this
    exact ⟨.refl,m,N⟩
   ·cases z
 | _=>cases E
noncomputable def eE (a:Hm->Nat->Option (Option D))(g:MG)(b:MS):Nat->Nat->MS
 | 0,_,_,_=>none
 | n+1,i,ρ,μ=>(a μ i).bind fun o=>match o with
  | none=>some (.nx,ρ,μ)
  | some d=>(g d ρ μ).bind fun c=>(b c μ).bind fun p=>match p.1 with
   | .nx=>eE a g b n (i+1) p.2.1 p.2.2
   | .ct=>eE a g b n (i+1) p.2.1 p.2.2
   | .bk=>some (.nx,p.2.1,p.2.2)
   | .rt d=>some (.rt d,p.2.1,p.2.2)
theorem JN {K:Ta}{J:It}{A:Hm->Nat->Option (Option D)}{g:MG}{b:MS}{π:Nat->Addr}{O:Nat}{M:Hp}(W:Wk K J A π O M){E:Ends}{z:Fl}{l:aI}{μ':Hm}(hE:nD K E π O M z l μ')
  {B:Nat->Addr}{s:Hm}{H1:Hp}{R:aI}{σ1:St}{n:Nat}(e1:Ext π O M B s.length H1)(R1:Rp K B H1 s)(E1:En K B s.length H1 σ1 R)(h:eE A g b n 0 R s=some (z,l,μ')) :
  ∃ Wd:Nat->Nat->St->Hp->Prop,(∃ m,Wd 0 m σ1 H1)/\∀ i m U H,Wd i m U H->
   (J.stop i H/\E.nx U H)\/(J.go i H/\∃ N:St->Hp->Prop,(∀ v r,N v r->∃ m',m'<m/\Wd (i+1) m' v r)/\∀ x r,J.yld i H x r->eV K g x U r fun σ2 Z=>c5 K b { E with nx:=N,ct:=N,bk:=E.nx } σ2 Z):=by
 have lift:∀ {a:Nat->Addr}{n2:Nat}{Z:Hp}(e:Ext π O M a n2 Z){z:Fl}{l:aI}{μ':Hm},nD K E π O M z l μ'->nD K E a n2 Z z l μ':=fun {a n2 Z} e {z l μ'} k=>by
  cases z with
  | nx=>exact fun u q H3 e3 R3 L=>k u q H3 (e.trans e3) R3 L
  | bk=>exact fun u q H3 e3 R3 L=>k u q H3 (e.trans e3) R3 L
  | ct=>exact fun u q H3 e3 R3 L=>k u q H3 (e.trans e3) R3 L
  | rt d=>exact KC.after k e
 refine ⟨fun i m U H=>∃ a j G,Ext π O M a j.length H/\Rp K a H j/\En K a j.length H U G/\eE A g b m i G j=some (z,l,μ'),⟨n,B,s,R,e1,R1,E1,h⟩,?_⟩
 rintro i m U H ⟨a,j,G,w,R2,E2,h2⟩
 cases m with
 | zero=>cases h2
 | succ m=>
  obtain ⟨o,h3,h4⟩:=S9.mp h2
  cases o with
  | none=>
   cases h4
   exact .inl ⟨W.stop a _ H i w R2 h3,hE a U H w R2 E2⟩
  | some d=>
   obtain ⟨g1,g2⟩:=W.go a j H i d w R2 h3
   obtain ⟨ρ3,h5,h6⟩:=S9.mp h4
   obtain ⟨⟨f4,T,Q⟩,h7,h8⟩:=S9.mp h6
   refine .inr ⟨g1,fun v r=>∃ c I p,Ext π O M c p.length r/\Rp K c r p/\En K c p.length r v I/\eE A g b m (i+1) I p=some (z,l,μ'),
    fun v r ⟨c,I,p,a1,a2,a3,a4⟩=>⟨m,Ve _,c,p,I,a1,a2,a3,a4⟩,fun x r y=>?_⟩
   obtain ⟨ex,Rx,hx⟩:=g2 x r y
   have w:=w.trans ex
   refine ⟨a,G,j,d,ρ3,Rx,E2.mono ex,hx,h5,fun q L=>⟨a,ρ3,j,f4,T,Q,Rx,L,h7,?_⟩⟩
   cases f4 with
   | nx=>exact fun c X H5 e5 R5 Y=>⟨c,T,Q,w.trans e5,R5,Y,h8⟩
   | ct=>exact fun c X H5 e5 R5 Y=>⟨c,T,Q,w.trans e5,R5,Y,h8⟩
   | bk=>
    cases h8
    exact fun c X H5 e5 R5 Y=>hE c X H5 (w.trans e5) R5 Y
   | rt d'=>
    cases h8
    exact KC.after hE w
section
variable {X:Cx}{pos:Vl}{tg iter:Expr}{body:List Stmt}{mi:ME}{g:MG}{mb:MS}
noncomputable def fU (lo:Int)(n:Nat):Hm->Nat->Option (Option D):=fun _ i=>some (if i<n then some (.int (lo+i)) else none)
theorem Bl {K:Ta}{lo:Int}{k:Nat}{π:Nat->Addr}{n:Nat}{H:Hp}:Wk K (kP lo k) (fU lo k) π n H:=by
 refine ⟨fun b m c i e R z=>?_,fun b m c i d e R z=>?_⟩
 ·have a:=TL z
  split at a
  ·cases a
  ·exact W8.mp (by assumption)
 ·have a:=TL z
  split at a
  ·cases a
   rename_i h
   exact ⟨h,fun x o ⟨j,l⟩=>by subst j;rw [l];exact ⟨.refl,R,.int _⟩⟩
  ·cases a
end
end L3
namespace L3
open PySem L2
noncomputable def nK (y:Str):Str:="#"++y
noncomputable def bF (xs N:List Str):List Str:=N.map fun y=>if xs.contains y then nK y else y
theorem mE (xs N:List Str):(bF xs N).length=N.length:=by unfold bF;simp
theorem JO {xs N:List Str}{i:Nat}{y:Str}(h:(bF xs N)[i]? = some y):∃ a,N[i]? = some a/\((xs.contains a=true/\y=nK a)\/(xs.contains a=false/\y=a)):=by
 unfold bF at h
 rw [TH] at h
 obtain ⟨a,c,b⟩:=Tg.mp h
 refine ⟨a,c,?_⟩
 cases hc:xs.contains a with
 | true=>rw [hc] at b;exact .inl ⟨rfl,by simpa using b.symm⟩
 | false=>rw [hc] at b;exact .inr ⟨rfl,by simpa using b.symm⟩
noncomputable def cF (X:Cx)(scope:V0)(a:List (Str×Addr))(C:Addr)(N:List Str)(s₀:Th)(H₀:Hp)(b:List Addr):Cx:=
 { X with N:=N,s₀:=s₀,H₀:=H₀,env:=W5 scope a C X.env,outer:=X.stack,stack:=X.stack,ex:=b,fn:=fun _=>false,pn:=[],xe:=fun _ _=>False }
theorem Bm {env:Yi}:∀ (names:List (Str×V4))(x:Str),(names.map fun (n,k)=>if (k == VJ&&env.scope.kind == .function&&env.kindOf n == some .cell) then (n,VY) else (n,k)).lookup x
  = (names.lookup x).map fun k=>if (k == VJ&&env.scope.kind == .function&&env.kindOf x == some .cell) then VY else k
 | [],_=>rfl
 | (n,k)::r,x=>by
  have c:=Bm (env:=env) r x
  rw [Tq]
  by_cases b:x=n
  ·subst b
   have key:∀ (k':V4)(l:List (Str×V4)),VC x ((x,k')::l)=some k':=fun k' l=>by simp [W4]
   rw [key]
   show VC x ((if (k == VJ&&env.scope.kind == .function&&env.kindOf x == some .cell)=true then (x,VY) else (x,k))::_)=some (if (k == VJ&&env.scope.kind == .function&&env.kindOf x == some .cell)=true then VY else k)
   split
   ·rw [key]
   ·rw [key]
  ·have a:(x == n)=false:=by simpa using b
   have key:∀ (k':V4)(l:List (Str×V4)),VC x ((n,k')::l)=VC x l:=fun k' l=>by simp only [W4,a]
   rw [key]
   show VC x ((if (k == VJ&&env.scope.kind == .function&&env.kindOf n == some .cell)=true then (n,VY) else (n,k))::_)=_
   split
   ·rw [key]
    exact c
   ·rw [key]
    exact c
structure CompOk (X:Cx)(scope:V0)(cl:List (Str×Addr))(xs:List Str):Prop where
 clos:a1Z scope X.env=pure cl
 nocell:∀ y∈scope.names,y.2≠.cell
 kind:scope.kind=.function
 names:∀ y∈scope.names,y.2=.local->scope.names.lookup y.1=some .local
 here:∀ x∈xs,scope.names.lookup x=some .local
 sub:∀ y c,cl.lookup y=some c->X.env.cells.lookup y=some c
 free:∀ y,scope.names.lookup y=some .free->(X.env.kindOf y=some .cell\/X.env.kindOf y=some .free)/\∃ c,cl.lookup y=some c
 own:∀ y,scope.names.lookup y=some .local->y∉bF xs X.N
 hidn:∀ y∈X.N,xs.contains y=true->scope.names.lookup (nK y)=none
section
variable {X:Cx}{scope:V0}{cl:List (Str×Addr)}{xs:List Str}
theorem CompOk.kindOf (O:CompOk X scope cl xs)(C:Addr)(y:Str):(W5 scope cl C X.env).kindOf y=(scope.names.lookup y).map fun k=>if (k == VJ&&X.env.scope.kind == .function&&X.env.kindOf y == some .cell) then VY else k:=
 Bm scope.names y
theorem CompOk.outer (O:CompOk X scope cl xs){C:Addr}{y:Str}(h:(W5 scope cl C X.env).kindOf y=some .cell\/(W5 scope cl C X.env).kindOf y=some .free):scope.names.lookup y=some .free:=by
 rw [O.kindOf] at h
 cases q:scope.names.lookup y with
 | none=>rw [q] at h;rcases h with h|h<;>cases h
 | some k=>
  rw [q] at h
  cases k with
  | free=>rfl
  | cell=>exact absurd rfl (O.nocell _ (U0 q))
  | «local»=>rcases h with h|h<;>simp at h
  | globalExplicit=>rcases h with h|h<;>simp at h
  | globalImplicit=>rcases h with h|h<;>simp at h
theorem CompOk.inv {a3J:List (Addr×Obj)}{σ:St}{H:Hp}{s:Th}{U:List Addr}{d:UW}{tk:Nat}(O:CompOk X scope cl xs)(I:Inv X a3J σ H s)(B:∀ b∈U,gJ X a3J H b)(hob:∀ b∈U,∃ o,s.heap.get? b=some o){m:Str->Option Te}
  (hns:d.Ns s.heap.objs.size m)(M:∀ b o,s.heap.get? b=some o->d.get? b=some o) :
  Inv (cF X scope cl s.heap.objs.size (bF xs X.N++xs) s H U) [] (σ++VB xs.length none) H { s with heap:=d,toks:=tk }:=by
 refine ⟨⟨I.ok.mod,O.kind,I.ok.glob,I.ok.blt,Tt _,fun y z c Y A=>?_,fun y hy=>?_,(fun y c h=>by cases h),I.ok.hd,I.ok.frames,.inl rfl,fun b G=>?_,fun b o e=>I.bs b o e,UE I.ok.bsz I.sz,fun b o e G=>?_,fun b G hb2=>?_,I.stack,I.stkFree⟩,
  rfl,I.bare,Un.kept M,⟨m,hns,fun i y v Y A w=>?_⟩,fun y c h=>?_,I.hok.fresh (Tt _),fun y c h=>I.freeC y c (O.sub y c h),fun p hp=>absurd (show p∈([]:List (Addr×Obj)) from hp) (by simp),I.hok.kept M,?_⟩
 ·exact I.ok.inj y z c (O.sub y c Y) (O.sub z c A)
 ·exact (O.free y (O.outer hy)).2
 ·obtain ⟨f0,Q,R,x,T,f5⟩:=B b G
  obtain ⟨o,L⟩:=hob b G
  exact ⟨TY (TB L),fun y c h=>T y c (O.sub y c h)⟩
 ·obtain ⟨f0,Q,R,x,T,f5⟩:=B b G
  rcases x with x|x
  ·exact I.ok.noex b o e x
  ·exact absurd (T9 (TB (I.ok.bs b o e).1) x) (VA _)
 ·obtain ⟨f0,Q,R,x,T,f5⟩:=B b G
  rcases T1.mp (I.stkSub b hb2) with z|z
  ·exact Q z
  ·exact R z
 ·have K:i<σ.length:=by
   by_cases K:i<σ.length
   ·exact K
   ·rw [Us (W8.mp K),V5] at A
    split at A<;>cases A
  rw [TR K] at A
  have J:(bF xs X.N)[i]? = some y:=by
   have n:(bF xs X.N++xs)[i]? = some y:=Y
   rw [TR (by rw [mE,<- I.len];exact K)] at n
   exact n
  have j:scope.names.lookup y≠some .local:=fun z=>O.own y z (Ue J)
  have E:=O.kindOf s.heap.objs.size y
  have Z:X.N[i]? = some y:=by
   obtain ⟨y0,q1,N⟩:=JO J
   rcases N with ⟨N,q3⟩|⟨N,q3⟩
   ·exfalso
    have hz:=O.hidn y0 (Ue q1) N
    rw [<- q3] at hz
    rw [hz] at E
    have a:(W5 scope cl s.heap.objs.size X.env).kindOf y=some .local\/(W5 scope cl s.heap.objs.size X.env).kindOf y=some .cell\/(W5 scope cl s.heap.objs.size X.env).kindOf y=some .free:=w
    rw [E] at a
    rcases a with a|a|a<;>cases a
   ·rw [q3];exact q1
  have a:(W5 scope cl s.heap.objs.size X.env).kindOf y=some .cell\/(W5 scope cl s.heap.objs.size X.env).kindOf y=some .free:=by
   rcases w with w|w|w
   ·exfalso
    have a:(W5 scope cl s.heap.objs.size X.env).kindOf y=some .local:=w
    rw [E] at a
    cases q:scope.names.lookup y with
    | none=>rw [q] at a;cases a
    | some k=>
     rw [q] at a
     cases k with
     | «local»=>exact j q
     | cell=>simp at a
     | free=>
      simp only [Ub] at a
      split at a<;>cases a
     | globalExplicit=>simp at a
     | globalImplicit=>simp at a
   ·exact .inl w
   ·exact .inr w
  obtain ⟨g,c,hc⟩:=O.free y (O.outer a)
  obtain ⟨m0,hn0,hl0⟩:=I.loc
  obtain ⟨u,r,l⟩:=hl0 i y v Z A (by rcases g with g|g;exact .inr (.inl g);exact .inr (.inr g))
  refine ⟨u,r,.inr ⟨a,c,hc,?_⟩⟩
  rcases l with ⟨lk,_⟩|⟨_,c',e',z⟩
  ·exfalso
   rcases g with g|g
   ·rw [g] at lk;cases lk
   ·rw [g] at lk;cases lk
  ·rw [O.sub y c hc] at e'
   cases e'
   obtain ⟨o,L,hd⟩:=z
   exact ⟨o,M c o L,hd⟩
 ·obtain ⟨v,q⟩:=I.cell y c (O.sub y c h)
  exact ⟨v,by obtain ⟨o,L,hd⟩:=q;exact ⟨o,M c o L,hd⟩⟩
 ·show (σ++VB xs.length none).length=(bF xs X.N++xs).length
  rw [Tz,Tz,I.len,VT,mE]
theorem CompOk.back {a3J pl:List (Addr×Obj)}{σ K:St}{H i:Hp}{s j:Th}{l:List Addr}{h':UW}{N:List Str}(I:Inv X a3J σ H s)(y:∀ b∈l,gJ X a3J H b)
  (J:Inv (cF X scope cl s.heap.objs.size N s H l) pl K i j)(x:∀ b o,b≠s.heap.objs.size->j.heap.get? b=some o->h'.get? b=some o):Inv X a3J σ i { j with heap:=h' }:=by
 have u:Un (gI X.stack) l H i s.heap h':=by
  have h:Un (gI X.stack) l H i s.heap j.heap:=J.base
  have ne:∀ b o,s.heap.get? b=some o->b≠s.heap.objs.size:=fun b o e=>TY (TB e)
  refine ⟨fun b o e n m p=>x b o (ne b o e) (h.keep b o e n m p),fun b o e n m p=>?_,h.free,fun b o e p=>?_,h.tups,h.frzs,h.tbls⟩
  ·obtain ⟨T,q⟩:=h.slot b o e n m p
   exact ⟨T,x b _ (ne b o e) q⟩
  ·obtain ⟨R,q⟩:=h.there b o e p
   exact ⟨R,x b _ (ne b o e) q⟩
 have a:i s.heap.objs.size=none:=J.free
 have A:HOk X.prog X.w i h':=fun b v e=>by
  refine (J.hok b v e).stay (fun c w hc q=>x c w ?_ q) (fun _ q=>q) fun _ _ q=>q
  rcases hc with z|z
  ·rw [z]
   intro G
   rw [G,a] at e
   cases e
  ·intro G
   rw [G,a] at z
   cases z
 have B:j.os=s.os:=J.os
 obtain ⟨Z,g,d,t,E⟩:=j
 obtain rfl:E=s.os:=B
 have r:=Inv.call (X:=X) (a3J:=a3J) (σ:=σ) (H:=H) (s:=s) (h':=h') (g':=g) (d':=d) (t':=t) (ch:=l) I u A J.bare fun b m=>let ⟨U,L,Y,M,O,Q⟩:=y b m;⟨M,L,O,Q⟩
 exact r
end
theorem JP {prog:T3}{w:Uk}{A:Ug}{R:Z9->Th->Prop}{s:Th}{elt a iter:Expr}{ifs:List Expr}{scope:V0}{pos:Vl}{G q:Te}{env:Yi}(I:Nat->Th->Prop)
  (E:∀ n s,I n s->TX (T7 prog w) A (Zo G) (fun r d=>match r with
   | none=>R (.ok .next) d
   | some v=>TX (T7 prog w) A (Yo a G v) (fun _ e=>TX (T7 prog w) A (YX a env v) (fun _ l=>
     TX (T7 prog w) A (forIn ifs true fun c r=>if r=true then do let ok <- a0X c env (eval c env);pure (Wy ok) else pure (Wy r)) (fun ok g=>
      if ok=true then TX (T7 prog w) A (eval elt env) (fun x o=>
       TX (T7 prog w) A (call (.builtin "list.append") [q,x]) (fun _ p=>∃ m,m<n/\I m p) (fun _ _=>False) o) (fun _ _=>False) g
      else ∃ m,m<n/\I m g) (fun _ _=>False) l) (fun _ _=>False) e) (fun _ _=>False) d) (fun _ _=>False) s)
  (n:Nat)(h:I n s) :
  XC (T7 prog w) A (.compLoop (.ListComp elt [⟨a,iter,ifs,0⟩] scope pos) 0 G q env) R s:=by
 refine codeAny_loop rfl I (fun n s H=>?_) n h
 show TX _ A ((compTurn (.ListComp elt [⟨a,iter,ifs,0⟩] scope pos) 0 G q env).onRaise (fun x=>do noteFrame x env;theTreesLotGoes x)) _ _ s
 refine wpAny_noted ?_
 rw [compTurn_list]
 refine Td (a0u (Td (Uy (E n s H) (fun r d i=>?_) fun _ _ b=>b.elim)))
 cases r with
 | none=>exact Tr i
 | some v=>
  refine Td (Uy i (fun _ e u=>?_) fun _ _ b=>b.elim)
  refine Td (Uy u (fun _ l y=>Td (Uy y (fun ok g j=>?_) fun _ _ b=>b.elim)) fun _ _ b=>b.elim)
  cases ok with
  | false=>exact Tr ⟨rfl,j⟩
  | true=>
   exact Td (Td (Uy j (fun x o z=>Td (Uy z (fun _ p B=>Tr (Tr ⟨rfl,B⟩)) fun _ _ b=>b.elim)) fun _ _ b=>b.elim))
noncomputable def nL (b:Hm)(a:Nat)(y:D):Option Hm:=match b[a]? with
 | some (.lst xs)=>if xs.length<TC then some (b.set a (.lst (xs++[y]))) else none
 | _=>none
noncomputable abbrev BD:=D->Hm->Option aI
noncomputable def nM:BD:=fun d _=>some [some d]
noncomputable def Bn (k:Nat):BD:=fun d a=>(bP a d).bind fun xs=>if xs.length=k then some (xs.map some) else none
noncomputable def jU (a:Hm->Nat->Option (Option D))(h:BD)(c:MT)(e:ME)(b:aI)(g:Nat):Nat->Nat->Hm->Option Hm
 | 0,_,_=>none
 | n+1,i,μ=>(a μ i).bind fun o=>match o with
  | none=>some μ
  | some d=>(h d μ).bind fun x=>(c (b++x) μ).bind fun p=>match p.1 with
   | true=>(e (b++x) p.2).bind fun q=>(nL q.2 g q.1).bind fun j=>jU a h c e b g n (i+1) j
   | false=>jU a h c e b g n (i+1) p.2
noncomputable def dA:MT:=fun _ a=>some (true,a)
noncomputable def mF (X:Cx)(ifs:List Expr)(m:MT):Prop:=
 ∀ (a3J:List (Addr×Obj))(s:Th)(σ:St)(H:Hp)(Q:Bool->Hp->Prop),Inv X a3J σ H s->cY X.K m σ H Q->
  TX (T7 X.prog X.w) X.A (forIn ifs true fun c r=>if r=true then do let ok <- a0X c X.env (eval c X.env);pure (Wy ok) else pure (Wy r)) (TP X a3J σ Q) X.xe s
theorem JQ {X:Cx}:mF X [] dA:=by
 intro a s j H Q I h
 obtain ⟨e,i,g,b,d,R,E,c,k⟩:=h
 cases c
 exact wpAny_tests_nil ⟨H,I,k e H .refl R⟩
theorem JR {X:Cx}{c:Expr}{m:MT}(h:PT X c (cY X.K m)):mF X [c] m:=fun a3J s σ H Q I q=>wpAny_tests_one (h a3J s σ H Q I q)
end L3
namespace L3
open PySem L2
section
variable {prog:T3}{w:Uk}{A:Ug}{E:Te->Th->Prop}{s:Th}
theorem Bo {g t:Addr}{a:Array Te}(j:t≠g):∀ (n i:Nat)(s:Th)(Q:List Te->Th->Prop),s.heap.IsListIter g t i->s.heap.IsList t a->i+n<=a.size->
  (∀ m,m.IsListIter g t (i+n)->VP g s.heap m->Q ((a.toList.drop i).take n) { s with heap:=m })->TX (T7 prog w) A (draw (.ref g) n) Q E s
 | 0,i,s,Q,hit,_,_,hQ=>by
  show TX _ _ (pure []) Q E s
  exact Tr (by simpa using hQ s.heap hit (a3g ..))
 | n+1,i,s,Q,hit,ht,hle,hQ=>by
  have h:i<a.size:=by omega
  show TX _ _ (Zo (.ref g) >>= _) Q E s
  refine Td (a0P hit ht (x:=a[i]) (by simp [h]) fun o c b=>?_)
  refine Td (U6 (Bo j n (i+1) _ _ c (ht.extBut b.extBut j) (by omega) fun l d e=>Tr ?_))
  have hd:a.toList.drop i=a[i]::a.toList.drop (i+1):=by simp [Zv,h]
  have:=hQ l (by rw [show i+(n+1)=i+1+n by omega];exact d) (b.trans e)
  rw [hd,List.take_succ_cons] at this
  exact this
theorem JS {t:Addr}{a:Array Te}{Q:List Te->Th->Prop}(u:A.handled=none)(l:s.heap.IsList t a)
  (r:∀ p,Y1 s.heap.objs.size s.heap p->Q a.toList { s with heap:=p }):TX (T7 prog w) A (unpackItems (.ref t) a.size none) Q E s:=by
 have j:t≠s.heap.objs.size:=by obtain ⟨o,v,_⟩:=l;exact TY (TB v)
 unfold unpackItems
 refine Td ?_
 ·unfold notIterableAtAll
  refine Td (WO l.typeIs slot_list_iter.lookup ?_)
  refine Tr ?_
  simp only [Tw,if_false]
  refine Td (U6 (XW l ?_))
  refine Td (U6 (Bo j a.size 0 _ _ ⟨_,TJ _ rfl,rfl,rfl⟩ (l.push _) (by omega) fun m d c=>?_))
  have i:List.take a.size (List.drop 0 a.toList)=a.toList:=by
   rw [a1Q];exact XY (by simp)
  rw [i]
  rw [if_neg (by simp)]
  have h:m.IsList t a:=(l.push _).extBut c.extBut j
  refine Td (U6 (a1r u d h (by simp) fun n g=>?_))
  simp only [Option.isSome_none,Tw,if_false]
  refine Tr (r n fun b o q e=>g b o q (c.extBut b o q (Ti _ e)))
theorem JT {env:Yi}{b:List Expr} {x1} {pos:Vl}{t:Addr}{a:Array Te}{Q:Unit->Th->Prop}(e:A.handled=none)(i:s.heap.IsList t a)
  (g:(VQ b env).length=a.size)(c:(VQ b env).findIdx? (·.1)=none)
  (h:∀ d,Y1 s.heap.objs.size s.heap d->TX (T7 prog w) A (assignInOrder ((VQ b env).map (·.2)) a.toList) Q E { s with heap:=d }) :
  TX (T7 prog w) A (YX (.Tuple b x1 pos) env (.ref t)) Q E s:=by
 rw [a3e]
 refine Td (a0u ?_)
 unfold unpack
 rw [g,c]
 exact Td (U6 (JS e i h))
end
noncomputable def iJ:aI->List Nat->List D->aI
 | ρ,i::is,x::xs=>iJ (ρ.set i (some x)) is xs
 | ρ,_,_=>ρ
noncomputable def dM (a:List Nat):MG:=fun d c b=>(bP b d).bind fun xs=>if xs.length=a.length then some (iJ c a xs) else none
noncomputable def rM:List Nat->m8
 | []=>z7
 | i::r=>z8 (uI i) (rM r)
theorem vY {K:Ta}{π:Nat->Addr}{n:Nat}{H:Hp}:∀ (a:List Nat){vs:List V}{xs:List D}{σ:St}{c:aI}{Q:St->Hp->Prop},IsDs K π n H vs xs->En K π n H σ c->xs.length=a.length->(∀ b,En K π n H b (iJ c a xs)->Q b H)->rM a vs σ H Q
 | [],vs,xs,σ,c,Q,h,E,hl,k=>by
  cases h with
  | nil=>exact ⟨rfl,k σ E⟩
  | cons h t=>cases hl
 | i::a,vs,xs,σ,c,Q,h,E,hl,k=>by
  cases h with
  | nil=>cases hl
  | cons h t=>exact ⟨_,_,rfl,vY a t (E.set h i) (by simpa using hl) k⟩
section
variable {X:Cx}{pos:Vl}
theorem JU {x:List Expr}{k:Nat}{l:List Nat}(hc:X.calm=true)(h:oY X x (rM l))(M:(VQ x X.env).length=l.length:=by rfl)(p:(VQ x X.env).findIdx? (·.1)=none:=by rfl) :
  PG X (.Tuple x k pos) (eV X.K (dM l)):=by
 intro i s z H v u Q I r hw
 obtain ⟨T,ρ,O,d,ρ',R,E,hd,Z,N⟩:=hw
 obtain ⟨L,j,G⟩:=S9.mp Z
 split at G
 ·rename_i y
  cases G
  have n:(∃ a g,v=.ref a/\SqT X.K H a g/\IsDs X.K T O.length H g L)\/(∃ a g,v=.ref a/\SqL X.K H a g/\IsDs X.K T O.length H g L):=by
   cases hd with
   | tup q t=>cases j;exact .inl ⟨_,_,rfl,q,t⟩
   | rol q t=>cases j;exact .inr ⟨_,_,rfl,q.sq,t⟩
   | @loc a ha=>
    simp only [bP] at j
    split at j
    ·rename_i ys hy
     cases j
     obtain ⟨g,U,Y⟩:=R.lst a L hy
     exact .inr ⟨_,g,rfl,.of U,Y⟩
    ·cases j
   | _=>cases j
  rcases n with ⟨a,g,rfl,q,t⟩|⟨a,g,rfl,q,t⟩
  ·cases r
   obtain ⟨m,w,J,hz⟩:=I.tuple q
   have c:m.length=l.length:=by rw [<- w.length,t.length];exact y
   refine a3d (I.ok.hd hc) J (by simp [M,c]) p fun B K=>?_
   have A:Inv X i z H { s with heap:=B }:=I.kept (t':=s.toks) fun b o e=>K b o (TY (TB e)) e
   exact h i _ z H g _ Q A (by simpa using w) (vY l t E y N)
  ·cases r
   obtain ⟨m,w,J,hz⟩:=I.list q
   have c:m.length=l.length:=by rw [<- w.length,t.length];exact y
   refine JT (I.ok.hd hc) J.isList (by simp [M,c]) p fun B K=>?_
   have A:Inv X i z H { s with heap:=B }:=I.kept (t':=s.toks) fun b o e=>K b o (TY (TB e)) e
   exact h i _ z H g _ Q A (by simpa using w) (vY l t E y N)
 ·cases G
noncomputable def iK (m:ME)(g:MG):MS:=fun b c=>(m b c).bind fun p=>(g p.1 b p.2).map fun a=>(.nx,a,p.2)
theorem JV {tg e:Expr}{m:ME}{g:MG}(r:PE X e (tM X.K m))(s:PG X tg (eV X.K g))(u:swapsWithSole [tg] e pos.line X.env=pure false:=by rfl)(hw:a0x [tg] e X.env=pure none:=by rfl)
  (c:(VQ [tg] X.env).map (·.2)=[YX tg X.env]:=by rfl):PS X (.Assign [tg] e pos) (c5 X.K (iK m g)):=iW (Gv r s u hw c) (by
 rintro E J H ⟨z,n,w,G,A,y,R,i,a,k⟩
 obtain ⟨⟨x,d⟩,c,a⟩:=S9.mp a
 obtain ⟨B,q,a⟩:=Tg.mp a
 cases a
 exact ⟨z,n,w,x,d,R,i,c,fun b I p l j v=>⟨b,n,_,x,_,j,i.mono l,v,q,fun h o=>k b h p l j o⟩⟩)
end
section
variable {X:Cx}{K:Ta}
noncomputable def pI:MF:=fun ds a=>match ds with
 | [.str z]=>if z.length<=TC then some (.int z.length,a) else none
 | [x]=>(bP a x).map fun b=>(.int b.length,a)
 | _=>none
noncomputable def vZ (K:Ta):List V->Hp->VK->Prop:=fun xs H Q=>(∃ p a,xs=[.ref p]/\(SqL K H p a\/SqT K H p a)/\Q (.int a.length) H)\/(∃ z,xs=[.str z]/\z.length<=TC/\Q (.int z.length) H)
theorem call_lenM:CallR X (.builtin "len") (vZ X.K):=call_len_seq.or HW
theorem rN {π:Nat->Addr}{b:Hm}{H:Hp}{v:V}{x:D}{xs:List D}(R:Rp K π H b)(h:IsD K π b.length H v x)(e:bP b x=some xs):∃ p vs,v=.ref p/\(SqL K H p vs\/SqT K H p vs)/\IsDs K π b.length H vs xs:=by
 cases h with
 | tup q t=>cases e;exact ⟨_,_,rfl,.inr q,t⟩
 | rol q t=>cases e;exact ⟨_,_,rfl,.inl q.sq,t⟩
 | @loc a i=>
  simp only [bP] at e
  split at e
  ·rename_i j g
   cases e
   obtain ⟨vs,c,d⟩:=R.lst a xs g
   exact ⟨_,vs,rfl,.inl (.of c),d⟩
  ·cases e
 | _=>cases e
theorem Bp:cP K pI (vZ K):=by
 intro b H o m d j l Q R i a k
 unfold pI at a
 split at a
 ·split at a
  ·rename_i g
   cases a
   cases i with
   | cons i t=>cases i;cases t;exact .inr ⟨_,rfl,g,k b _ H .refl R (.int _)⟩
  ·cases a
 ·obtain ⟨n,c,e⟩:=Tg.mp a
  cases e
  cases i with
  | cons i t=>
   cases t
   obtain ⟨p,h,rfl,q,hd⟩:=rN R i c
   refine .inl ⟨p,h,rfl,q,?_⟩
   rw [hd.length]
   exact k b _ H .refl R (.int _)
 ·cases a
noncomputable def pJ:MF:=fun ds a=>match ds with
 | [x]=>(bP a x).map fun b=>(.loc a.length,a++[.lst b])
 | _=>none
theorem Bq:cP K pJ (fun xs H Q=>∃ p a,xs=[.ref p]/\(SqL K H p a\/SqT K H p a)/\∀ l,H l=none->Q (.ref l) (aO H l (.lst a))):=by
 intro r H o xs d m n Q R i b k
 unfold pJ at b
 split at b
 ·obtain ⟨a,g,h⟩:=Tg.mp b
  cases h
  cases i with
  | cons i t=>
   cases t
   obtain ⟨p,c,rfl,q,hd⟩:=rN R i g
   refine ⟨p,c,rfl,q,fun l j=>?_⟩
   obtain ⟨e,R2,_⟩:=R.alloc (c:=.lst a) (o:=.lst c) j hd
   exact k _ _ _ e R2 iG
 ·cases b
noncomputable def Br (K:Ta):List V->Hp->VK->Prop:=fun vs H Q=>∃ π a x v t c b,vs=[v,.ty c]/\Rp K π H a/\IsD K π a.length H v x/\vX a x=some t/\rL t c=some b/\Q (.bl b) H
theorem JW:cP K i7 (Br K):=by
 intro c H p o d m n Q R i a k
 unfold i7 at a
 split at a
 ·obtain ⟨t,e,a⟩:=S9.mp a
  obtain ⟨b,g,a⟩:=Tg.mp a
  cases a
  cases i with
  | cons i j=>
   cases j with
   | cons h l=>
    cases l
    cases h
    exact ⟨c,_,_,_,t,_,b,rfl,R,i,e,g,k c _ H .refl R (.bl _)⟩
 ·cases a
theorem JZ:CallR X (.builtin "isinstance") (Br X.K):=by
 intro J s σ H O us Q I r h
 obtain ⟨M,μ,x,v,t,c,b,rfl,R,i,d,l,q⟩:=h
 obtain ⟨u,u2,rfl,w,Y⟩:=uT r
 cases Y
 have aS:∀ L,EP X J σ Q (.bool b) { s with toks:=L }:=fun L=>⟨.bl b,H,I.tok L,rfl,q⟩
 cases i with
 | non=>cases d;cases w;exact VF PySem.W.kitx_none I.kIn V9 (jS X.K (by simp) l) (fun z=>nomatch z) aS
 | bl y=>cases d;cases w;exact VF PySem.W.kitx_bool I.kIn V9 (jS X.K (by simp) l) (fun z=>nomatch z) aS
 | int y=>cases d;obtain ⟨t,rfl⟩:=w;exact VF PySem.W.kitx_int I.kIn V9 (jS X.K (by simp) l) (fun z=>nomatch z) aS
 | str y=>cases d;obtain ⟨t,rfl⟩:=w;exact VF PySem.W.kitx_str I.kIn V9 (jS X.K (by simp) l) (fun z=>nomatch z) aS
 | tup g t=>
  cases d
  cases w
  obtain ⟨E,N,p,_⟩:=I.tuple g
  obtain ⟨o,e,j,_⟩:=p
  exact VF PySem.W.kitx_tuple I.kIn ⟨o,e,j⟩ (jS X.K (by simp) l) (fun z=>nomatch z) aS
 | rol g t=>
  cases d
  cases w
  obtain ⟨E,N,p,_⟩:=I.list g.sq
  obtain ⟨o,e,j,_⟩:=p.isList
  exact VF a0j I.kIn ⟨o,e,j⟩ (jS X.K (by simp) l) (fun z=>nomatch z) aS
 | @loc a ha=>
  cases w
  simp only [vX] at d
  split at d
  ·rename_i O B
   cases d
   obtain ⟨G,A,h4⟩:=R.lst a O B
   obtain ⟨E,N,p,_⟩:=I.list (SqL.of (K:=X.K) A)
   obtain ⟨o,e,j,_⟩:=p.isList
   exact VF a0j I.kIn ⟨o,e,j⟩ (jS X.K (by simp) l) (fun z=>nomatch z) aS
  ·rename_i m B
   cases d
   obtain ⟨G,A,_⟩:=R.dK a m B
   obtain ⟨_,_,Z,_,p⟩:=(show ObjOk X.prog X.w H s.heap (M a) (.dK G) from I.hok _ _ A)
   obtain ⟨o,U,T,e,j,_⟩:=p
   exact VF a0k I.kIn ⟨o,e,j.1⟩ (jS X.K (by simp) l) (fun z=>nomatch z) aS
  ·rename_i m B
   cases d
   obtain ⟨G,A,_⟩:=R.dT a m B
   obtain ⟨⟨Z,_,_,_,o,U,T,e,j,_⟩,_⟩:=(show ObjOk X.prog X.w H s.heap (M a) (aY (M a) G) from I.hok _ _ A)
   exact VF a0k I.kIn ⟨o,e,j.1⟩ (jS X.K (by simp) l) (fun z=>nomatch z) aS
  ·cases d
 | ty n=>cases d
end
noncomputable def v5 (a:List (aN×D))(k:aN)(d:D):List (aN×D):=
 if (a.any fun b=>decide (b.1=k))=true then a.map (fun b=>if b.1=k then (b.1,d) else b) else a++[(k,d)]
noncomputable def J7 (b more:List (aN×D)):List (aN×D):=more.foldl (fun a c=>v5 a c.1 c.2) b
noncomputable def nN (a:List (aN×D))(k:aN):Option D:=(a.find? fun b=>decide (b.1=k)).map (·.2)
inductive IsKs (K:Ta)(π:Nat->Addr)(n:Nat)(H:Hp):List (aN×V)->List (aN×D)->Prop where
 | nil:IsKs K π n H [] []
 | cons {k:aN}{v:V}{d:D}{vs:List (aN×V)}{ds:List (aN×D)}(h:IsD K π n H v d)(t:IsKs K π n H vs ds):IsKs K π n H ((k,v)::vs) ((k,d)::ds)
section
variable {K:Ta}{π π':Nat->Addr}{n n':Nat}{H H':Hp}
theorem IsKs.mono {vs:List (aN×V)}{ds:List (aN×D)}(e:Ext π n H π' n' H')(h:IsKs K π n H vs ds):IsKs K π' n' H' vs ds:=by
 induction h with
 | nil=>exact .nil
 | cons h t a=>exact .cons (h.mono e) a
theorem IsKs.of:∀ {vs:List (aN×V)}{ds:List (aN×D)},vs.map (·.1)=ds.map (·.1)->IsDs K π n H (vs.map (·.2)) (ds.map (·.2))->IsKs K π n H vs ds
 | [],[],_,_=>.nil
 | [],_::_,h,_=>by cases h
 | _::_,[],h,_=>by cases h
 | (k,v)::vs,(k',d)::ds,h,t=>by
  rw [Tq,Tq] at h t
  injection h with h1 h2
  dsimp only at h1
  subst h1
  cases t with
  | cons a b=>exact .cons a (IsKs.of h2 b)
theorem IsKs.append {vs ws:List (aN×V)}{ds a:List (aN×D)}(h:IsKs K π n H vs ds)(b:IsKs K π n H ws a):IsKs K π n H (vs++ws) (ds++a):=by
 induction h with
 | nil=>exact b
 | cons h t c=>exact .cons h c
theorem IsKs.any {vs:List (aN×V)}{ds:List (aN×D)}(h:IsKs K π n H vs ds)(k:aN):(vs.any fun a=>decide (a.1=k))=ds.any fun a=>decide (a.1=k):=by
 induction h with
 | nil=>rfl
 | cons h t b=>rw [V2,V2,b]
theorem IsKs.repl {vs:List (aN×V)}{ds:List (aN×D)}(h:IsKs K π n H vs ds){v:V}{d:D}(c:IsD K π n H v d)(k:aN):IsKs K π n H (vs.map fun a=>if a.1=k then (a.1,v) else a) (ds.map fun a=>if a.1=k then (a.1,d) else a):=by
 induction h with
 | nil=>exact .nil
 | @cons g j i vs ds h t b=>
  rw [Tq,Tq]
  by_cases e:g=k
  ·simp only [e,if_true]
   exact .cons c b
  ·simp only [e,if_false]
   exact .cons h b
theorem IsKs.put {vs:List (aN×V)}{ds:List (aN×D)}(h:IsKs K π n H vs ds){v:V}{d:D}(a:IsD K π n H v d)(k:aN):IsKs K π n H (gO vs k v) (v5 ds k d):=by
 unfold gO v5
 rw [h.any k]
 split
 ·exact h.repl a k
 ·exact h.append (.cons a .nil)
theorem IsKs.merge {ws:List (aN×V)}{a:List (aN×D)}(b:IsKs K π n H ws a):∀ {vs:List (aN×V)}{ds:List (aN×D)},IsKs K π n H vs ds->IsKs K π n H (Ay vs ws) (J7 ds a):=by
 induction b with
 | nil=>exact fun h=>h
 | cons h t d=>exact fun c=>d (c.put h _)
theorem IsKs.val {vs:List (aN×V)}{ds:List (aN×D)}(h:IsKs K π n H vs ds)(k:aN):(nN ds k=none/\dX vs k=none)\/∃ v d,nN ds k=some d/\dX vs k=some v/\IsD K π n H v d:=by
 induction h with
 | nil=>exact .inl ⟨rfl,rfl⟩
 | @cons a c b vs ds h t j=>
  by_cases e:a=k
  ·exact .inr ⟨c,b,by simp [nN,UL,e],by simp [dX,UL,e],h⟩
  ·have g:nN ((a,b)::ds) k=nN ds k:=by simp [nN,UL,e]
   have i:dX ((a,c)::vs) k=dX vs k:=by simp [dX,UL,e]
   rw [g,i]
   exact j
theorem IsKs.length {vs:List (aN×V)}{ds:List (aN×D)}(h:IsKs K π n H vs ds):vs.length=ds.length:=by
 induction h with
 | nil=>rfl
 | cons h t a=>rw [T6,T6,a]
end
noncomputable def J8 (K:Ta)(a:List (ME×ME)):List (TE×TE):=a.map fun p=>(tM K p.1,tM K p.2)
section
variable {X:Cx}{a b c:Expr}{ma mb mc:ME}{pos:Vl}
end
theorem kY {k:Nat}{A:Ug}(r:Room k A):A.units+1<VS:=by have:=r.un;omega
noncomputable def c6 (a:ME):ME:=fun c b=>(a c b).bind fun p=>(vO p.1).map fun d=>(d,p.2)
end L3
namespace L3
open PySem L2
noncomputable def fG (cells:List (Str×Addr)):List (Str×V4)->List (Str×Addr)->List (Str×Addr)
 | [],acc=>acc
 | (n,k)::r,acc=>if k=.free then (match cells.lookup n with|some c=>fG cells r ((n,c)::acc)|none=>fG cells r acc) else fG cells r acc
theorem Bs {env:Yi}:∀ (names:List (Str×V4))(a:List (Str×Addr)),(∀ y∈names,y.2=.free->∃ c,env.cells.lookup y.1=some c)->
  (forIn names a fun (x:Str×V4)(d:List (Str×Addr))=>(do
   if x.2 == .free then (do let c <- cellOf env x.1;pure (Wy ((x.1,c)::d))) else pure (Wy d):a1a (ForInStep (List (Str×Addr)))))=pure (fG env.cells names a)
 | [],a,_=>rfl
 | (n,k)::r,a,h=>by
  have g:=fun a=>Bs r a fun y i=>h y (Ua _ i)
  rw [List.forIn_cons]
  by_cases b:k=.free
  ·subst b
   obtain ⟨c,hc⟩:=h (n,.free) (Um ..) rfl
   dsimp only at hc
   have e:cellOf env n=pure c:=by unfold cellOf;rw [hc]
   simp only [fG,hc,e,beq_self_eq_true,if_true,pure_bind]
   exact g _
  ·have e:(k == VJ)=false:=by simpa using b
   simp only [fG,e,b,if_false,Tw,pure_bind]
   exact g _
theorem Ka {scope:V0}{env:Yi}(h:∀ y∈scope.names,y.2=.free->∃ c,env.cells.lookup y.1=some c):a1Z scope env=pure (fG env.cells scope.names []):=by
 have:=Bs (env:=env) scope.names [] h
 unfold a1Z
 simp only [bind_pure] at *
 exact this
theorem rO {cells:List (Str×Addr)}:∀ (names:List (Str×V4))(a:List (Str×Addr)),(∀ y c,a.lookup y=some c->cells.lookup y=some c)->∀ y c,(fG cells names a).lookup y=some c->cells.lookup y=some c
 | [],a,h=>h
 | (n,k)::r,a,h=>by
  unfold fG
  split
  ·split
   ·rename_i d hc
    refine rO r _ fun y c e=>?_
    rw [W4] at e
    by_cases b:y=n
    ·subst b
     simp only [beq_self_eq_true] at e
     cases e
     exact hc
    ·have:(y == n)=false:=by simpa using b
     rw [this] at e
     exact h y c e
   ·exact rO r a h
  ·exact rO r a h
theorem rP {cells:List (Str×Addr)}:∀ (names:List (Str×V4))(a:List (Str×Addr))(y:Str),(∃ c,a.lookup y=some c)->∃ c,(fG cells names a).lookup y=some c
 | [],a,y,h=>h
 | (n,k)::r,a,y,h=>by
  unfold fG
  split
  ·split
   ·refine rP r _ y ?_
    rw [W4]
    by_cases b:(y == n)=true
    ·rw [b];exact ⟨_,rfl⟩
    ·have:(y == n)=false:=by simpa using b
     rw [this]
     exact h
   ·exact rP r a y h
  ·exact rP r a y h
theorem rQ {cells:List (Str×Addr)}:∀ (names:List (Str×V4))(a:List (Str×Addr))(y:Str),(y,VJ)∈names->(∃ c,cells.lookup y=some c)->∃ c,(fG cells names a).lookup y=some c
 | [],a,y,h,_=>by cases h
 | (n,k)::r,a,y,h,hc=>by
  unfold fG
  rcases T1.mp h with h|h
  ·cases h
   obtain ⟨c,hc⟩:=hc
   rw [if_pos rfl,hc]
   exact rP r _ _ ⟨c,by simp [W4]⟩
  ·split
   ·split
    ·exact rQ r _ y h hc
    ·exact rQ r _ y h hc
   ·exact rQ r _ y h hc
structure CompSt (osc:V0)(N:List Str)(scope:V0)(xs:List Str):Prop where
 nocell:∀ y∈scope.names,y.2≠.cell
 kind:scope.kind=.function
 names:∀ y∈scope.names,y.2=.local->scope.names.lookup y.1=some .local
 here:∀ x∈xs,scope.names.lookup x=some .local
 free:∀ y∈scope.names,y.2=.free->osc.names.lookup y.1=some .cell\/osc.names.lookup y.1=some .free
 own:∀ y∈scope.names,y.2=.local->y.1∉bF xs N
 nd:N.Nodup
 hnd:(bF xs N).Nodup
 hidn:∀ y∈N,xs.contains y=true->scope.names.lookup (nK y)=none
theorem CompSt.ok {X:Cx}{scope:V0}{xs:List Str}(S:CompSt X.env.scope X.N scope xs)(ok:X.Ok):CompOk X scope (fG X.env.cells scope.names []) xs:=by
 have has:∀ y∈scope.names,y.2=.free->∃ c,X.env.cells.lookup y.1=some c:=fun y d b=>ok.has y.1 (S.free y d b)
 refine ⟨Ka has,S.nocell,S.kind,S.names,S.here,rO scope.names [] (fun y c e=>by cases e),fun y e=>?_,fun y e=>?_,S.hidn⟩
 ·have a:=U0 e
  exact ⟨S.free _ a rfl,rQ scope.names [] y a (has _ a rfl)⟩
 ·exact S.own _ (U0 e) rfl
end L3
namespace L3
open PySem L2
section
variable {X:Cx}{pos:Vl}
end
end L3
namespace L3
open PySem L2
noncomputable def dN (e:Expr):Bool:=!(e.ctorIdx == 22)
theorem eF {e:Expr}{a:List Expr}{env:Yi}(h:dN e=true):T8 (e::a) env=(false,eval e env)::T8 a env:=by
 cases e<;>first|rfl|cases h
theorem gW {pos:Vl}{env:Yi}:∀ {a:List Expr},a.all dN=true->(Vv pos (T8 a env)).any (·.1)=false
 | [],_=>rfl
 | e::a,h=>by
  rw [Ur,To] at h
  rw [eF h.1]
  have:=gW (pos:=pos) (env:=env) h.2
  simpa [Vv] using this
theorem rR {e:Expr}{a:List Expr}{env:Yi}(h:dN e=true):VQ (e::a) env=(false,YX e env)::VQ a env:=by
 cases e<;>first|rfl|cases h
theorem Bt {env:Yi}:∀ {a:List Expr},a.all dN=true->(VQ a env).length=a.length
 | [],_=>rfl
 | e::a,h=>by
  rw [Ur,To] at h
  rw [rR h.1,T6,T6,Bt h.2]
theorem Bu {env:Yi}:∀ {a:List Expr},a.all dN=true->(VQ a env).findIdx? (·.1)=none
 | [],_=>rfl
 | e::a,h=>by
  rw [Ur,To] at h
  rw [rR h.1,List.findIdx?_cons,Bu h.2]
  rfl
section
variable {X:Cx}{e a b c:Expr}{es:List Expr}{m:ME}{ms:MA}{pos:Vl}
end
end L3
namespace L3
open PySem L2
structure QE (X:Cx)(e:Expr)(m:ME):Prop where
 h:PE X e (tM X.K m)
structure QT (X:Cx)(e:Expr)(m:MT):Prop where
 h:PT X e (cY X.K m)
structure QW (X:Cx)(e:Expr)(m:MT):Prop where
 h:PW X e (cY X.K m)
structure QA (X:Cx)(es:List Expr)(m:MA)(n:Nat):Prop where
 h:PA X es (dY X.K m)
 l:∀ ρ μ ds μ',m ρ μ=some (ds,μ')->ds.length=n
 s:es.all dN=true
structure QO (X:Cx)(e:Option Expr)(m:MO):Prop where
 h:PO X e (pH X.K m)
structure QS (X:Cx)(st:Stmt)(m:MS):Prop where
 h:PS X st (c5 X.K m)
structure QB (X:Cx)(st:List Stmt)(m:MS):Prop where
 h:PSs X st (c5 X.K m)
structure QG (X:Cx)(e:Expr)(g:MG):Prop where
 h:PG X e (eV X.K g)
structure QGs (X:Cx)(es:List Expr)(is:List Nat):Prop where
 h:oY X es (rM is)
 n:es.length=is.length
 s:es.all dN=true
structure QI (X:Cx)(ifs:List Expr)(m:MT):Prop where
 h:mF X ifs m
structure QP (X:Cx)(pos:Vl)(keys:List (Option Expr))(values:List Expr)(prs:List (ME×ME)):Prop where
 h:HE X pos keys values (J8 X.K prs)
 a:keys.all (·.isSome)=true
 l:keys.length=values.length
section
variable {X:Cx}{e a b c:Expr}{m ma mb mc:ME}{pos:Vl}{mt mu:MT}{bU es:List Expr}{ms:MA}{n:Nat}
theorem Kb {x:Str}(i:Nat)(g:X.N[i]? = some x:=by rfl)(h:m7 X.env.scope x:=by first|exact a1v rfl|exact a0m (a1v rfl)|exact a0m (a0m rfl))(hd:(x == ("__debug__":Str))=false:=by decide)
  (d:(x == ("__classdict__":Str))=false:=by decide):QE X (.Name x pos) (aA i):=⟨IB i (FH g h hd d)⟩
theorem Kc {i:Int}{j:Nat}:QE X (.Constant (.int i) j pos) (mC (.int i)):=⟨IC⟩
theorem Kd {i:Bool}{j:Nat}:QE X (.Constant (.bool i) j pos) (mC (.bl i)):=⟨ID⟩
theorem Ke {i:Str}{j:Nat}:QE X (.Constant (.str i) j pos) (mC (.str i)):=⟨IE⟩
theorem Kf {j:Nat}:QE X (.Constant .none j pos) (mC .non):=⟨IF⟩
theorem nO {op:a0a}{r:R2}{f:D->D->Hm->Option (D×Hm)}(i:OpR X (WC op) r)(h:cH X.K f r)(d:QE X a ma)(g:QE X b mb):QE X (.BinOp a op b pos) (aB f ma mb):=⟨IG i h d.h g.h⟩
theorem Kg (d:QE X a ma)(g:QE X b mb):QE X (.BinOp a .Add b pos) (aB bK ma mb):=nO JG JH d g
theorem Kh (d:QE X a ma)(g:QE X b mb):QE X (.BinOp a .Sub b pos) (aB cQ ma mb):=nO GO Jz d g
theorem Ki (d:QE X a ma)(g:QE X b mb):QE X (.BinOp a .Mult b pos) (aB bX ma mb):=nO Jw JB d g
theorem Kj (d:QE X a ma)(g:QE X b mb):QE X (.BinOp a .FloorDiv b pos) (aB dS ma mb):=nO Jx JC d g
theorem Kk (d:QE X a ma)(g:QE X b mb):QE X (.BinOp a .Mod b pos) (aB bJ ma mb):=nO GP JD d g
theorem Kl (d:QE X a ma)(g:QE X b mb):QE X (.BinOp a .Pow b pos) (aB gT ma mb):=nO Jy JE d g
theorem Km (d:QE X a ma):QE X (.UnaryOp .USub a pos) (c6 ma):=⟨JI d.h⟩
theorem Kn (d:QE X a ma):QE X (.UnaryOp .Not a pos) (nF ma):=⟨IS d.h⟩
theorem Ko {k:Nat}(h:Room k X.A)(d:QE X a ma)(g:QE X b mb):QE X (.Compare a [.Eq] [b] pos) (aB (a8 false) ma mb):=⟨dZ (Bh (rK h)) rJ d.h g.h (cT _)⟩
theorem Kp {k:Nat}(h:Room k X.A)(d:QE X a ma)(g:QE X b mb):QE X (.Compare a [.NotEq] [b] pos) (aB (a8 true) ma mb):=⟨dZ (Bi (rK h)) rJ d.h g.h (cT _)⟩
theorem Kq (d:QE X a ma)(g:QE X b mb):QE X (.Compare a [.Lt] [b] pos) (aB nJ ma mb):=⟨dZ uN gU d.h g.h (cT _)⟩
theorem Kr (d:QE X a ma)(g:QE X b mb):QE X (.Compare a [.LtE] [b] pos) (aB kW ma mb):=⟨dZ uO gU d.h g.h (cT _)⟩
theorem Ks (d:QE X a ma)(g:QE X b mb):QE X (.Compare a [.Gt] [b] pos) (aB kX ma mb):=⟨dZ uP gU d.h g.h (cT _)⟩
theorem Kt (d:QE X a ma)(g:QE X b mb):QE X (.Compare a [.GtE] [b] pos) (aB vU ma mb):=⟨dZ uQ gU d.h g.h (cT _)⟩
noncomputable def eW (e:Expr):Bool:=!(e.ctorIdx == 7)
theorem gX {op:WN}{b:Expr}(h:eW b=true):Wo op b=false:=by
 cases b<;>first|rfl|cases h
theorem Ku {op:BoolOp}(h:QE X a m):QE X (.BoolOp op [a] pos) m:=⟨IM h.h⟩
theorem Kv (d:QE X a ma)(g:QE X (.BoolOp .And (b::bU) pos) mb):QE X (.BoolOp .And (a::b::bU) pos) (iY ma mb):=⟨IP d.h g.h⟩
theorem Kw (d:QE X a ma)(g:QE X (.BoolOp .Or (b::bU) pos) mb):QE X (.BoolOp .Or (a::b::bU) pos) (vB ma mb):=⟨IQ d.h g.h⟩
theorem Ky (hc:QT X c mt)(d:QE X a ma)(g:QE X b mb):QE X (.IfExp c a b pos) (gQ mt ma mb):=⟨IT hc.h d.h g.h⟩
theorem Kz:QA X [] aD 0:=⟨IU,A2,rfl⟩
theorem KA (g:QE X e m)(d:QA X es ms n)(h:dN e=true:=by rfl):QA X (e::es) (aC m ms) (n+1):=⟨IV g.h d.h (eF h),IZ d.l,by rw [Ur,h,d.s];rfl⟩
theorem KG {d:Nat}(h:QA X es ms n):QE X (.Tuple es d pos) (bW ms):=⟨IW h.h⟩
theorem KH (h:QA X es ms n):QE X (.List es pos) (cU ms):=⟨IX h.h⟩
noncomputable def nP (e:Expr):Bool:=!(e.ctorIdx == 26)
theorem Bv {b:Expr}(h:nP b=true):u5 b:=by
 intro o i
 cases b<;>first|rfl|cases h
theorem KI (d:QE X a ma)(g:QE X b mb)(h:nP b=true:=by rfl):QE X (.Subscript a b pos) (aB fE ma mb):=⟨Je d.h g.h (Bv h)⟩
theorem KJ:QO X none gR:=⟨Jf⟩
theorem KL (h:QE X e m):QO X (some e) (i0 m):=⟨Jg h.h⟩
theorem KN {lo d:Option Expr}{h g:MO}{o:Vl}(i:QE X a ma)(j:QO X lo h)(l:QO X d g):QE X (.Subscript a (.Slice lo d none o) pos) (mB ma h g):=⟨Ji i.h j.h l.h⟩
theorem KO {k:Nat}{f:Addr}{i:Vo}{ps:List Str}{j:MF}{x:Str}{p:Vl}(F:FnOk X.prog X.w X.K X.mg X.base dI k f i ps (dJ X.K n j))(s:Room k X.A)(r:X.mg x=some (.ref f))
  (q:Va X.K (.ref f)=true)(l:Binds X.K i ps [])(d:QA X (e::es) ms n)(o:Gl X x:=by rfl)(g:(x == ("__debug__":Str))=false:=by decide):QE X (.Call (.Name x p) (e::es) [] pos) (aG j ms):=by
 have h:=d.s
 rw [Ur,To] at h
 exact ⟨Ja F s o r q l d.h d.l g (eF h.1) (gW h.2)⟩
theorem Bw {f:MF}{r:List V->Hp->VK->Prop}{id:String}{x:Str}{p:Vl}(hc:CallR X (.builtin id) r)(i:cP X.K f r)(l:X.mg x=none)(q:Vh x=some (.builtin id))(h:QA X (e::es) ms n)
  (j:Gl X x:=by rfl)(o:x ≠ "__name__":=by decide) (d:(x == ("__debug__":Str))=false:=by decide):QE X (.Call (.Name x p) (e::es) [] pos) (aG f ms):=by
 have g:=h.s
 rw [Ur,To] at g
 exact ⟨Jb hc i j l q h.h o d (eF g.1) (gW g.2)⟩
theorem v7 {f:MF}{r:List V->Hp->VK->Prop}{T:String}{x:Str}{p:Vl}(hc:CallR X (.type T) r)(i:cP X.K f r)(l:X.mg x=none)(q:Vh x=some (.type T))(h:QA X (e::es) ms n)
  (j:Gl X x:=by rfl)(o:x ≠ "__name__":=by decide) (d:(x == ("__debug__":Str))=false:=by decide):QE X (.Call (.Name x p) (e::es) [] pos) (aG f ms):=by
 have g:=h.s
 rw [Ur,To] at g
 exact ⟨Jc hc i j l q h.h o d (eF g.1) (gW g.2)⟩
theorem KP {x:Str}{n:String}(g:X.mg x=none)(i:Vh x=some (.type n))(d:Gl X x:=by rfl)(h:x ≠ "__name__":=by decide) (hd:(x == ("__debug__":Str))=false:=by decide):QE X (.Name x pos) (mC (.ty n)):=⟨JJ d g i h hd⟩
theorem KQ {k:Nat}(h:Room k X.A)(d:QE X a ma)(g:QE X b mb):QT X (.Compare a [.Eq] [b] pos) (aT (aB (a8 false) ma mb)):=⟨d7 (Bh (rK h)) rJ d.h g.h (cT _)⟩
theorem KR {k:Nat}(h:Room k X.A)(d:QE X a ma)(g:QE X b mb):QT X (.Compare a [.NotEq] [b] pos) (aT (aB (a8 true) ma mb)):=⟨d7 (Bi (rK h)) rJ d.h g.h (cT _)⟩
theorem KS (d:QE X a ma)(g:QE X b mb):QT X (.Compare a [.Lt] [b] pos) (aT (aB nJ ma mb)):=⟨d7 uN gU d.h g.h (cT _)⟩
theorem KU (d:QE X a ma)(g:QE X b mb):QT X (.Compare a [.LtE] [b] pos) (aT (aB kW ma mb)):=⟨d7 uO gU d.h g.h (cT _)⟩
theorem KW (d:QE X a ma)(g:QE X b mb):QT X (.Compare a [.Gt] [b] pos) (aT (aB kX ma mb)):=⟨d7 uP gU d.h g.h (cT _)⟩
theorem KY (d:QE X a ma)(g:QE X b mb):QT X (.Compare a [.GtE] [b] pos) (aT (aB vU ma mb)):=⟨d7 uQ gU d.h g.h (cT _)⟩
noncomputable def v8:Expr->Bool
 | .UnaryOp .Not ..=>false
 | .BoolOp ..=>false
 | .IfExp ..=>false
 | .Compare ..=>false
 | _=>true
theorem KZ {e:Expr}{env:Yi}(h:v8 e=true):∀ d,a0X e env d=(do let v <- d;a0T e.pos;holding [v] (truthy v)):=by
 intro d
 cases e<;>first|rfl|cases h|skip
 rename_i g x p
 cases g<;>first|rfl|cases h
theorem K0 (d:QT X a mt):QT X (.UnaryOp .Not a pos) (iX mt):=⟨IL d.h⟩
theorem K1 (d:QT X a mt):QW X (.BoolOp .And [a] pos) mt:=⟨IH d.h⟩
theorem K2 (d:QT X a mt):QW X (.BoolOp .Or [a] pos) mt:=⟨II d.h⟩
theorem K3 (d:QT X a mt)(g:QW X (.BoolOp .And (b::bU) pos) mu):QW X (.BoolOp .And (a::b::bU) pos) (gP mt mu):=⟨IJ d.h g.h⟩
theorem K4 (d:QT X a mt)(g:QW X (.BoolOp .Or (b::bU) pos) mu):QW X (.BoolOp .Or (a::b::bU) pos) (eT mt mu):=⟨IK d.h g.h⟩
theorem K5 (h:QW X e mt):QT X e mt:=⟨h.h.pt⟩
theorem K6:QI X [] dA:=⟨JQ⟩
theorem K7 (h:QT X c mt):QI X [c] mt:=⟨JR h.h⟩
end
section
variable {X:Cx}{e a b c:Expr}{m:ME}{pos:Vl}{mt:MT}{st:Stmt}{bU body orelse:List Stmt}{ms mr mu:MS}{n:Nat}{is:List Nat}{es:List Expr}{g:MG}
theorem K8:QB X [] bM:=⟨Jj⟩
theorem K9 (d:QS X st ms)(h:QB X bU mr):QB X (st::bU) (aK ms mr):=⟨Jk d.h h.h⟩
theorem La (d:QS X st ms):QB X [st] ms:=⟨Jl d.h⟩
theorem Lb:QS X (.Pass pos) bM:=⟨Jm⟩
theorem Lc (d:QE X e m):QS X (.Return (some e) pos) (bC m):=⟨Jn d.h⟩
noncomputable def iL (e:Expr):Bool:=!(e.ctorIdx == 8||e.ctorIdx == 9||e.ctorIdx == 10)
theorem rS {e:Expr}{t:Option Expr}{n:Nat}{env:Yi}(h:iL e=true):Xi e t n env=pure false:=by
 cases e<;>first|rfl|cases h
theorem Ld (d:QE X e m)(h:iL e=true:=by rfl):QS X (.Expr e pos) (eU m):=⟨Jo d.h (rS h)⟩
theorem Le (hc:QT X c mt)(d:QB X body ms)(h:QB X orelse mu):QS X (.If c body orelse pos) (bN mt ms mu):=⟨Jp hc.h d.h h.h⟩
theorem Lf (i:Nat){x:Str}{d:Vl}(j:X.N.Nodup)(l:QE X e m)(h:iL e=true:=by rfl)(p:X.N[i]? = some x:=by rfl)(q:Loc X.env.scope x:=by first|exact a1v rfl|exact a0m rfl)
  (o:X.fn x=true\/X.env.scope.names.lookup x=some .local:=by first|exact .inl rfl|exact .inr rfl):QS X (.Assign [.Name x d] e pos) (aQ i m):=⟨A6 j p q l.h (rS h) o⟩
theorem Lg (i:Nat){x:Str}(d:X.N.Nodup)(j:X.N[i]? = some x:=by rfl)(l:Loc X.env.scope x:=by first|exact a1v rfl|exact a0m rfl)
  (h:X.fn x=true\/X.env.scope.names.lookup x=some .local:=by first|exact .inl rfl|exact .inr rfl):QG X (.Name x pos) (cI i):=⟨Bk d j l h⟩
theorem Bz:QGs X [] []:=⟨Gs,rfl,rfl⟩
theorem BA (i:Nat){x:Str}(h:X.N.Nodup)(d:QGs X es is)(l:X.N[i]? = some x:=by rfl)(o:Loc X.env.scope x:=by first|exact a1v rfl|exact a0m rfl)
  (j:X.fn x=true\/X.env.scope.names.lookup x=some .local:=by first|exact .inl rfl|exact .inr rfl):QGs X (.Name x pos::es) (i::is):=
 ⟨Gu (z6 h l o j) d.h (by rw [rR (e:=.Name x pos) rfl];rfl),by rw [T6,T6,d.n],by rw [Ur,d.s];rfl⟩
theorem v9 {k:Nat}(h:QGs X es is)(hc:X.calm=true:=by rfl):QG X (.Tuple es k pos) (dM is):=⟨JU hc h.h ((Bt h.s).trans h.n) (Bu h.s)⟩
noncomputable def wA (e:Expr):Bool:=!(e.ctorIdx == 25)
theorem Lh {es:List Expr}{k:Nat}{pt:Vl}{e:Expr}{env:Yi}(h:wA e=true):a0x [.Tuple es k pt] e env=pure none:=by
 cases e<;>first|rfl|cases h
theorem Li {k:Nat}{pt:Vl}(d:QE X e m)(i:QG X (.Tuple es k pt) g)(h:wA e=true:=by rfl):QS X (.Assign [.Tuple es k pt] e pos) (iK m g):=
 ⟨JV d.h i.h (by cases e<;>rfl) (Lh h) (by rw [rR (e:=.Tuple es k pt) rfl];rfl)⟩
end
section
variable {P:T3}{w:Uk}{K:Ta}{mg:Str->Option Te}{base:UW}
theorem Lj {x a:Str}{st:Stmt}{f:Addr}{g:Vo}{N ps:List Str}{k:Nat}{body:List Stmt}{m:MS}(F:Fun K x a st f g)(S:FnScope N ps (bA st))(e:ps.length<=N.length)(d:bL st=body)
  (c:∀ (b:Te)(A:Ug)(outer:List Yi)(s:Th)(H:Hp)(E:XK),Room k (A.deeper (Zd a (bA st) s.heap.objs.size f b))->
   QB (jQ dI P w K mg base N a (bA st) f b A outer s H E).nox body m):FnOk P w K mg base dI (k+1) f g ps (dJ K ps.length (vD N.length m)):=
 Jr F S e fun b A outer s H E h=>by
  rw [d]
  exact (c b A outer s H E h).h
end
end L3
namespace L3
open PySem L2
noncomputable abbrev i8:=Hm->Nat->Option (Option D)
noncomputable abbrev MI:=aI->Hm->Option (i8×Nat×Hm)
noncomputable def iM (K:Ta)(m:MI):TI:=fun σ H R=>∃ π e d b n μ',Rp K π H d/\En K π d.length H σ e/\m e d=some (b,n,μ') /\
 ∀ a c J,Ext π d.length H a μ'.length c->Rp K a c μ'->Wk K J b a μ'.length c->R J c
structure QJ (X:Cx)(e:Expr)(m:MI):Prop where
 h:∀ tg,PI X tg e (iM X.K m)
section
variable {X:Cx}{pos:Vl}{e:Expr}{m:ME}
noncomputable def BB:MI:=fun _ _=>none
theorem Lk:QJ X e BB:=⟨fun tg a3J s σ H R I hw=>by
 obtain ⟨h,i,g,b,n,c,d,E,a,k⟩:=hw
 cases a⟩
noncomputable def jV (a:Hm):D->Option (List D)
 | d=>bP a d
noncomputable def dO (x:D):i8:=fun a i=>(jV a x).map fun xs=>xs[i]?
noncomputable def cR (m:ME):MI:=fun b a=>(m b a).bind fun p=>(jV p.2 p.1).map fun xs=>(dO p.1,xs.length+1,p.2)
theorem Ll (h:QE X e m):QJ X e (cR m):=⟨fun tg a3J s σ H R I hw=>by
 obtain ⟨K,L,G,A,n,J,r,E,b,k⟩:=hw
 obtain ⟨⟨x,i⟩,u,b⟩:=S9.mp b
 obtain ⟨B,w,b⟩:=Tg.mp b
 cases b
 have key:∀ (o:bP i x=some B)(p:dO x=jT x),TX (T7 X.prog X.w) X.A (eval e X.env) (fun v z=>TX (T7 X.prog X.w) X.A (Zp v) (Aa X a3J σ tg R) X.xe z) X.xe s:=fun o p=>by
  refine JL h.h a3J s σ H R I ⟨K,L,G,x,_,r,E,u,fun c M j l d y=>?_⟩
  obtain ⟨a,e,q⟩:=JM d y o
  subst e
  refine ⟨a,rfl,?_⟩
  dsimp only at k
  rw [p] at k
  rcases q with ⟨g,W⟩|⟨g,W⟩
  ·exact .inl ⟨g,k c j _ l d W⟩
  ·exact .inr ⟨g,k c j _ l d W⟩
 cases x with
 | _=>exact key w rfl⟩
noncomputable def mG (ms:MA):MI:=fun b a=>(ms b a).bind fun p=>match p.1 with
 | [.int j]=>if -(2 ^ 62)<=j/\j<2 ^ 62 then some (fU 0 j.toNat,j.toNat+1,p.2) else none
 | _=>none
theorem Lm {q:Cx->Prop}{tg:Expr}(tr:∀ (l:Addr)(lo:Int)(n:Nat),Turn q X.prog X.w X.K tg (kP lo n) [l] l (fun i h=>Xu h l (lo+(i:Nat) * 1) ((n:Int) - (i:Nat)) 1)){a:Expr}{ms:MA}{n:Nat}{p:Vl}(c:Gl X "range") (d:X.mg "range" = none) (u:QA X [a] ms n):oZ q X tg (.Call (.Name "range" p) [a] [] pos) (iM X.K (mG ms)):=fun a3J s σ H R I hw=>by
 have w:=u.s
 rw [Ur,To] at w
 obtain ⟨N,O,L,J,Q,M,A,E,b,k⟩:=hw
 obtain ⟨⟨x,o⟩,G,b⟩:=S9.mp b
 refine GB tr c d u.h (eF w.1) a3J s σ H R I ⟨N,O,L,x,o,A,E,G,fun r T y B z g=>?_⟩
 dsimp only at b
 split at b
 ·rename_i j
  split at b
  ·rename_i v
   cases b
   cases g with
   | cons g K=>
    cases g
    cases K
    exact ⟨j,rfl,v.1,v.2,k r y _ B z Bl⟩
  ·cases b
 ·cases b
theorem Ln {a:Expr}{ms:MA}{n:Nat}{p:Vl}(b:Gl X "range") (c:X.mg "range" = none) (d:QA X [a] ms n):QJ X (.Call (.Name "range" p) [a] [] pos) (mG ms):=⟨fun tg=>Lm Ab b c d⟩
noncomputable def gY (ms:MA):MI:=fun b a=>(ms b a).bind fun p=>match p.1 with
 | [.int i,.int j]=>if -(2 ^ 62)<=i/\i<2 ^ 62/\-(2 ^ 62)<=j/\j<2 ^ 62 then some (fU i (j - i).toNat,(j - i).toNat+1,p.2) else none
 | _=>none
theorem Lo {a b:Expr}{ms:MA}{n:Nat}{p:Vl}(g:Gl X "range") (h:X.mg "range" = none) (r:QA X [a,b] ms n):QJ X (.Call (.Name "range" p) [a,b] [] pos) (gY ms):=⟨fun tg a3J s σ H R I hw=>by
 have d:=r.s
 rw [Ur,To,Ur,To] at d
 obtain ⟨N,O,L,G,Q,M,w,E,c,k⟩:=hw
 obtain ⟨⟨x,o⟩,z,c⟩:=S9.mp c
 refine GC g h r.h (by rw [eF d.1,eF d.2.1];rfl) (by rw [eF d.2.1];rfl) a3J s σ H R I ⟨N,O,L,x,o,w,E,z,fun q T u y v l=>?_⟩
 dsimp only at c
 split at c
 ·rename_i i j
  split at c
  ·rename_i A
   cases c
   cases l with
   | cons l J=>
    cases l
    cases J with
    | cons B K=>
     cases B
     cases K
     exact ⟨i,j,rfl,A,k q u _ y v Bl⟩
  ·cases c
 ·cases c⟩
noncomputable def cD (c:MI)(g:MG)(b:MS):MS:=fun a d=>(c a d).bind fun p=>eE p.1 g b p.2.1 0 a p.2.2
end
noncomputable def mH (d:BD)(g:MI)(c:MT)(e:ME):ME:=fun b h=>(g b h).bind fun p=>
 (jU p.1 d c e b p.2.2.length p.2.1 0 (p.2.2++[.lst []])).map fun a=>(.loc p.2.2.length,a)
noncomputable abbrev c4 (a:MI)(c:MT)(e:ME):ME:=mH nM a c e
noncomputable def gB (n:Nat)(a:BD):MG:=fun d c b=>(a d b).map fun x=>c.take n++x
theorem Lp {X:Cx}{n:Nat}{x:Str}{i:Vl}(j:X.N.length=n+1)(h:PG X (.Name x i) (eV X.K (cI n))):PG X (.Name x i) (eV X.K (gB n nM)):=by
 intro b s w H v u Q I r hw
 obtain ⟨p,a,o,d,q,R,E,hd,l,k⟩:=hw
 cases l
 refine h b s w H v u Q I r ⟨p,a,o,d,_,R,E,hd,rfl,fun c g=>k c ?_⟩
 have m:a.length=n+1:=by rw [<- E.len,I.len,j]
 have e:a.set n (some d)=a.take n++[some d]:=by
  rw [List.set_eq_take_append_cons_drop,if_pos (by omega),X0 (by omega)]
 rw [e] at g
 exact g
theorem BC:∀ (xs:List D)(a b:aI),b.length=xs.length->iJ (a++b) (WM a.length xs.length) xs=a++xs.map some
 | [],a,[],_=>by simp [iJ]
 | x::xs,a,y::b,h=>by
  have c:=BC xs (a++[some x]) b (by simpa using h)
  rw [T6,XO]
  show iJ ((a++y::b).set a.length (some x)) (WM (a.length+1) xs.length) xs=_
  rw [W3 _ _ (Tt _),WZ,Tj]
  rw [Tz,Vj] at c
  rw [Vt,a0c] at c
  rw [c]
  simp
theorem Lq {X:Cx}{n k:Nat}{tg:Expr}(q:X.N.length=n+k)(h:PG X tg (eV X.K (dM (WM n k)))):PG X tg (eV X.K (gB n (Bn k))):=by
 intro b s J H v u Q I r hw
 obtain ⟨B,a,A,d,G,R,E,hd,w,z⟩:=hw
 obtain ⟨y,m,o⟩:=Tg.mp w
 obtain ⟨l,p,c⟩:=S9.mp m
 split at c
 ·rename_i j
  cases c
  subst o
  have x:a.length=n+k:=by rw [<- E.len,I.len,q]
  refine h b s J H v u Q I r ⟨B,a,A,d,iJ a (WM n k) l,R,E,hd,(by simp only [dM,p,TZ,List.length_range',if_pos j]),fun g i=>z g ?_⟩
  have e:=BC l (a.take n) (a.drop n) (by rw [Ww];omega)
  rw [Vx,Uv,Nat.min_eq_left (by omega),j] at e
  rw [e] at i
  exact i
 ·cases c
section
variable {X:Cx}{scope:V0}{cl:List (Str×Addr)}{xs:List Str}{tg elt iter:Expr}{ifs:List Expr}{pos ppos:Vl}{mi:MI}{me:ME}{mc:MT}{bd:BD}
theorem Lr {K:Ta}{π:Nat->Addr}{n:Nat}{H:Hp}{σ:St}{b o:aI}{k:Nat}(E:En K π n H σ (b++o))(c:o.length=k):En K π n H σ (b++VB k none):=by
 refine ⟨by rw [E.len,Tz,Tz,VT,c],fun i d q=>?_⟩
 by_cases a:i<b.length
 ·rw [TR a] at q
  exact E.get i d (by rw [TR a];exact q)
 ·rw [Us (W8.mp a),V5] at q
  split at q<;>cases q
theorem BE {q:Cx->Prop}(O:CompOk X scope cl xs)(hq:∀ a3J σ H s l,Inv X a3J σ H s->q (cF X scope cl s.heap.objs.size (bF xs X.N++xs) s H l))(hi:oZ q X tg iter (iM X.K mi))(hb':∀ d μ z,bd d μ=some z->z.length=xs.length)(hg:∀ C s₀ H₀ l,PG (cF X scope cl C (bF xs X.N++xs) s₀ H₀ l) tg (eV X.K (gB X.N.length bd)))
  (hc:∀ C s₀ H₀ l,mF (cF X scope cl C (bF xs X.N++xs) s₀ H₀ l) ifs mc)(he:∀ C s₀ H₀ l,PE (cF X scope cl C (bF xs X.N++xs) s₀ H₀ l) elt (tM X.K me))
  (hs:∀ x,Wu iter X.env x=pure x){use:Option (Te->a1a Unit)}{QQ:Te->Th->Prop}{a3J:List (Addr×Obj)}{s:Th}{σ:St}{H:Hp}{π:Nat->Addr}{Y:aI}{μ μ':Hm}{d:D}
  (I:Inv X a3J σ H s)(R:Rp X.K π H μ)(E:En X.K π μ.length H σ Y)(hm:mH bd mi mc me Y μ=some (d,μ'))
  (aS:∀ (p C:Addr)(w:Nat->Addr)(g:Hp)(s':Th),Ext π μ.length H w μ'.length g->Rp X.K w g μ'->IsD X.K w μ'.length g (.ref p) d->(∃ m,s'.heap.Ns C m)->X.s₀.heap.objs.size<=C->C≠X.env.locals->g C=none->
   (∀ y c,X.env.cells.lookup y=some c->c≠C)->(∀ q∈X.pn++a3J,q.1≠C)->(∀ h',(∀ b o,b≠C->s'.heap.get? b=some o->h'.get? b=some o)->Inv X a3J σ g { s' with heap:=h' })->
   compPost (T7 X.prog X.w) X.A X.xe use QQ (.ref p) C (.ok .next) s') :
  TX (T7 X.prog X.w) X.A (comprehension (.ListComp elt [⟨tg,iter,ifs,0⟩] scope pos) scope X.env ppos (newList []) false (eval iter X.env) use) QQ X.xe s:=by
 obtain ⟨⟨src,nt,a⟩,h1,hm⟩:=S9.mp hm
 obtain ⟨μ2,h3,hm⟩:=Tg.mp hm
 cases hm
 have hit:TX (T7 X.prog X.w) X.A (eval iter X.env) (fun v s1=>TX (T7 X.prog X.w) X.A (Zp v) (qW q X a3J σ tg fun J H1=>∃ Z,Ext π μ.length H Z a.length H1/\Rp X.K Z H1 a/\Wk X.K J src Z a.length H1) X.xe s1) X.xe s:=
  hi a3J s σ H _ I ⟨π,Y,μ,src,nt,a,R,E,h1,fun Z H1 J e1 R1 W=>⟨Z,e1,R1,W⟩⟩
 refine wpAny_comprehension_free rfl hs O.clos O.kind O.names (Uy hit (fun v s1 hv=>Uy hv (fun itv G h4=>?_) fun _ _ z=>z) fun _ _ z=>z)
 obtain ⟨it,l,tn,J,H2,rfl,I2,T,st2,f2,Z,e1,R1,W⟩:=h4
 refine VO (wpAny_newFunctionEnv O.nocell (by intro y hy;simp at hy) (fun h₁ L M=>?_) O.kind)
 dsimp only at L M ⊢
 have hfr:H2 G.heap.objs.size=none:=I2.hok.fresh (Tt _)
 have I3:Inv X a3J σ (aO H2 G.heap.objs.size (.lst [])) { G with heap:=G.heap.push { cls:=.type "list",dict:=none,data:=.seq ([]:List Te).toArray } }:=
  I2.laid (t':=G.toks) (fun b u e=>Ti _ e) (Tt _) ⟨Uz _,[],0,.nil,TJ _ rfl⟩
 obtain ⟨e2,R2,q2⟩:=R1.alloc (c:=.lst []) (o:=.lst []) hfr .nil
 generalize hs3:({ G with heap:=G.heap.push { cls:=.type "list",dict:=none,data:=.seq ([]:List Te).toArray } }:Th)=s3 at I3
 have K:G.heap.push { cls:=.type "list",dict:=none,data:=.seq ([]:List Te).toArray } = s3.heap:=by rw [<- hs3]
 have e12:=e1.trans e2
 generalize hH3:aO H2 G.heap.objs.size (.lst [])=H3 at I3 e2 R2 e12
 generalize hπ3:fD Z a.length G.heap.objs.size=π3 at e2 R2 q2 e12
 have hob:∀ b∈l,∃ o,s3.heap.get? b=some o:=fun b B=>by
  obtain ⟨o,ho,_⟩:=T.obj 0 _ st2 b B
  exact ⟨o,by rw [<- K];exact Ti _ ho⟩
 have f3:∀ b∈l,gJ X a3J H3 b:=fun b B=>by
  obtain ⟨o,ho,_⟩:=T.obj 0 _ st2 b B
  refine ⟨?_,(f2 b B).2⟩
  rw [<- hH3,bI (TY (TB ho))]
  exact (f2 b B).1
 have st3:tn 0 s3.heap:=T.keep 0 _ _ st2 fun b B o e=>by rw [<- K];exact Ti _ e
 have hC:(G.heap.push { cls:=.type "list",dict:=none,data:=.seq ([]:List Te).toArray }).objs.size=s3.heap.objs.size:=by rw [K]
 rw [K] at L M
 have hk1:∀ b o,s3.heap.get? b=some o->h₁.get? b=some o:=fun b o e=>M.extBut b o (TY (TB e)) (Ti _ e)
 have E3:En X.K π3 (a++[C.lst []]).length H3 (σ++VB xs.length none) (Y++VB xs.length none):=by
  have E':=E.mono e12
  refine ⟨by rw [Tz,Tz,E'.len,VT,VT],fun i d' q=>?_⟩
  by_cases hi:i<Y.length
  ·rw [TR hi] at q
   obtain ⟨v,h5,h6⟩:=E'.get i d' q
   exact ⟨v,by rw [TR (by rw [E'.len];exact hi)];exact h5,h6⟩
  ·rw [Us (W8.mp hi),V5] at q
   split at q<;>cases q
 have hlen:Y.length=X.N.length:=by rw [<- E.len];exact I.len
 have stat:∀ {g:Hp}{pl:List (Addr×Obj)},(∀ b∈l,g b=none)->pl=[]->∀ b∈l,gJ (cF X scope cl s3.heap.objs.size (bF xs X.N++xs) s3 H3 l) pl g b:=fun {g pl} hn hpl b B=>by
  obtain ⟨f0,f1,f2',f3',f4,f5⟩:=f3 b B
  obtain ⟨o,ho⟩:=hob b B
  refine ⟨hn b B,TY (TB ho),fun z=>?_,.inl B,fun y c h=>f4 y c (O.sub y c h),fun p hp=>?_⟩
  ·rcases T1.mp (I3.stkSub b z) with z|z
   ·exact f1 z
   ·exact f2' z
  ·subst hpl
   exact absurd (show p∈([]:List (Addr×Obj)) from hp) (by simp)
 have loop:∀ s4:Th,(∃ tk,s4 = { s3 with heap:=h₁,toks:=tk })->
   XC (T7 X.prog X.w) X.A (.compLoop (.ListComp elt [⟨tg,iter,ifs,0⟩] scope pos) 0 (.ref it) (.ref G.heap.objs.size) (W5 scope cl s3.heap.objs.size X.env))
    (compPost (T7 X.prog X.w) X.A X.xe use QQ (.ref G.heap.objs.size) s3.heap.objs.size) s4:=by
  rintro s4 ⟨tk,rfl⟩
  have I4:=O.inv (tk:=tk) I3 f3 hob L hk1
  refine JP (fun n s'=>∃ i U g w N o,Inv (cF X scope cl s3.heap.objs.size (bF xs X.N++xs) s3 H3 l) [] U g s'/\tn i s'.heap/\(∀ b∈l,g b=none)/\Ext π3 (a++[C.lst []]).length H3 w N.length g/\Rp X.K w g N /\
   En X.K w N.length g U (Y++o)/\o.length=xs.length/\jU src bd mc me Y a.length n i N=some μ') ?_ nt
   ⟨0,_,H3,π3,a++[C.lst []],VB xs.length none,I4,T.keep 0 _ _ st3 fun b B o e=>hk1 b o e,fun b B=>(f3 b B).1,.refl,R2,E3,VT,h3⟩
  rintro n s5 ⟨i,σ5,H5,Q,μ5,o5,I5,st5,fr5,e5,R5,E5,l5,g5⟩
  cases n with
  | zero=>cases g5
  | succ n=>
   obtain ⟨o,h6,h7⟩:=S9.mp g5
   cases o with
   | none=>
    cases h7
    have stop:=W.stop Q _ H5 i (e2.trans e5) R5 h6
    refine Uy (T.done (cF X scope cl s3.heap.objs.size (bF xs X.N++xs) s3 H3 l) rfl rfl rfl (hq a3J σ H3 s3 l I3) i [] s5 σ5 H5 (fun _ _=>False) I5 (stat fr5 rfl) st5 stop) (fun r s6 ⟨hr,I6⟩=>?_) fun _ _ z=>z
    subst hr
    obtain ⟨m6,hn6,_⟩:=id I6.loc
    have hp:Q a.length=G.heap.objs.size:=by rw [e5.pi a.length (by simp),q2]
    refine aS G.heap.objs.size s3.heap.objs.size Q H5 s6 (e12.trans e5) R5 ?_ ⟨m6,hn6⟩ I3.sz (Uu (TY I3.lt)) I6.free (fun y c hc z=>?_) (fun q hq z=>?_) fun h' hh=>CompOk.back I3 f3 I6 hh
    ·rw [<- hp]
     exact .loc (T9 (by simp) e5.le)
    ·obtain ⟨v,o,ho,_⟩:=I3.cell y c hc
     exact TY (TB ho) z
    ·exact TY (TB (I3.pin q hq).1) z
   | some d=>
    obtain ⟨z,hz,h7⟩:=S9.mp h7
    obtain ⟨⟨b,μ6⟩,h8,h9⟩:=S9.mp h7
    obtain ⟨g1,g2⟩:=W.go Q μ5 H5 i d (e2.trans e5) R5 h6
    refine Uy (T.item (cF X scope cl s3.heap.objs.size (bF xs X.N++xs) s3 H3 l) rfl rfl rfl (hq a3J σ H3 s3 l I3) i [] s5 σ5 H5 (fun _ _=>False) I5 (stat fr5 rfl) st5 g1) (fun r s6 ⟨u,hr,h10⟩=>?_) fun _ _ z=>z
    subst hr
    refine Uy h10 (fun _ s7 ⟨v,H7,I7,r7,y7,st7,fr7⟩=>?_) fun _ _ z=>z
    obtain ⟨e7,R7,hd⟩:=g2 v H7 y7
    have I7':=I7.pinned (stat fr7 rfl) (T.obj _ _ st7)
    have e5:=e5.trans e7
    refine Uy (hg _ _ _ _ _ s7 σ5 H7 v u (fun U g=>En X.K Q μ5.length H7 U (Y++z)/\g=H7) I7' r7
     ⟨Q,Y++VB xs.length none,μ5,d,Y++z,R7,Lr (E5.mono e7) l5,hd,(by
      show (bd d μ5).map (fun x=>(Y++VB xs.length none).take X.N.length++x)=_
      rw [hz,<- hlen,List.take_left]
      rfl),fun U E'=>⟨E',rfl⟩⟩) (fun _ s8 ⟨σ8,H8,I8,E8,z2⟩=>?_) fun _ _ z=>z
    subst z2
    have again:∀ {s9:Th}{H9:Hp}{j:Nat->Addr}{μ9:Hm},Inv (cF X scope cl s3.heap.objs.size (bF xs X.N++xs) s3 H3 l) ([]++o4 l s7.heap) σ8 H9 s9->Ext π3 (a++[C.lst []]).length H3 j μ9.length H9->Rp X.K j H9 μ9->
      En X.K j μ9.length H9 σ8 (Y++z)->jU src bd mc me Y a.length n (i+1) μ9=some μ'->
      ∃ m,m<n+1/\∃ i U g w N o,Inv (cF X scope cl s3.heap.objs.size (bF xs X.N++xs) s3 H3 l) [] U g s9/\tn i s9.heap/\(∀ b∈l,g b=none)/\Ext π3 (a++[C.lst []]).length H3 w N.length g/\Rp X.K w g N /\
       En X.K w N.length g U (Y++o)/\o.length=xs.length/\jU src bd mc me Y a.length m i N=some μ':=fun {s9 H9 j μ9} I9 e9 R9 E9 g9=>by
     refine ⟨n,Ve _,i+1,_,H9,j,μ9,z,I9.unpinned,T.keep _ _ _ st7 fun b B o e=>(I9.pin (b,o) (U2 _ (U2 _ (qX B e)))).1,fun b B=>?_,e9,R9,E9,hb' _ _ _ hz,g9⟩
     obtain ⟨o,e,_⟩:=T.obj _ _ st7 b B
     exact (I9.pin (b,o) (U2 _ (U2 _ (qX B e)))).2.1
    refine Uy (hc _ _ _ _ _ s8 _ H8 (fun b' g=>∃ j,b'=b/\Ext Q μ5.length H8 j μ6.length g/\Rp X.K j g μ6) I8 ⟨Q,_,μ5,b,μ6,R7,E8,h8,fun j H9 e9 R9=>⟨j,rfl,e9,R9⟩⟩) (fun ok s9 ⟨H9,I9,j,B,e9,R9⟩=>?_) fun _ _ z=>z
    subst B
    cases ok with
    | false=>
     rw [if_neg Uc]
     exact again I9 (e5.trans e9) R9 (E8.mono e9) h9
    | true=>
     rw [if_pos rfl]
     obtain ⟨⟨dy,μ7⟩,h11,h12⟩:=S9.mp h9
     obtain ⟨μ8,h13,h14⟩:=S9.mp h12
     refine Uy (he _ _ _ _ _ s9 _ H9 (fun y g=>∃ A,Ext j μ6.length H9 A μ7.length g/\Rp X.K A g μ7/\IsD X.K A μ7.length g y dy) I9 ⟨j,_,μ6,dy,μ7,R9,E8.mono e9,h11,fun A y H10 e10 R10 i10=>⟨A,e10,R10,i10⟩⟩)
      (fun u' s10 ⟨y,H10,I10,ry,A,e10,R10,i10⟩=>?_) fun _ _ z=>z
     unfold nL at h13
     split at h13
     ·rename_i zs hz
      split at h13
      ·rename_i hl
       cases h13
       obtain ⟨vs,h15,h16⟩:=R10.lst _ zs hz
       have eall:=(e5.trans e9).trans e10
       have hp:A a.length=G.heap.objs.size:=by rw [eall.pi a.length (by simp),q2]
       obtain ⟨e11,R11⟩:=R10.put (a:=a.length) (c:=.lst (zs++[dy])) (o:=.lst (vs++[y])) (Tf.mp hz).1 h15 (.inl ⟨vs,rfl⟩) (h16.append (.cons i10 .nil))
       rw [hp] at h15 e11 R11
       refine Uy (AI (X:=cF X scope cl s3.heap.objs.size (bF xs X.N++xs) s3 H3 l) _ s10 _ H10 (.ref G.heap.objs.size) [y] (.ref G.heap.objs.size) [u'] (fun _ g=>g=aO H10 G.heap.objs.size (.lst (vs++[y]))) I10 rfl (.cons ry .nil)
        ⟨G.heap.objs.size,vs,y,rfl,rfl,h15,by rw [h16.length];exact hl,rfl⟩) (fun _ s11 ⟨_,H11,I11,_,z⟩=>?_) fun _ _ z=>z
       subst z
       exact again I11 (eall.trans e11) R11 ((E8.mono (e9.trans e10)).mono e11) h14
      ·cases h13
     ·cases h13
 have l4:=loop { s3 with heap:=h₁,toks:=G.toks+([]:List (Str×Te)).length } ⟨_,rfl⟩
 have hst4:tn 0 h₁:=T.keep 0 _ _ st3 fun b B o e=>hk1 b o e
 subst hs3
 exact codeAny_compStart_list l4 (T.self _ 0 _ _ _ hst4 l4)
theorem Ls {q:Cx->Prop}(O:CompOk X scope cl xs)(M:∀ a3J σ H s a,Inv X a3J σ H s->q (cF X scope cl s.heap.objs.size (bF xs X.N++xs) s H a))(G:oZ q X tg iter (iM X.K mi))(c:∀ d r z,bd d r=some z->z.length=xs.length)(B:∀ C s₀ H₀ a,PG (cF X scope cl C (bF xs X.N++xs) s₀ H₀ a) tg (eV X.K (gB X.N.length bd)))
  (hc:∀ C s₀ H₀ a,mF (cF X scope cl C (bF xs X.N++xs) s₀ H₀ a) ifs mc)(A:∀ C s₀ H₀ a,PE (cF X scope cl C (bF xs X.N++xs) s₀ H₀ a) elt (tM X.K me))
  (N:∀ x,Wu iter X.env x=pure x):PE X (.ListComp elt [⟨tg,iter,ifs,0⟩] scope pos) (tM X.K (mH bd mi mc me)):=by
 intro a3J s σ H Q I hw
 obtain ⟨π,ρ,r,d,Z,R,E,J,k⟩:=hw
 rw [eval_ListComp]
 refine BE (use:=none) O M G c B hc A N I R E J fun p C i j s' v u U h T L g l n back=>?_
 obtain ⟨m,K⟩:=h
 exact ⟨m,K,fun w Y=>⟨.ref p,j,back w (fun b o y e=>(Y.2 b y).trans e),rfl,k i _ j v u U⟩⟩
theorem Lu (O:CompOk X scope cl xs)(a:X.calm=true)(h:PI X tg iter (iM X.K mi))(c:∀ d j z,bd d j=some z->z.length=xs.length)(g:∀ C s₀ H₀ b,PG (cF X scope cl C (bF xs X.N++xs) s₀ H₀ b) tg (eV X.K (gB X.N.length bd)))
  (hc:∀ C s₀ H₀ b,mF (cF X scope cl C (bF xs X.N++xs) s₀ H₀ b) ifs mc)(e:∀ C s₀ H₀ b,PE (cF X scope cl C (bF xs X.N++xs) s₀ H₀ b) elt (tM X.K me))
  (i:∀ x,Wu iter X.env x=pure x):PE X (.ListComp elt [⟨tg,iter,ifs,0⟩] scope pos) (tM X.K (mH bd mi mc me)):=Ls O (fun _ _ _ _ _ _=>a) h c g hc e i
theorem Lv {i:Nat}{y:Str}{py g:Vl}(O:CompOk X scope cl xs)(hN:X.N.Nodup)(h:X.calm=true)(hi:PI X tg iter (iM X.K mi))(B:∀ d Y z,bd d Y=some z->z.length=xs.length)(hg:∀ C s₀ H₀ n,PG (cF X scope cl C (bF xs X.N++xs) s₀ H₀ n) tg (eV X.K (gB X.N.length bd)))
  (hc:∀ C s₀ H₀ n,mF (cF X scope cl C (bF xs X.N++xs) s₀ H₀ n) ifs mc)(he:∀ C s₀ H₀ n,PE (cF X scope cl C (bF xs X.N++xs) s₀ H₀ n) elt (tM X.K me))
  (hs:∀ x,Wu iter X.env x=pure x)(hy:X.N[i]? = some y)(U:X.env.scope.names.lookup y=some .local)
  (K:Xi (.ListComp elt [⟨tg,iter,ifs,0⟩] scope pos) (some (.Name y py)) g.line X.env=pure true) :
  PS X (.Assign [.Name y py] (.ListComp elt [⟨tg,iter,ifs,0⟩] scope pos) g) (c5 X.K (aQ i (mH bd mi mc me))):=by
 intro l s Z H EN I hw
 obtain ⟨π,ρ,Y,fl,ρ',μ',R,E,G,k⟩:=hw
 obtain ⟨⟨d,μ1⟩,h1,G⟩:=Tg.mp G
 cases G
 rw [exec_Assign_Name_used _ _ _ _ K]
 refine Td (a0u ?_)
 refine Td (Td ?_)
 refine BE (use:=some (YX (.Name y py) X.env)) (QQ:=fun _ u=>TX (T7 X.prog X.w) X.A (pure ()) (fun _ M=>TX (T7 X.prog X.w) X.A (pure Flow.next) (SP X l EN) X.xe M) X.xe u) O (fun _ _ _ _ _ _=>h) hi B hg hc he hs I R E h1 fun p C Q v u T R1 i1 J L q j c r back=>?_
 obtain ⟨m,hn⟩:=J
 have I1:Inv X l Z v u:=back u.heap fun b o _ e=>e
 show TX (T7 X.prog X.w) X.A (YX (.Name y py) X.env (.ref p)) _ X.xe u
 refine a2l ?_
 refine zY I1 hN hy (.inl U) (show RelV (.ref p) (.ref p) from rfl) (fun s2 I2 ⟨a,sb,A⟩=>?_) (.inr U)
 have w:C≠a:=by
  rcases A with rfl|A
  ·exact q
  ·exact Uu (c _ _ A)
 refine ⟨m,hn.sameBut sb w,fun h' N=>Tr (Tr ?_)⟩
 refine ⟨Z.set i (some (.ref p)),v,I2.turned (t':=s2.toks) (fun b o hb e=>(N.2 b hb).trans e) j q (.inr L) c r,?_⟩
 exact k Q _ v T R1 ((E.mono T).set i1 i)
end
end L3
namespace L3
open PySem L2
noncomputable def bY:ME:=fun _ _=>none
noncomputable def mI:MT:=fun _ _=>none
noncomputable def cV:MS:=fun _ _=>none
section
variable {X:Cx}{e a b c o:Expr}{m m1 m2 ma mb mc:ME}{pos:Vl}{mt mu:MT}{bU es:List Expr}{ms:MA}{n:Nat}
theorem b8:QE X e bY:=⟨fun a3J s σ H Q I h=>by
 obtain ⟨l,p,j,d,i,R,E,g,k⟩:=h
 cases g⟩
theorem wB:QT X e mI:=⟨fun a3J s σ H Q I h=>by
 obtain ⟨l,p,j,d,i,R,E,g,k⟩:=h
 cases g⟩
theorem Lx:QW X e mI:=⟨fun j a3J s σ H Q I h=>by
 obtain ⟨p,q,l,d,i,R,E,g,k⟩:=h
 cases g⟩
theorem d9 {st:Stmt}:QS X st cV:=⟨fun a3J s σ H D I h=>by
 obtain ⟨p,q,l,j,i,g,R,E,d,k⟩:=h
 cases d⟩
theorem rV {g:MG}(p:∀ d l j,g d l j=none):QG X e g:=⟨fun a3J s σ H v u Q I r h=>by
 obtain ⟨w,l,j,d,q,R,E,hd,i,k⟩:=h
 rw [p] at i
 cases i⟩
theorem mJ (p:QE X e m1)(u:QE X e m2)(h:∀ i g r,m i g=some r->m1 i g=some r\/m2 i g=some r):QE X e m:=⟨fun a3J s σ H Q I q=>by
 obtain ⟨l,i,g,d,j,R,E,v,k⟩:=q
 rcases h i g _ v with z|z
 ·exact p.h a3J s σ H Q I ⟨l,i,g,d,j,R,E,z,k⟩
 ·exact u.h a3J s σ H Q I ⟨l,i,g,d,j,R,E,z,k⟩⟩
theorem nQ {m m1 m2:MT}(p:QT X e m1)(u:QT X e m2)(h:∀ i g r,m i g=some r->m1 i g=some r\/m2 i g=some r):QT X e m:=⟨fun a3J s σ H Q I q=>by
 obtain ⟨l,i,g,d,j,R,E,v,k⟩:=q
 rcases h i g _ v with z|z
 ·exact p.h a3J s σ H Q I ⟨l,i,g,d,j,R,E,z,k⟩
 ·exact u.h a3J s σ H Q I ⟨l,i,g,d,j,R,E,z,k⟩⟩
theorem fV {f j l:D->D->Hm->Option (D×Hm)}(h:∀ x y d r,f x y d=some r->j x y d=some r\/l x y d=some r) :
  ∀ i d r,aB f ma mb i d=some r->aB j ma mb i d=some r\/aB l ma mb i d=some r:=by
 intro i d r g
 obtain ⟨p,s,g⟩:=S9.mp g
 obtain ⟨q,u,g⟩:=S9.mp g
 rcases h _ _ _ _ g with z|z
 ·exact .inl (S9.mpr ⟨p,s,S9.mpr ⟨q,u,z⟩⟩)
 ·exact .inr (S9.mpr ⟨p,s,S9.mpr ⟨q,u,z⟩⟩)
theorem nR (h:∀ g d r,m g d=some r->m1 g d=some r\/m2 g d=some r):∀ g d r,aT m g d=some r->aT m1 g d=some r\/aT m2 g d=some r:=by
 intro g d r i
 obtain ⟨p,j,i⟩:=S9.mp i
 rcases h _ _ _ j with z|z
 ·exact .inl (S9.mpr ⟨p,z,i⟩)
 ·exact .inr (S9.mpr ⟨p,z,i⟩)
noncomputable def mK:List D->Option (List Int)
 | []=>some []
 | .int i::r=>(mK r).map (i::·)
 | _=>none
noncomputable def eA:D->Option (List Int)
 | .tup ds=>mK ds
 | _=>none
noncomputable def b9 (d:List (List Int×D))(k:List Int):Option D:=(d.find? fun p=>decide (p.1=k)).map (·.2)
noncomputable def eB (g:List (List Int×D))(k:List Int)(d:D):List (List Int×D):=if (b9 g k).isSome then g.map (fun p=>if p.1=k then (p.1,d) else p) else g++[(k,d)]
noncomputable def aH:D->D->Hm->Option (D×Hm):=fun x y g=>match x with
 | .loc a=>match g[a]? with
  | some (.dT kvs)=>(eA y).bind fun k=>(b9 kvs k).map fun d=>(d,g)
  | some (.dF kvs)=>(eA y).bind fun k=>(b9 kvs k).map fun d=>(d,g)
  | _=>fE x y g
 | _=>fE x y g
structure TabOk (X:Cx)(x:Str)(kvs:List (aN×D)):Prop where
 ex:∃ (p:Addr)(vs:List (aN×V))(ws:List (aN×Te)),X.mg x=some (.ref p)/\(∀ h:UW,X.K.In h->h.DictOf (l0 X.prog X.w) p ws)/\KV vs ws/\∀ π n H,IsKs X.K π n H vs kvs
theorem BF {a3J:List (Addr×Obj)}{σ:St}{H:Hp}{s:Th}(I:Inv X a3J σ H s){p:Addr}{ob:Obj}(h:X.K.lookup p=some ob):H p=none:=(I.bs p ob (I.mod.kin p ob h)).2
theorem BG {K:Ta}{π:Nat->Addr}{H:Hp}{i:Hm}(R:Rp K π H i){d:Nat}(p:d<i.length):∃ u,H (π d)=some u/\(∀ vs,u≠.tup vs)/\∀ ob v,(∀ l,v≠HO.ext l)->u≠.frz ob v:=by
 cases q:i[d]? with
 | none=>exact absurd (Ux.mp q) (by omega)
 | some j=>
  cases j with
  | lst g=>obtain ⟨vs,h,_⟩:=R.lst d g q;exact ⟨_,h,(fun _ z=>nomatch z),fun _ _ _ z=>nomatch z⟩
  | dK g=>obtain ⟨vs,h,_⟩:=R.dK d g q;exact ⟨_,h,(fun _ z=>nomatch z),fun _ _ _ z=>nomatch z⟩
  | st g=>obtain ⟨vs,h,_⟩:=R.st d g q;exact ⟨_,h,(fun _ z=>nomatch z),fun _ _ _ z=>nomatch z⟩
  | dT g=>obtain ⟨vs,h,_⟩:=R.dT d g q;exact ⟨_,h,(fun _ z=>nomatch z),fun _ _ _ z=>nomatch z⟩
  | dF g=>obtain ⟨ob,vs,h,_⟩:=R.dF d g q;exact ⟨_,h,(fun _ z=>nomatch z),fun _ _ n z=>n _ (by cases z;rfl)⟩
  | ins x fs=>obtain ⟨_,h,_,_,_,rfl,_⟩:=R.ins d x fs q;exact ⟨_,h,(fun _ z=>nomatch z),fun _ _ _ z=>nomatch z⟩
section
variable {a3J:List (Addr×Obj)}{σ:St}{H:Hp}{s:Th}{π:Nat->Addr}{μ:Hm}
theorem BH (I:Inv X a3J σ H s)(R:Rp X.K π H μ){g:Nat}(l:g<μ.length){vs:List V}(h:SqT X.K H (π g) vs):False:=by
 obtain ⟨u,d,i,j⟩:=BG R l
 rcases h with (h|⟨r,h⟩)|⟨r,q,n,p,_⟩
 ·rw [d] at h;exact i _ (TL h)
 ·rw [d] at h;exact j _ (.tup vs) (fun v z=>nomatch z) (TL h)
 ·rw [BF I p] at d;cases d
theorem BI (I:Inv X a3J σ H s)(R:Rp X.K π H μ){g:Nat}(j:g<μ.length){vs:List V}(h:RoL X.K H (π g) vs):False:=by
 obtain ⟨u,d,r,i⟩:=BG R j
 rcases h with ⟨q,h⟩|⟨q,p,n,l,_⟩
 ·rw [d] at h;exact i _ (.lst vs) (fun v z=>nomatch z) (TL h)
 ·rw [BF I l] at d;cases d
theorem BJ (I:Inv X a3J σ H s){p:Addr}{vs ws:List V}(h:SqT X.K H p vs)(h':RoL X.K H p ws):False:=by
 obtain ⟨g,_,t,_⟩:=I.tuple h
 obtain ⟨d,_,l,_⟩:=I.list h'.sq
 exact absurd rfl (Vq l.isList t)
mutual
theorem BK (I:Inv X a3J σ H s)(R:Rp X.K π H μ){v:V}{d d':D}:IsD X.K π μ.length H v d->IsD X.K π μ.length H v d'->d=d'
 | .non,h'=>by cases h';rfl
 | .bl _,h'=>by cases h';rfl
 | .int _,h'=>by cases h';rfl
 | .str _,h'=>by cases h';rfl
 | .ty _,h'=>by cases h';rfl
 | .tup h t,h'=>by
  cases h' with
  | tup g i=>
   have:=I.tuple_inj h g
   subst this
   rw [wC I R t i]
  | rol g i=>exact (BJ I h g).elim
  | loc g=>exact (BH I R g h).elim
 | .rol h t,h'=>by
  cases h' with
  | tup g i=>exact (BJ I g h).elim
  | rol g i=>
   have:=I.list_inj h.sq g.sq
   subst this
   rw [wC I R t i]
  | loc g=>exact (BI I R g h).elim
 | .loc (a:=a1) ha,h'=>by
  generalize hz:V.ref (π a1)=z at h'
  cases h' with
  | tup g i=>cases hz;exact (BH I R ha g).elim
  | rol g i=>cases hz;exact (BI I R ha g).elim
  | loc g=>
   have:=R.inj _ _ ha g (V.ref.inj hz)
   rw [this]
  | _=>cases hz
theorem wC (I:Inv X a3J σ H s)(R:Rp X.K π H μ){vs:List V}{ds d:List D}:IsDs X.K π μ.length H vs ds->IsDs X.K π μ.length H vs d->ds=d
 | .nil,h'=>by cases h';rfl
 | .cons h t,h'=>by
  cases h' with
  | cons g i=>rw [BK I R h g,wC I R t i]
end
end
noncomputable def jW (a:Hm)(x:D):List D->Option Bool
 | []=>some false
 | y::r=>(cZ 8 a y x).bind fun b=>(jW a x r).map fun c=>b||c
noncomputable def kZ (a:Bool):D->D->Hm->Option (D×Hm):=fun x y c=>(bP c y).bind fun d=>(jW c x d).map fun b=>(.bl (if a then !b else b),c)
noncomputable def wD (K:Ta)(c:Bool):R2:=fun x y H Q=>∃ π a d e g b,Rp K π H a/\IsD K π a.length H x d/\IsD K π a.length H y e/\bP a e=some g/\jW a d g=some b/\Q (.bl (if c then !b else b)) H
theorem rW {K:Ta}{c:Bool}:cH K (kZ c) (wD K c):=by
 intro e H p x y d m n o Q R i j a k
 obtain ⟨l,g,a⟩:=S9.mp a
 obtain ⟨b,h,a⟩:=Tg.mp a
 cases a
 exact ⟨e,_,x,y,l,b,R,i,j,g,h,k e _ H .refl R (.bl _)⟩
theorem rX {a3J:List (Addr×Obj)}{σ:St}{H:Hp}{s:Th}{π:Nat->Addr}{i:Hm}(I:Inv X a3J σ H s)(R:Rp X.K π H i){A:Ug}(T:A.units+8<VS){x:V}{v:Te}{n:D}(rx:RelV x v)(ix:IsD X.K π i.length H x n) :
  ∀ {e:List D}{vs:List V}{us:List Te}{b:Bool},IsDs X.K π i.length H vs e->Vals vs us->jW i n e=some b->
   ∃ g:Te->Bool,(∀ u∈us,a0y A s u v (g u))/\us.any g=b:=by
 classical
 intro e vs us b l m d
 have p:∀ {e:List D}{vs:List V}{us:List Te}{b:Bool},IsDs X.K π i.length H vs e->Vals vs us->jW i n e=some b->(∀ u∈us,∃ c,a0y A s u v c/\∃ w o,RelV w u/\IsD X.K π i.length H w o/\cZ 8 i o n=some c):=by
  intro e
  induction e with
  | nil=>
   intro vs us b l m d u a
   cases l
   cases m
   cases a
  | cons y e K=>
   intro vs us b l m d u a
   cases l with
   | cons h t=>
    cases m with
    | cons r rt=>
     obtain ⟨c,E,d⟩:=S9.mp d
     obtain ⟨N,G,d⟩:=Tg.mp d
     rcases T1.mp a with rfl|a
     ·exact ⟨c,vK I R 8 T r rx h ix E,_,_,r,h,E⟩
     ·exact K t rt G u a
 have q:=p l m d
 refine ⟨fun u=>if h:u∈us then Yu (q u h) else false,fun u a=>?_,?_⟩
 ·simp only [dif_pos a]
  exact (Zm (q u a)).1
 ·have key:∀ u (h:u∈us) w o c,RelV w u->IsD X.K π i.length H w o->cZ 8 i o n=some c->Yu (q u h)=c:=by
   intro u h w o c L Z M
   obtain ⟨_,w2,O,r2,Y,Q⟩:=Zm (q u h)
   have:w2=w:=r2.inj L
   subst this
   have:=BK I R Y Z
   subst this
   rw [Q] at M
   exact TL M
  have B:∀ {e:List D}{vs:List V}{j:List Te}{b:Bool},(∀ u∈j,u∈us)->IsDs X.K π i.length H vs e->Vals vs j->jW i n e=some b->j.any (fun u=>if h:u∈us then Yu (q u h) else false)=b:=by
   intro e
   induction e with
   | nil=>
    intro vs j b J l m d
    cases l
    cases m
    cases d
    rfl
   | cons y e K=>
    intro vs j b J l m d
    cases l with
    | cons h t=>
     cases m with
     | @cons _ u _ us2 r rt=>
      obtain ⟨c,E,d⟩:=S9.mp d
      obtain ⟨N,G,d⟩:=Tg.mp d
      have kY:u∈us:=J u (Um ..)
      rw [V2,K (fun z U=>J z (Ua _ U)) t rt G,dif_pos kY,key u kY _ _ c r h E]
      exact d
  exact B (fun _ h=>h) l m d
theorem rY {k:Nat}{A:Ug}(r:Room k A):A.units+9<VS:=by have:=r.un;omega
theorem BL (J:X.A.units+9<VS):OpR X (UG .In) (wD X.K false):=by
 intro n s O H x y v u Q I m B h
 obtain ⟨N,M,E,G,L,b,R,l,A,o,j,q⟩:=h
 obtain ⟨p,K,rfl,c,hd⟩:=rN R A o
 cases B
 rcases c with c|c
 ·obtain ⟨a,r,i,z⟩:=I.list c
  obtain ⟨g,d,e⟩:=rX I R (A:=X.A.in1) (by rw [mD];omega) m l hd r j
  refine SeqAt.in_listAt g i.isList (fun w hw=>d w (by simpa using hw)) ⟨.bl _,H,I,rfl,?_⟩
  rw [show a.toArray.any g=a.any g by simp,e]
  exact q
 ·obtain ⟨a,r,i,z⟩:=I.tuple c
  obtain ⟨g,d,e⟩:=rX I R (A:=X.A.in1) (by rw [mD];omega) m l hd r j
  refine SeqAt.in_tupleAt g i (fun w hw=>d w (by simpa using hw)) ⟨.bl _,H,I,rfl,?_⟩
  rw [show a.toArray.any g=a.any g by simp,e]
  exact q
theorem BM (J:X.A.units+9<VS):OpR X (UG .NotIn) (wD X.K true):=by
 intro n s O H x y v u Q I m B h
 obtain ⟨N,M,E,G,L,b,R,l,A,o,j,q⟩:=h
 obtain ⟨p,K,rfl,c,hd⟩:=rN R A o
 cases B
 rcases c with c|c
 ·obtain ⟨a,r,i,z⟩:=I.list c
  obtain ⟨g,d,e⟩:=rX I R (A:=X.A.in1) (by rw [mD];omega) m l hd r j
  refine SeqAt.notIn_listAt g i.isList (fun w hw=>d w (by simpa using hw)) ⟨.bl _,H,I,rfl,?_⟩
  rw [show a.toArray.any g=a.any g by simp,e]
  exact q
 ·obtain ⟨a,r,i,z⟩:=I.tuple c
  obtain ⟨g,d,e⟩:=rX I R (A:=X.A.in1) (by rw [mD];omega) m l hd r j
  refine SeqAt.notIn_tupleAt g i (fun w hw=>d w (by simpa using hw)) ⟨.bl _,H,I,rfl,?_⟩
  rw [show a.toArray.any g=a.any g by simp,e]
  exact q
noncomputable def cW (b:Bool):D->D->Hm->Option (D×Hm)
 | .str i,.str j,μ=>some (.bl (if b then !(!(U8 j i 0 j.length 1).isEmpty) else !(U8 j i 0 j.length 1).isEmpty),μ)
 | x,.loc a,μ=>match μ[a]? with
  | some (.dT kvs)=>(eA x).map fun k=>(.bl (if b then !(b9 kvs k).isSome else (b9 kvs k).isSome),μ)
  | some (.dF kvs)=>(eA x).map fun k=>(.bl (if b then !(b9 kvs k).isSome else (b9 kvs k).isSome),μ)
  | _=>kZ b x (.loc a) μ
 | x,y,μ=>kZ b x y μ
noncomputable def wF:D->D->Hm->Option (D×Hm)
 | .str i,.str j,μ=>some (.bl (!(!(U8 j i 0 j.length 1).isEmpty)),μ)
 | _,_,_=>none
theorem BN {K:Ta}:cH K wF (fun x y H Q=>∃ i j,x=.str i/\y=.str j/\Q (.bl (!(!(U8 j i 0 j.length 1).isEmpty))) H):=by
 intro g H m x y d e h l Q R b c a k
 unfold wF at a
 split at a
 ·cases a
  cases b
  cases c
  exact ⟨_,_,rfl,rfl,k g _ H .refl R (.bl _)⟩
 ·cases a
noncomputable def i9 (a:Bool):D->D->Hm->Option (D×Hm)
 | x,.non,μ=>some (.bl (match x with|.non=>!a|_=>a),μ)
 | _,_,_=>none
theorem BO {K:Ta}:cH K (i9 false) (fun x y H Q=>y=.non/\Q (.bl (decide (x=.non))) H):=by
 intro g H j x y d e h i Q R b c a k
 unfold i9 at a
 split at a
 ·cases a
  cases c
  refine ⟨rfl,?_⟩
  cases b<;>exact k g _ H .refl R (.bl _)
 ·cases a
theorem BP {K:Ta}:cH K (i9 true) (fun x y H Q=>y=.non/\Q (.bl (!decide (x=.non))) H):=by
 intro g H j x y d e h i Q R b c a k
 unfold i9 at a
 split at a
 ·cases a
  cases c
  refine ⟨rfl,?_⟩
  cases b<;>exact k g _ H .refl R (.bl _)
 ·cases a
theorem Lz (c:QE X a ma)(d:QE X b mb):QE X (.Compare a [.Is] [b] pos) (aB (i9 false) ma mb):=⟨dZ Af BO c.h d.h (cT _)⟩
theorem LA (c:QE X a ma)(d:QE X b mb):QE X (.Compare a [.IsNot] [b] pos) (aB (i9 true) ma mb):=⟨dZ Ag BP c.h d.h (cT _)⟩
theorem LB (c:QE X a ma)(d:QE X b mb):QT X (.Compare a [.Is] [b] pos) (aT (aB (i9 false) ma mb)):=⟨d7 Af BO c.h d.h (cT _)⟩
theorem LC (c:QE X a ma)(d:QE X b mb):QT X (.Compare a [.IsNot] [b] pos) (aT (aB (i9 true) ma mb)):=⟨d7 Ag BP c.h d.h (cT _)⟩
end
end L3
namespace L3
open PySem L2
section
variable {X:Cx}{e a b c o:Expr}{m m1 m2 ma mb mc mo:ME}{pos apos cpos:Vl}{mt mu:MT}{bU es:List Expr}{ms:MA}{n:Nat}
noncomputable def jX (d:Hm):D->Bool
 | .rol _=>true
 | .loc a=>match d[a]? with|some (.lst _)=>true|_=>false
 | _=>false
noncomputable def gZ (f:D->List D->Hm->Option (D×Hm))(mo:ME)(ms:MA):ME:=fun d g=>(mo d g).bind fun p=>match jX p.2 p.1 with
 | true=>(ms d p.2).bind fun q=>f p.1 q.1 q.2
 | false=>none
noncomputable def jB (K:Ta)(f:D->List D->Hm->Option (D×Hm))(r:V->List V->Hp->VK->Prop):Prop:=
 ∀ i H g x l d h v j Q,Rp K i H g->IsD K i g.length H v x->IsDs K i g.length H j l->f x l g=some (d,h)->KC K Q i g.length H d h->r v j H Q
theorem LF {K:Ta}{π:Nat->Addr}{H:Hp}{d:Hm}{v:V}{x:D}(R:Rp K π H d)(h:IsD K π d.length H v x)(e:jX d x=true):u7 K "list" v H:=by
 cases h with
 | rol h t=>exact .inl ⟨rfl,_,h.sq⟩
 | @loc a p=>
  simp only [jX] at e
  split at e
  ·rename_i l i
   obtain ⟨j,g,_⟩:=R.lst a l i
   exact .inl ⟨rfl,j,.of g⟩
  ·cases e
 | _=>cases e
theorem LG {K:Ta}{f:D->List D->Hm->Option (D×Hm)}{r:V->List V->Hp->VK->Prop}(G:jB K f r):∀ σ H Q,tM K (gZ f mo ms) σ H Q->u9 K "list" r (tM K mo) (dY K ms) σ H Q:=by
 rintro σ H Q ⟨O,y,N,d,j,R,E,g,k⟩
 obtain ⟨⟨x,h⟩,A,g⟩:=S9.mp g
 dsimp only at g
 split at g
 ·rename_i I
  obtain ⟨⟨w,i⟩,B,g⟩:=S9.mp g
  refine ⟨O,y,N,x,h,R,E,A,fun l L T s q v=>⟨LF q v I,l,y,h,w,i,q,E.mono s,B,fun p M z u R2 J=>?_⟩⟩
  exact G p z i x w d j L M Q R2 (v.mono u) J g (k.after (s.trans u))
 ·cases g
noncomputable def fW:Expr->Bool
 | .Call (.Name _ _) [] [] _=>false
 | _=>true
theorem jY {o:Expr}{i:Str}{env:Yi}{d:a1a Te}(h:fW o=true):Wq o i env d=d:=by
 cases o with
 | Call f g j p=>
  cases f with
  | Name id q=>
   cases g with
   | nil=>
    cases j with
    | nil=>cases h
    | cons _ _=>rfl
   | cons _ _=>rfl
  | _=>rfl
 | _=>rfl
theorem wG {e:Expr}{es:List Expr}{env:Yi}{cpos:Vl}(h:(e::es).all dN=true)(i:(e::es).length<30) :
  ((Vv cpos (T8 (e::es) env)).all (fun x=>!x.1)&&(Xp cpos (Wg [] env)).all (fun x=>x.1.isSome)
   && decide ((e::es).length+([]:List Wx).length+(if ([]:List Wx).isEmpty then 0 else 1)<30))=true:=by
 have d:(Vv cpos (T8 (e::es) env)).all (fun x=>!x.1)=true:=by
  have:=gW (pos:=cpos) (env:=env) h
  rw [ZP]
  simpa using this
 rw [d]
 have g:(e::es).length+([]:List Wx).length+(if ([]:List Wx).isEmpty then 0 else 1)<30:=by
  show (e::es).length+0+0<30
  omega
 rw [decide_eq_true g]
 rfl
theorem BQ {f:D->List D->Hm->Option (D×Hm)}{r:V->List V->Hp->VK->Prop}{name:Str}{id:String}(slot:Slot "list" name id) (h:a1W (.builtin id)=pure (.type "method_descriptor")) (p:kT X id r)(j:jB X.K f r)
  (s:QE X o mo)(i:QA X (e::es) ms n)(u:fW o=true)(l:(apos.endLine == cpos.line)=true)(q:(e::es).length<30):QE X (.Call (.Attribute o name apos) (e::es) [] cpos) (gZ f mo ms):=by
 have g:=i.s
 have d:=g
 rw [Ur,To] at d
 exact ⟨cG (AG PySem.F.plainAttrs_list slot h p s.h i.h (jY u) (wG g q) l (eF d.1) (gW d.2)) (LG j)⟩
noncomputable def iN:D->List D->Hm->Option (D×Hm)
 | .loc a,[y],μ=>(nL μ a y).map fun d=>(.non,d)
 | _,_,_=>none
noncomputable def nS:D->List D->Hm->Option (D×Hm)
 | .loc a,[.loc b],μ=>match μ[a]?,μ[b]? with
  | some (.lst xs),some (.lst ys)=>if xs.length+ys.length<=TC then some (.non,μ.set a (.lst (xs++ys))) else none
  | _,_=>none
 | _,_,_=>none
theorem LH {K:Ta}{π:Nat->Addr}{n:Nat}{H:Hp}{vs:List V}{ds:List D}(h:IsDs K π n H vs ds):IsDs K π n H vs.reverse ds.reverse:=by
 induction ds generalizing vs with
 | nil=>cases h;exact .nil
 | cons d ds g=>
  cases h with
  | cons h t=>
   rw [Wj,Wj]
   exact (g t).append (.cons h .nil)
theorem LI {K:Ta}:jB K iN AH:=by
 intro I H M x L d E v J Q R A i h k
 unfold iN at h
 split at h
 ·rename_i a y
  obtain ⟨G,g,h⟩:=Tg.mp h
  cases h
  unfold nL at g
  split at g
  ·rename_i r q
   split at g
   ·rename_i w
    cases g
    obtain ⟨j,l,p⟩:=R.lst a r q
    cases A
    cases i with
    | cons B z=>
     cases z
     obtain ⟨u,s⟩:=R.put (a:=a) (c:=.lst (r++[y])) (o:=.lst (j++[_])) (Tf.mp q).1 l (.inl ⟨j,rfl⟩) (p.append (.cons B .nil))
     exact ⟨_,j,_,rfl,rfl,l,by rw [p.length];exact w,k I _ _ u s .non⟩
   ·cases g
  ·cases g
 ·cases h
theorem LJ {K:Ta}:jB K nS AJ:=by
 intro L H O x N d J v M Q R G h g k
 unfold nS at g
 split at g
 ·rename_i a b
  split at g
  ·rename_i u s q B
   split at g
   ·rename_i A
    cases g
    obtain ⟨i,j,l⟩:=R.lst a u q
    obtain ⟨r,z,p⟩:=R.lst b s B
    cases G
    cases h with
    | cons I E=>
     cases E
     cases I
     obtain ⟨y,w⟩:=R.put (a:=a) (c:=.lst (u++s)) (o:=.lst (i++r)) (Tf.mp q).1 j (.inl ⟨i,rfl⟩) (l.append p)
     exact ⟨_,_,i,r,rfl,rfl,j,z,by rw [l.length,p.length];exact A,k L _ _ y w .non⟩
   ·cases g
  ·cases g
 ·cases g
noncomputable def nT (d:Hm):D->Option Bool
 | .non=>some false
 | .bl b=>some b
 | .int i=>some (i != 0)
 | .str z=>if z.length<=TC then some ((z.length:Int) != 0) else none
 | .tup xs=>some (!xs.isEmpty)
 | .rol xs=>some (!xs.isEmpty)
 | .loc a=>match d[a]? with|some (.lst xs)=>some (!xs.isEmpty)|some (.dK kvs)=>some (!kvs.isEmpty)|_=>none
 | .ty _=>none
theorem rZ {g i:Type}{xs:List g}{d:List i}(h:xs.length=d.length):xs.isEmpty=d.isEmpty:=by
 cases xs<;>cases d<;>first|rfl|cases h
theorem LK {K:Ta}{π:Nat->Addr}{H:Hp}{q:Hm}{v:V}{x:D}{b:Bool}(R:Rp K π H q)(h:IsD K π q.length H v x)(e:nT q x=some b):uS K v H b:=by
 cases h with
 | non=>cases e;rfl
 | bl c=>cases e;rfl
 | int i=>cases e;rfl
 | str z=>
  simp only [nT] at e
  split at e
  ·rename_i r;cases e;exact ⟨r,rfl⟩
  ·cases e
 | tup h t=>cases e;exact .inr (.inl ⟨_,h,by rw [rZ t.length]⟩)
 | rol h t=>cases e;exact .inl ⟨_,h.sq,by rw [rZ t.length]⟩
 | @loc a u=>
  simp only [nT] at e
  split at e
  ·rename_i s j
   cases e
   obtain ⟨p,d,g⟩:=R.lst a s j
   exact .inl ⟨p,.of d,by rw [rZ g.length]⟩
  ·rename_i l j
   cases e
   obtain ⟨p,d,g,_⟩:=R.dK a l j
   refine .inr (.inr ⟨p,d,?_⟩)
   have:=congrArg Uo g
   rw [Tc,Tc] at this
   rw [rZ this]
  ·cases e
 | ty n=>cases e
noncomputable def eY (m:ME):MT:=fun g d=>(m g d).bind fun p=>(nT p.2 p.1).map fun b=>(b,p.2)
theorem LL (h:QE X e m)(r:v8 e=true):QT X e (eY m):=⟨rC (GY h.h (KZ r)) (by
 rintro G H Q ⟨y,z,u,b,v,R,E,d,k⟩
 obtain ⟨⟨x,w⟩,p,d⟩:=S9.mp d
 obtain ⟨A,q,d⟩:=Tg.mp d
 cases d
 exact ⟨y,z,u,x,_,R,E,p,fun g B j l i s=>⟨_,LK i s q,k g j l i⟩⟩)⟩
theorem LM {k:Nat}{f:Addr}{j:Vo}{ps:List Str}{l:MF}{x:Str}{p:Vl}(F:FnOk X.prog X.w X.K X.mg X.base dI k f j ps (dJ X.K 0 l))(v:Room k X.A)(g:X.mg x=some (.ref f))
  (u:Va X.K (.ref f)=true)(r:Binds X.K j ps [])(s:Gl X x)(h:(x == ("__debug__":Str))=false):QE X (.Call (.Name x p) [] [] pos) (aG l aD):=
 ⟨cG (Ht F v s g u r .nil (E:=E0) o7 h) (by
  rintro G H Q ⟨z,B,w,d,i,R,E,g,k⟩
  obtain ⟨⟨A,y⟩,q,g⟩:=S9.mp g
  cases q
  exact ⟨rfl,z,[],w,d,i,R,.nil,g,k⟩)⟩
theorem LN:QS X (.Return none pos) (bC (mC .non)):=⟨iW Gn (by
 rintro E r H ⟨h,q,p,l,i,g,R,j,d,k⟩
 cases d
 exact k h .non H .refl R .non)⟩
end
end L3
namespace L3
open PySem L2
section
variable {X:Cx}
end
end L3
namespace L3
open PySem L2
open PyProof.Rows (IntsAre)
open PySem.W (KasT kas_asc kas_desc kas_tail3 kas_descPart kas_count kas_place kas_bin kas_sort kas_rev kas_ask)
noncomputable def pK {b:Type}(ans:Nat->Nat->Bool):a3I b->b
 | .ret a=>a
 | .ask i j k=>pK ans (k (ans i j))
noncomputable def InR {c:Type}(n:Nat)(R:c->Prop):a3I c->Prop
 | .ret a=>R a
 | .ask i j k=>i<n/\j<n/\∀ b,InR n R (k b)
theorem InR.mono {d:Type}{n:Nat}{R c:d->Prop}(h:∀ a,R a->c a):∀ {t:a3I d},InR n R t->InR n c t
 | .ret a,q=>h a q
 | .ask i j k,q=>⟨q.1,q.2.1,fun b=>InR.mono h (q.2.2 b)⟩
theorem InR.bind {c g:Type}{n:Nat}{R:c->Prop}{d:g->Prop}{f:c->a3I g}(e:∀ a,R a->InR n d (f a)):∀ {t:a3I c},InR n R t->InR n d (t.bind f)
 | .ret a,q=>e a q
 | .ask i j k,q=>⟨q.1,q.2.1,fun b=>InR.bind e (q.2.2 b)⟩
theorem BR {c:Type}{n:Nat}{R:c->Prop}{ans:Nat->Nat->Bool}{b:Nat->Nat->(Bool->Th->Prop)->Th->Prop}{s:Th}(hc:∀ i j (C:Bool->Th->Prop),i<n->j<n->C (ans i j) s->b i j C s){Q:c->Th->Prop} :
  ∀ {t:a3I c},InR n R t->Q (pK ans t) s->t.kasWp b Q s
 | .ret a,_,q=>q
 | .ask i j k,h,q=>hc i j _ h.1 h.2.1 (BR hc (h.2.2 _) q)
theorem BS {b:Type}{n:Nat}{R:b->Prop}{ans:Nat->Nat->Bool}:∀ {t:a3I b},InR n R t->R (pK ans t)
 | .ret a,q=>q
 | .ask i j k,h=>BS (t:=k (ans i j)) (h.2.2 _)
section
variable {n:Nat}
noncomputable def IxOk (n:Nat)(p:Array Nat):Prop:=p.Perm (Ui n).toArray
theorem IxOk.lt {p:Array Nat}(h:IxOk n p)(c:0<n)(i:Nat):p.getD i 0<n:=by
 by_cases a:i<p.size
 ·have e:p.getD i 0=p[i]:=by simp [VG,a]
  rw [e]
  have d:p[i]∈p:=Array.getElem_mem a
  have b:p[i]∈(Ui n).toArray:=h.mem_iff.mp d
  simpa using b
 ·have e:p.getD i 0=0:=by simp [VG,a]
  rw [e];exact c
theorem IxOk.rev {p:Array Nat}(h:IxOk n p)(i j:Nat):IxOk n (Za p i j):=(a2V _ _ _ _).trans h
theorem IxOk.bub {p:Array Nat}(h:IxOk n p)(i j:Nat):IxOk n (a3c p i j):=(a3b _ _ _).trans h
theorem wH {p:Array Nat}(h:IxOk n p)(a:0<n):∀ (f m:Nat),InR n (fun _=>True) (kas_asc p f m)
 | 0,m=>trivial
 | f+1,m=>⟨h.lt a _,h.lt a _,fun b=>by
   cases b with
   | true=>exact trivial
   | false=>exact wH h a f (m+1)⟩
theorem r6 (a:0<n):∀ (f:Nat)(p:Array Nat)(m q:Nat),IxOk n p->InR n (fun r=>IxOk n r.1) (a3z f p m q)
 | 0,p,m,q,h=>h
 | f+1,p,m,q,h=>⟨h.lt a _,h.lt a _,fun b=>by
   cases b with
   | true=>
    show InR n _ (if q>0 then a3z f (Za p (m - (q+1)) m) (m+1) 0 else a3z f p (m+1) 0)
    split
    ·exact r6 a f _ _ _ (h.rev _ _)
    ·exact r6 a f _ _ _ h
   | false=>
    refine ⟨h.lt a _,h.lt a _,fun d=>?_⟩
    cases d with
    | true=>exact h
    | false=>exact r6 a f _ _ _ h⟩
theorem BU (c:0<n){p:Array Nat}(h:IxOk n p)(a r:Nat):InR n (fun r=>IxOk n r.2) (a0H a r p):=
 by
 have b:IxOk n (Za p 0 a):=h.rev 0 a
 unfold a0H
 refine InR.bind (R:=fun _=>True) (fun m _=>?_) (wH b c _ _)
 exact b
theorem BV (b:0<n){p:Array Nat}(h:IxOk n p)(a r:Nat):InR n (fun r=>IxOk n r.2) (a0W a r p):=
 InR.bind (fun q c=>by
  show InR n _ (if q.2.2>0 then a0H q.2.1 r (Za q.1 (q.2.1 - (q.2.2+1)) q.2.1) else a0H q.2.1 r q.1)
  split
  ·exact BU b (c.rev _ _) _ _
  ·exact BU b c _ _) (r6 b _ _ _ _ h)
theorem LO (a:0<n){p:Array Nat}(h:IxOk n p)(r:Nat):InR n (fun r=>IxOk n r.2) (kas_count r p):=
 InR.bind (fun m _=>by
  show InR n _ (if (m == r)=true then a0s (m,p) else if m>1 then KasT.ask (p.getD 0 0) (p.getD (m - 1) 0) (fun c=>if c=true then a0s (m,p) else a0W m r (Za p 0 m)) else a0W m r p)
  split
  ·exact h
  ·split
   ·refine ⟨h.lt a _,h.lt a _,fun b=>?_⟩
    cases b with
    | true=>exact h
    | false=>exact BV a (h.rev _ _) _ _
   ·exact BV a h _ _) (wH h a _ _)
theorem wI {p:Array Nat}(h:IxOk n p)(a:0<n)(k:Nat):∀ (f l r:Nat),InR n (fun _=>True) (a2x p k f l r)
 | 0,l,r=>trivial
 | f+1,l,r=>by
  show InR n _ (if l >= r then a0s l else KasT.ask (p.getD k 0) (p.getD ((l+r) / 2) 0) fun c=>if c=true then a2x p k f l ((l+r) / 2) else a2x p k f ((l+r) / 2+1) r)
  split
  ·exact trivial
  ·refine ⟨h.lt a _,h.lt a _,fun b=>?_⟩
   cases b with
   | true=>exact wI h a k f _ _
   | false=>exact wI h a k f _ _
theorem BW (a:0<n):∀ (f:Nat)(p:Array Nat)(k:Nat),IxOk n p->InR n (IxOk n) (kas_bin f p k)
 | 0,p,k,h=>h
 | f+1,p,k,h=>InR.bind (fun l _=>BW a f _ _ (h.bub _ _)) (wI h a k _ _ _)
theorem BX (a:0<n):InR n (IxOk n) (a3y n):=
 InR.bind (fun r b=>by
  show InR n _ (if r.1<n then kas_bin (n - max r.1 1) r.2 (max r.1 1) else a0s r.2)
  split
  ·exact BW a _ _ _ b
  ·exact b) (LO a (Array.Perm.refl _) n)
end
noncomputable def eH (lt:Nat->Nat->Bool)(n:Nat):List Nat:=(pK lt (a3y n)).toList
theorem wJ (lt:Nat->Nat->Bool){n:Nat}(a:0<n):(eH lt n).Perm (Ui n):=by
 have h:IxOk n (pK lt (a3y n)):=BS (BX a)
 have:=Array.perm_iff_toList_perm.mp h
 simpa [eH] using this
section
variable {X:Cx}{a3J:List (Addr×Obj)}{σ:St}{H:Hp}{s:Th}
end
theorem BY {prog:T3}{w:Uk}{A:Ug}{s:Th}{Q:Bool->Th->Prop}:∀ {us vs:List Te}{ns ms:List Int}(i:Nat),Yn us ns->Yn vs ms->Q (HT.lexLt ns ms) s->
  PySem.W.KatLex prog w A true (decide (us.length<vs.length)) Q (us.zip vs) i s
 | _,_,_,_,i,.nil,.nil,h=>by exact h
 | _,_,_,_,i,.nil,.cons c u hv,h=>by
  show Q (decide (0<_+1)) s
  rw [decide_eq_true (X4 _)]
  exact h
 | _,_,_,_,i,.cons a t hu,.nil,h=>by
  show Q (decide (_+1<0)) s
  rw [decide_eq_false (WJ _)]
  exact h
 | _,_,_,_,i,.cons (vs:=us) (ns:=ns) a t hu,.cons (vs:=vs) (ns:=ms) c u hv,h=>by
  rw [HT.lexLt_cons] at h
  refine PySem.W.kat_cons (SeqAt.EqAt.int_int a t c u prog w _ _ ?_)
  by_cases e:a=c
  ·subst e
   rw [if_pos rfl] at h
   rw [beq_self_eq_true]
   refine PySem.W.kat_yes ?_
   have:=BY (prog:=prog) (w:=w) (A:=A) (s:=s) (Q:=Q) (i+1) hu hv h
   have d:decide ((UB a t::us).length<(UB a u::vs).length)=decide (us.length<vs.length):=by simp
   rw [d]
   exact this
  ·rw [if_neg e] at h
   have b:(a == c)=false:=by simpa using e
   rw [b]
   refine PySem.W.kat_no ?_
   cases g:(true&&i == 0) with
   | true=>exact a2T h
   | false=>exact PySem.W.kat_one _ _ (a2W h)
noncomputable abbrev TupsV (K:Ta)(H:Hp):List V->List (List Int)->Prop:=Xl fun v t=>∃ a,v=V.ref a/\SqT K H a (t.map V.int)
theorem TupsV.get {K:Ta}{H:Hp}:∀ {vs:List V}{b:List (List Int)}{i:Nat},TupsV K H vs b->i<vs.length->∃ a,vs[i]? = some (V.ref a)/\SqT K H a ((b.getD i []).map V.int)
 | _,_,_,.nil,h=>by simp at h
 | _,_,0,.cons ⟨a,e,q⟩ _,_=>⟨a,by rw [e];rfl,q⟩
 | _,_,i+1,.cons _ t,h=>by
  obtain ⟨a,e,q⟩:=TupsV.get (i:=i) t (by simpa using h)
  exact ⟨a,by simpa using e,q⟩
section
open PyProof.Rows
variable {prog:T3}{w:Uk}{A:Ug}{E:Te->Th->Prop}{s:Th}
theorem LP {c:Addr}{us:List Te}{z:Nat}{R:Fin->Th->Prop}(h:us.length<2)(g:s.heap.get? c=some (UZ "list" us.toArray z)) (q:R (.done (.ret .none)) { s with heap:=Z1 s.heap c us us.toArray }) :
  TX (T7 prog w) A (Builtin.«list.sort» ⟨[.ref c],[]⟩) R E s:=by
 rw [ZH]
 have lt:c<s.heap.objs.size:=TB g
 refine Td (a0V g rfl (Td (Xn g rfl ?_)))
 obtain ⟨y,d⟩:∃ y,(s.heap.update c (Vc fun _=>#[])).get? c=some (UZ "list" #[] y):=⟨_,ZI g _⟩
 refine Td (XX d rfl (Td (Yx (Td (X1 (U6 ?_))))))
 have e:(((s.heap.update c (Vc fun _=>#[])).push (UZ "tuple" us.toArray 0)).push (UZ "list" #[] 0)).get? c=some (UZ "list" #[] y):=
  Ti _ (Ti _ d)
 show TX (T7 prog w) A _ R E ⟨((s.heap.update c (Vc fun _=>#[])).push (UZ "tuple" us.toArray 0)).push (UZ "list" #[] 0),s.gens,s.drawn,s.toks,s.os⟩
 dsimp only
 have a:us.toArray.size<2:=by simpa using h
 rw [if_pos a,if_pos a]
 refine Td (Tr ?_)
 rw [StateT.run_pure]
 refine Td (Tr ?_)
 dsimp only
 have b:a3q (fun x=>x.2) (a1I (Yp general' (us.toArray.zip us.toArray) #[] 7 none))=us.toArray:=by
  show a3q (fun x=>x.2) (us.toArray.zip us.toArray)=us.toArray
  exact Array.ext (by simp) (fun i j l=>by simp)
 refine Td (XX e rfl (Td (Xn e rfl ?_ (hsz2:=by rw [b,T5];omega))))
 rw [b]
 simp only [bne_self_eq_false,Tw,if_false]
 exact Tr q
end
theorem LQ (lt:Nat->Nat->Bool):eH lt 1=[0]:=rfl
theorem BZ (lt:Nat->Nat->Bool):eH lt 0=[]:=rfl
theorem pL (lt:Nat->Nat->Bool)(n:Nat):(eH lt n).Perm (Ui n):=by
 cases n with
 | zero=>rw [BZ];exact .nil
 | succ n=>exact wJ lt (X4 n)
section
variable {X:Cx}
end
section
variable {X:Cx}
end
end L3
namespace L3
open PySem L2
noncomputable def CAt (K:Ta)(x:Str)(C:Addr):Prop:=V6 K US x=some (some (.ref C))
theorem CAt.eq {K:Ta}{x:Str}{C a:Addr}(h:CAt K x C)(h':CAt K x a):C=a:=by
 unfold CAt at h h'
 rw [h] at h'
 cases h'
 rfl
theorem wK {K:Ta}{π:Nat->Addr}{n:Nat}{H:Hp}{k:Str}:∀ (us:List (Str×V))(fs:List (Str×D)),us.map (·.1)=fs.map (·.1)->IsDs K π n H (us.map (·.2)) (fs.map (·.2))->(fs.lookup k=none->us.lookup k=none)/\∀ d,fs.lookup k=some d->∃ v,us.lookup k=some v/\IsD K π n H v d
 | [],[],_,_=>⟨fun _=>rfl,fun d h=>nomatch h⟩
 | [],_::_,e,_=>nomatch e
 | _::_,[],e,_=>nomatch e
 | (y,v)::us,(z,d)::fs,e,i=>by
  rw [Tq,Tq,XI] at e
  obtain ⟨a,b⟩:=e
  dsimp only at a
  subst a
  cases i with
  | cons j l=>
   obtain ⟨c,g⟩:=wK us fs b l
   simp only [VC]
   cases o:k == y with
   | true=>exact ⟨fun h=>(nomatch h),fun m h=>by cases h;exact ⟨v,rfl,j⟩⟩
   | false=>exact ⟨c,g⟩
noncomputable def fX (f:Str)(v:D):List (Str×D)->List (Str×D)
 | []=>[(f,v)]
 | (g,x)::r=>if g=f then (g,v)::r else (g,x)::fX f v r
theorem B0 {K:Ta}{π:Nat->Addr}{n:Nat}{H:Hp}{k:Str}{v:V}{d:D}(a:IsD K π n H v d):∀ (us:List (Str×V))(fs:List (Str×D)),us.map (·.1)=fs.map (·.1)->IsDs K π n H (us.map (·.2)) (fs.map (·.2))->
  (dH k v us).map (·.1)=(fX k d fs).map (·.1)/\IsDs K π n H ((dH k v us).map (·.2)) ((fX k d fs).map (·.2))
 | [],[],_,_=>⟨rfl,.cons a .nil⟩
 | [],_::_,e,_=>nomatch e
 | _::_,[],e,_=>nomatch e
 | (y,w)::us,(z,d')::fs,e,i=>by
  rw [Tq,Tq,XI] at e
  obtain ⟨b,c⟩:=e
  dsimp only at b
  subst b
  cases i with
  | cons l g=>
   obtain ⟨h,j⟩:=B0 a us fs c g
   unfold dH fX
   split
   ·exact ⟨by rw [Tq,Tq,c],.cons a g⟩
   ·exact ⟨by rw [Tq,Tq,h],.cons l j⟩
noncomputable def jC (x f:Str)(m:ME):ME:=fun c b=>(m c b).bind fun p=>match p.1 with
 | .loc a=>(match p.2[a]? with
  | some (.ins y fs)=>if y=x then (fs.lookup f).map fun d=>(d,p.2) else none
  | _=>none)
 | _=>none
noncomputable def k5 (x f:Str)(c mv:ME):MS:=fun b d=>(mv b d).bind fun p=>(c b p.2).bind fun q=>match q.1 with
 | .loc a=>(match q.2[a]? with
  | some (.ins y fs)=>if y=x/\fs.length<100 then some (.nx,b,q.2.set a (.ins y (fX f p.1 fs))) else none
  | _=>none)
 | _=>none
noncomputable def hJ (x m:Str)(c:MF)(d:ME)(ms:MA):ME:=fun b e=>(d b e).bind fun p=>match p.1 with
 | .loc a=>(match p.2[a]? with
  | some (.ins y fs)=>if y=x/\fs.lookup m=none then (ms b p.2).bind fun q=>c (.loc a::q.1) q.2 else none
  | _=>none)
 | _=>none
noncomputable def k7 (x:Str)(a:MF)(ms:MA):ME:=fun c b=>(ms c b).bind fun q=>(a (.loc q.2.length::q.1) (q.2++[.ins x []])).bind fun r=>match r.1 with
 | .non=>some (.loc q.2.length,r.2)
 | _=>none
theorem Rp.insAt {K:Ta}{π:Nat->Addr}{H:Hp}{c:Hm}(R:Rp K π H c){a:Nat}{x:Str}{fs:List (Str×D)}{C:Addr}(h:c[a]? = some (.ins x fs))(hc:CAt K x C):∃ b vs,H (π a)=some (.ins C b vs)/\vs.map (·.1)=fs.map (·.1)/\IsDs K π c.length H (vs.map (·.2)) (fs.map (·.2)):=by
 obtain ⟨o,d,j,b,vs,rfl,e,g,i⟩:=R.ins a x fs h
 obtain rfl:=CAt.eq hc e
 exact ⟨b,vs,d,g,i⟩
section
variable {X:Cx}{o e value:Expr}{x f m:Str}{C:Addr}{mo mv:ME}{ms:MA}{pos pos' apos cpos:Vl}{k n:Nat}{g:Addr}{fd:Vo}{ps:List Str}{fm:MF}
theorem LR (I:QE X o mo)(J:fW o=true)(hC:CAt X.K x C)(c:Cls X.K C)(N:NoAttr X.K C f):QE X (.Attribute o f pos) (jC x f mo):=
 ⟨cG (Hf I.h (jY J)) (by
  rintro σ H Q ⟨π,ρ,U,d,Y,R,E,l,M⟩
  unfold jC at l
  obtain ⟨⟨d1,Z⟩,B,h⟩:=S9.mp l
  dsimp only at h
  split at h
  ·rename_i a
   split at h
   ·rename_i y fs K
    split at h
    ·rename_i b
     subst b
     obtain ⟨d2,G,h⟩:=Tg.mp h
     cases h
     refine ⟨π,ρ,U,_,_,R,E,B,fun i v q s j L=>?_⟩
     cases L
     obtain ⟨r,p,u,z,A⟩:=j.insAt K hC
     obtain ⟨w,O,T⟩:=(wK p fs z A).2 _ G
     exact ⟨_,C,r,p,w,rfl,u,c,N,O,M i w q s j T⟩
    ·cases h
   ·cases h
  ·cases h)⟩
theorem LS (Y:QE X o mo)(Z:QE X value mv)(U:iL value=true)(hC:CAt X.K x C)(c:Cls X.K C)(na:NoAttr X.K C f):QS X (.Assign [.Attribute o f pos'] value pos) (k5 x f mo mv):=
 ⟨iW (Hg Y.h Z.h (rS U)) (by
  rintro D σ H ⟨π,L,μ,fl,ρ',μ',R,E,I,kc⟩
  unfold k5 at I
  obtain ⟨⟨d,b⟩,Q,h⟩:=S9.mp I
  obtain ⟨⟨d2,r⟩,T,G⟩:=S9.mp h
  clear h
  have h:=G
  clear G
  dsimp only at h
  split at h
  ·rename_i a
   split at h
   ·rename_i y fs K
    split at h
    ·rename_i q
     obtain ⟨rfl,hl⟩:=q
     cases h
     refine ⟨π,L,μ,_,b,R,E,Q,fun s v H1 l M i1=>⟨s,L,b,_,r,M,E.mono l,T,fun u v2 H2 p R2 i2=>?_⟩⟩
     cases i2
     obtain ⟨j,i,A,B,O⟩:=R2.insAt K hC
     have J:i.length=fs.length:=by simpa using congrArg Uo B
     obtain ⟨p1,p2⟩:=B0 (k:=f) (i1.mono p) i fs B O
     obtain ⟨w,N⟩:=R2.putE (c:=.ins y (fX f d fs)) (o:=.ins C j (dH f v i)) (Tf.mp K).1 A ⟨fun _ z=>(nomatch z),fun _ _ z=>(nomatch z)⟩ ⟨C,j,_,rfl,hC,p1,p2⟩
     exact ⟨_,C,j,i,rfl,A,c,na,by omega,kc u _ _ ((l.trans p).trans w) N (((E.mono l).mono p).mono w)⟩
    ·cases h
   ·cases h
  ·cases h)⟩
theorem B1 {env:Yi}{args:List Expr}(l:fW o=true)(i:(apos.endLine == cpos.line)=true)(c:args.all dN=true)(j:args.length<30):eval (.Call (.Attribute o m apos) args [] cpos) env=(do
   let d <- eval o env
   a0T apos.atName
   let (f,first) <- holding [d] (Zs d m (do return (<- importBound o env).getD true))
   a3E cpos f first (Vv cpos (T8 args env)) (Xp cpos (Wg [] env))):=by
 have h:(Vv cpos (T8 args env)).all (fun x=>!x.1)=true:=by
  have:=gW (pos:=cpos) (env:=env) c
  rw [ZP]
  simpa using this
 have a:a3x (args.length+([]:List Wx).length) (Vv cpos (T8 args env)) (Xp cpos (Wg [] env))=true:=by
  unfold a3x
  rw [h]
  simpa [Xp,Wg] using j
 have b:methodCallPos true o env apos cpos=pure cpos:=by unfold methodCallPos;simp [i]
 rw [arm_eval_Call,jY l]
 congr 1
 funext d
 congr 1
 funext _
 unfold methodCall
 rw [a]
 unfold calleeOf
 simp only [if_true]
 congr 1
 funext p
 rw [b]
 rfl
theorem B2 {K:Ta}{E:XK}(hC:CAt K x C)(Y:∀ i q ds μ',ms i q=some (ds,μ')->ds.length=n):∀ σ H Q,tM K (hJ x m fm mo ms) σ H Q->uY C m (dJ K (n+1) fm) [] E (tM K mo) (dY K ms) σ H Q:=by
 rintro σ H Q ⟨π,i,q,d,μ',R,E,A,kc⟩
 unfold hJ at A
 obtain ⟨⟨d1,b⟩,T,h⟩:=S9.mp A
 dsimp only at h
 split at h
 ·rename_i a
  split at h
  ·rename_i y fs Z
   split at h
   ·rename_i l
    obtain ⟨rfl,j⟩:=l
    obtain ⟨⟨p,c⟩,B,h⟩:=S9.mp h
    refine ⟨π,i,q,_,b,R,E,T,fun r v H1 w u i1=>?_⟩
    cases i1
    rename_i U
    obtain ⟨L,I,M,N,O⟩:=u.insAt Z hC
    refine ⟨_,L,I,rfl,M,(wK I fs N O).1 j,r,i,b,p,c,u,E.mono w,B,fun s ws J z R2 G=>?_⟩
    show dJ K (n+1) fm (_::(ws++[])) J Q _
    rw [UM]
    refine ⟨by rw [T6,G.length,Y i b p c B],s,.loc a::p,c,d,μ',R2,.cons ((IsD.loc U).mono z) G,h,kc.after (w.trans z)⟩
   ·cases h
  ·cases h
 ·cases h
theorem LU {d:List Expr}(p:QE X o mo)(r:fW o=true)(i:(apos.endLine == cpos.line)=true)(hC:CAt X.K x C)(c:Cls X.K C)(j:Meth X.K C m g)(F:FnOk X.prog X.w X.K X.mg X.base dI k g fd ps (dJ X.K (n+1) fm))(q:Room k X.A)(h:Binds X.K fd ps [])(b:QA X (e::d) ms n)(l:(e::d).length<30) :
  QE X (.Call (.Attribute o m apos) (e::d) [] cpos) (hJ x m fm mo ms):=by
 have a:=b.s
 rw [Ur,To] at a
 exact ⟨cG (Hu p.h c j F q h .nil (E:=E0) o7 b.h (eF a.1) (gW a.2) (B1 r i b.s l)) (B2 hC b.l)⟩
theorem LV (I:QE X o mo)(K:fW o=true)(B:(apos.endLine == cpos.line)=true)(hC:CAt X.K x C)(c:Cls X.K C)(G:Meth X.K C m g)(F:FnOk X.prog X.w X.K X.mg X.base dI k g fd ps (dJ X.K 1 fm))(J:Room k X.A)(z:Binds X.K fd ps []) :
  QE X (.Call (.Attribute o m apos) [] [] cpos) (hJ x m fm mo aD):=
 ⟨cG (Hv I.h c G F J z .nil (E:=E0) o7 (B1 K B rfl (by decide))) fun σ H Q h=>by
  obtain ⟨Y,Z,O,d,i,R,E,w,N⟩:=B2 (n:=0) (E:=E0) hC A2 σ H Q h
  refine ⟨Y,Z,O,d,i,R,E,w,fun j v p s q L=>?_⟩
  obtain ⟨a,r,fs,u,A,b,l,ρ2,T,xs,U,R2,E2,y,M⟩:=N j v p s q L
  cases y
  exact ⟨a,r,fs,u,A,b,M l [] p .refl R2 .nil⟩⟩
theorem LW {K:Ta}{E:XK}(hC:CAt K x C)(Y:∀ j i ds μ',ms j i=some (ds,μ')->ds.length=n):∀ σ H Q,tM K (k7 x fm ms) σ H Q->Am C (dJ K (n+1) fm) [] E (dY K ms) σ H Q:=by
 rintro σ H Q ⟨π,j,i,d,μ',R,E,B,kc⟩
 unfold k7 at B
 obtain ⟨⟨u,a⟩,G,h⟩:=S9.mp B
 obtain ⟨⟨d2,μ2⟩,I,h⟩:=S9.mp h
 dsimp only at h I
 split at h
 ·cases h
  refine ⟨π,j,i,u,a,R,E,G,fun b ws L U N J p c Z hd q=>?_⟩
  obtain ⟨y,R2⟩:=N.fresh (o:=.own p) hd
  obtain ⟨z,O,p3⟩:=R2.alloc (p:=p) (c:=.ins x []) (o:=.ins C c []) (by rw [bI (Uu q)];exact Z) ⟨C,c,[],rfl,hC,rfl,.nil⟩
  show dJ K (n+1) fm (_::(ws++[])) _ _ _
  rw [UM]
  have l:a.length<(a++[L3.C.ins x []]).length:=by rw [Tz];exact Ve _
  have r:IsD K (fD b a.length p) (a++[L3.C.ins x []]).length (aO (aO L c (.own p)) p (.ins C c [])) (V.ref (fD b a.length p a.length)) (.loc a.length):=IsD.loc l
  rw [p3] at r
  refine ⟨by rw [T6,J.length,Y j i u a G],_,.loc a.length::u,_,.non,_,O,.cons r ((J.mono y).mono z),I,fun w v M A T i4=>?_⟩
  cases i4
  have s:=r.mono A
  exact ⟨rfl,kc w _ M (((U.trans y).trans z).trans A) T s⟩
 ·cases h
theorem LX {i:List Expr}{p:Vl}(M:Mk X.K C g)(hC:CAt X.K x C)(F:FnOk X.prog X.w X.K X.mg X.base dI k g fd ps (dJ X.K (n+1) fm))(r:Room (k+1) X.A)(q:Gl X x)(l:Binds X.K fd ps [])(c:QA X (e::i) ms n)(d:(x == ("__debug__":Str))=false) :
  QE X (.Call (.Name x p) (e::i) [] pos) (k7 x fm ms):=by
 have a:=c.s
 rw [Ur,To] at a
 refine ⟨fun b s j H Q I h=>?_⟩
 exact Hx M F r q (Yc I.mod.kin I.mod.glob hC) l .nil (E:=E0) o7 c.h d (eF a.1) (gW a.2) b s j H Q I (LW hC c.l j H Q h)
end
end L3
namespace L3
open PySem L2
theorem LY {X:Cx}{e:Expr}{m:ME}(h:∀ c b,m c b=none):QE X e m:=⟨fun a3J s σ H Q I t=>by
 obtain ⟨j,c,b,d,g,R,E,a,i⟩:=t
 rw [h] at a
 cases a⟩
end L3
namespace L3
open PySem L2 PySem.W PyProof.Rows
section
variable {M:a3H}{A:Ug}{E:Te->Th->Prop}{σ:Type}
theorem B3 {a:Type}{f:Nat->a->StateT σ a1a (ForInStep a)}{st:σ}{s:Th}{Q:a->σ->Th->Prop}(d:Nat->a->Prop)(j:a->Prop)(n:Nat)
  (step:∀ i x b,i<n->d i b->a3A M A E (f x b) (fun r g u=>g=st/\u=s/\match r with|.done c=>j c|.yield c=>d (i+1) c) st s)(aS:∀ b,d n b->j b)(k:∀ b,j b->Q b st s) :
  ∀ (l:List Nat)(i:Nat)(b:a),i+l.length=n->d i b->a3A M A E (forIn l b f) Q st s
 | [],i,b,h,hI=>kasC_nil (k b (aS b (by simp at h;subst h;exact hI)))
 | x::l,i,b,h,hI=>by
  rw [T6] at h
  refine a0I (Uy (step i x b (by omega) hI) (fun r u q=>?_) fun _ _ e=>e)
  obtain ⟨r,g⟩:=r
  obtain ⟨m,o,p⟩:=q
  dsimp only at m o
  subst m o
  cases r with
  | done c=>exact k c p
  | yield c=>exact B3 d j n step aS k l (i+1) c (by omega) p
end
section
variable {prog:T3}{w:Uk}{A:Ug}{E:Te->Th->Prop}{κ:SortKind}{st:Z8}{s:Th}
noncomputable def r8 (prog:T3)(w:Uk)(A:Ug)(κ:SortKind)(s:Th)(X:V8->Prop)(an:V8->V8->Bool):Prop:=
 ∀ (x y:V8)(C:Bool->Th->Prop),X x->X y->C (an x y) s->TX (T7 prog w) A (keyLt' κ x.1 y.1) C (fun _ _=>False) s
theorem LZ {X:V8->Prop}{an:V8->V8->Bool}(hC:r8 prog w A κ s X an)(c:kindOf st=κ){x y:V8}(d:X x)(e:X y){Q:Option Bool->Z8->Th->Prop}(q:Q (some (an x y)) st s):a3A (T7 prog w) A E (lt' x y) Q st s:=by
 rw [lt'_eq]
 refine VX (Z4 ?_)
 rw [c]
 exact VX (kasC_lift (a0w (Uy (hC x y (fun b a=>b=an x y/\a=s) d e ⟨rfl,rfl⟩) (fun b a z=>by obtain ⟨rfl,rfl⟩:=z;exact WH q) fun _ _ f=>f.elim)))
theorem B4 {ar:Array V8}{i:Nat}{x:V8}{Q:V8->Z8->Th->Prop}(h:ar[i]? = some x)(q:Q x st s):a3A (T7 prog w) A E (elem' ar i) Q st s:=by
 rw [elem'_eq,h];exact WH q
theorem B5 {X:V8->Prop}{an:V8->V8->Bool}(hC:r8 prog w A κ s X an)(c:a2X st=κ){i j:Nat}{x y:V8}(a:(a1I st)[i]? = some x)(b:(a1I st)[j]? = some y)(d:X x)(e:X y){Q:Option Bool->Z8->Th->Prop}(q:Q (some (an x y)) st s):a3A (T7 prog w) A E (ltAt' i j) Q st s:=by
 rw [ltAt'_eq]
 refine VX (Z4 ?_)
 refine VX (B4 a (VX (B4 b (LZ hC c d e q))))
theorem L0 {X:V8->Prop}{an:V8->V8->Bool}(hC:r8 prog w A κ s X an){n:Nat}(u:2<=n){ar:Array V8}(v:ar.size=n+1){m:Array (Nat×Nat×Nat)}{mg:Nat}(g:∀ (i:Nat)(x:V8),ar[i]? = some x->X x)(K:Nat)(r:K<=n)
  (h:∀ (i:Nat)(x z:V8),i+1<n->ar[i+1]? = some x->ar[i]? = some z->an x z=false)(j:∀ x z,ar[0]? = some x->ar[n - 1]? = some z->an x z=true)(hB:∀ (i:Nat)(x z:V8),i<n->ar[i]? = some x->ar[n]? = some z->an z x=decide (K<=i))
  {Q:Option Nat->Z8->Th->Prop}(q:Q (some (if K=n then n+1 else n)) (Yp κ ar m mg none) s):a3A (T7 prog w) A E (countRun' 0 (n+1)) Q (Yp κ ar m mg none) s:=by
 have a:∀ i,i<n+1->ar[i]? = some (ar.getD i (.none,.none)):=fun i p=>by
  rw [Wz (by omega)]
  simp [VG,show i<ar.size by omega]
 unfold countRun'
 refine VX (a1Y (B3 (fun i c=>c=(none,i+1)/\(K<n->i<n)) (fun c=>c=(none,if K=n then n+1 else n)) n (fun i x c p d=>?_) (fun c d=>?_) (fun c o=>?_) _ 0 _ (by simp) ⟨rfl,fun _=>by omega⟩))
 ·obtain ⟨rfl,d⟩:=d
  dsimp only
  refine VX (B5 hC rfl (i:=0+(i+1)) (j:=0+(i+1) - 1) (x:=ar.getD (i+1) (.none,.none)) (y:=ar.getD i (.none,.none)) ?_ ?_ (g _ _ (a (i+1) (by omega))) (g _ _ (a i (by omega))) ?_)
  ·rw [YL];exact a (i+1) (by omega)
  ·rw [YL];exact a i (by omega)
  dsimp only
  by_cases l:i+1<n
  ·rw [h i _ _ l (a (i+1) (by omega)) (a i (by omega)),if_neg Uc]
   exact WH ⟨rfl,rfl,rfl,fun _=>l⟩
  ·have e:i+1=n:=by omega
   have z:=hB i _ _ (by omega) (a i (by omega)) (a n (by omega))
   rw [e,z]
   by_cases b:K<=i
   ·rw [decide_eq_true b,if_pos rfl]
    exact WH ⟨rfl,rfl,by dsimp only;rw [if_neg (by omega)]⟩
   ·rw [decide_eq_false b,if_neg Uc]
    exact WH ⟨rfl,rfl,rfl,fun _=>by omega⟩
 ·obtain ⟨rfl,d⟩:=d
  rw [if_pos (by omega)]
 ·subst o
  dsimp only
  by_cases b:K=n
  ·rw [if_pos b,if_pos (by simp)]
   rw [if_pos b] at q
   exact WH q
  ·rw [if_neg b,if_neg (by simp),if_pos (by omega)]
   rw [if_neg b] at q
   refine VX (B5 hC rfl (i:=0) (j:=0+n - 1) (x:=ar.getD 0 (.none,.none)) (y:=ar.getD (n - 1) (.none,.none)) (a 0 (by omega)) ?_ (g _ _ (a 0 (by omega))) (g _ _ (a (n - 1) (by omega))) ?_)
   ·rw [YL];exact a (n - 1) (by omega)
   rw [j _ _ (a 0 (by omega)) (a (n - 1) (by omega))]
   dsimp only
   rw [if_pos rfl]
   exact WH q
theorem L1 {n:Nat}(a:64<=n+1)(b:n+1<128):minRun' (n+1) (n+1) 0=(n+1) / 2+(n+1) % 2:=by
 obtain ⟨f,rfl⟩:∃ f,n=f+1:=⟨n - 1,by omega⟩
 rw [minRun'_succ,if_neg (by omega),minRun'_succ,if_pos (by omega),Nat.zero_max]
theorem L4 {X:V8->Prop}{an:V8->V8->Bool}(hC:r8 prog w A κ s X an){n:Nat}(r:63<=n)(u:n<127){ar:Array V8}(h:ar.size=n+1){mg:Nat}(o:∀ (i:Nat)(x:V8),ar[i]? = some x->X x)(K:Nat)(m:K<=n)
  (e:K=n)
  (c:∀ (i:Nat)(x z:V8),i+1<n->ar[i+1]? = some x->ar[i]? = some z->an x z=false)(j:∀ x z,ar[0]? = some x->ar[n - 1]? = some z->an x z=true)(hB:∀ (i:Nat)(x z:V8),i<n->ar[i]? = some x->ar[n]? = some z->an z x=decide (K<=i))
  {Q:Unit->Z8->Th->Prop}(q:∀ b:Z8,a3D b=none->(a1I b).toList=(ar.toList.take K)++(ar.toList.drop n)++((ar.toList.take n).drop K)->Q () b s):a3A (T7 prog w) A E sortRuns' Q (Yp κ ar #[] mg none) s:=by
 have l:∀ a,WM a (n+1 - 0)=a::(a+1)::(a+2)::WM (a+3) (n - 2):=fun a=>by
  obtain ⟨f,rfl⟩:∃ f,n=f+2:=⟨n - 2,by omega⟩
  rfl
 have g:=L1 (n:=n) (by omega) (by omega)
 have p:(a1I (Yp κ ar #[] mg none)).size=n+1:=h
 rw [sortRuns'_eq]
 refine VX (Z4 ?_)
 dsimp only
 simp only [h,g]
 refine VX (a1Y ?_)
 rw [l 0]
 refine a0I ?_
 dsimp only
 rw [if_neg (by omega),a0b]
 refine VX (L0 hC (by omega) h o K m c j hB ?_)
 dsimp only
 by_cases d:K=n
 ·rw [if_pos d,if_neg (by omega)]
  refine VX (Z4 ?_)
  refine VX (kasC_modify (WH ?_))
  dsimp only
  refine a0I ?_
  dsimp only
  rw [if_pos (by omega)]
  refine WH ?_
  dsimp only
  refine VX (a1Y ?_)
  rw [l 0]
  refine a0I ?_
  refine VX (Z4 ?_)
  rw [if_pos (by show 1<=1;exact Tt _)]
  refine WH ?_
  dsimp only
  refine WH (q _ rfl ?_)
  show ar.toList=_
  rw [d,X0 (l:=ar.toList.take n) (by simp;omega),UM,Vx]
 ·exact absurd e d
end
noncomputable def jD {a:Type}(us:List a)(n K:Nat):List a:=us.take K++us.drop n++(us.take n).drop K
theorem L5 {a b:Type}(f:a->b)(us:List a)(n K:Nat):(jD us n K).map f=jD (us.map f) n K:=by
 unfold jD
 simp only [TM,XG,ZD]
theorem L6 {a:Type}{us:List a}{n K:Nat}(h:us.length=n+1)(b:K<=n):(jD us n K).length=n+1:=by
 unfold jD
 simp
 omega
section
variable {prog:T3}{w:Uk}{A:Ug}{E:Te->Th->Prop}{s:Th}
theorem B6 (us:List Te):(us.toArray.zip us.toArray).toList=us.map fun u=>(u,u):=by
 simp only [Array.toList_zip]
 induction us with
 | nil=>rfl
 | cons u us a=>simpa using a
structure Near (us:List Te)(n K:Nat)(an:Te->Te->Bool):Prop where
 len:us.length=n+1
 le:K<=n
 asc:∀ (i:Nat)(x z:Te),i+1<n->us[i+1]? = some x->us[i]? = some z->an x z=false
 ris:∀ x z,us[0]? = some x->us[n - 1]? = some z->an x z=true
 at_:∀ (i:Nat)(x z:Te),i<n->us[i]? = some x->us[n]? = some z->an z x=decide (K<=i)
noncomputable def wL (prog:T3)(w:Uk)(A:Ug)(us:List Te)(an:Te->Te->Bool)(s:Th):Prop:=
 TX (T7 prog w) A (keyKind' us.toArray) (fun b a=>a=s/\∀ (x y:Te)(C:Bool->Th->Prop),x∈us->y∈us->C (an x y) s->TX (T7 prog w) A (keyLt' b x y) C (fun _ _=>False) s) (fun _ _=>False) s
theorem k8 {us:List Te}{i:Nat}{p:V8}(h:(us.toArray.zip us.toArray)[i]? = some p):us[i]? = some p.1/\p=(p.1,p.1):=by
 rw [<- UO,B6,TH] at h
 obtain ⟨u,a,rfl⟩:=Tg.mp h
 exact ⟨a,rfl⟩
theorem L7 {c:Addr}{us:List Te}{n K z:Nat}{an:Te->Te->Bool}(N:Near us n K an)(Y:63<=n)(Z:n<127){R:a2P->Th->Prop}(g:s.heap.get? c=some (UZ "list" us.toArray z))
  (J:K=n)
  (H:∀ Q:UW,(∀ b o,b≠c->s.heap.get? b=some o->Q.get? b=some o)->wL prog w A us an { s with heap:=Q })
  (q:R (.done (.ret .none)) { s with heap:=Z1 s.heap c us (jD us n K).toArray }) :
  TX (T7 prog w) A (Builtin.«list.sort» ⟨[.ref c],[]⟩) R E s:=by
 rw [ZH]
 have l:=N.len
 have lt:c<s.heap.objs.size:=TB g
 refine Td (a0V g rfl (Td (Xn g rfl ?_ (by rw [TN,T5];omega) (Uz _))))
 obtain ⟨y,M⟩:∃ y,(s.heap.update c (Vc fun _=>#[])).get? c=some (UZ "list" #[] y):=⟨_,ZI g _⟩
 refine Td (XX M rfl (Td (Yx (Td (X1 (U6 ?_) (Uz _))) (by show us.length<=_;rw [T5];omega))))
 have O:(((s.heap.update c (Vc fun _=>#[])).push (UZ "tuple" us.toArray 0)).push (UZ "list" #[] 0)).get? c=some (UZ "list" #[] y):=
  Ti _ (Ti _ M)
 have B:=H (((s.heap.update c (Vc fun _=>#[])).push (UZ "tuple" us.toArray 0)).push (UZ "list" #[] 0)) fun b o hb e=>Ti _ (Ti _ ((Wb _ _ (Uu hb)).trans e))
 show TX (T7 prog w) A _ R E ⟨((s.heap.update c (Vc fun _=>#[])).push (UZ "tuple" us.toArray 0)).push (UZ "list" #[] 0),s.gens,s.drawn,s.toks,s.os⟩
 dsimp only
 have j:¬ us.toArray.size<2:=by rw [TN];omega
 rw [if_neg j,if_neg j]
 refine Td (Uy B (fun κ L I=>?_) fun _ _ x=>x.elim)
 obtain ⟨rfl,I⟩:=I
 have run:=L4 (prog:=prog) (w:=w) (A:=A) (E:=E) (κ:=κ) (X:=fun p=>∃ u∈us,p=(u,u)) (an:=fun x y=>an x.1 y.1)
  (s:={ s with heap:=((s.heap.update c (Vc fun _=>#[])).push (UZ "tuple" us.toArray 0)).push (UZ "list" #[] 0) })
  (fun x y C a hy hc=>by
   obtain ⟨u,hu,rfl⟩:=a
   obtain ⟨v,hv,rfl⟩:=hy
   exact I u v C hu hv hc) Y Z (ar:=us.toArray.zip us.toArray) (mg:=7) (by simp [l]) (fun i x a=>⟨x.1,Ue (k8 a).1,(k8 a).2⟩) K N.le
  J
  (fun i x z G a m=>N.asc i _ _ G (k8 a).1 (k8 m).1) (fun x z a m=>N.ris _ _ (k8 a).1 (k8 m).1) (fun i x z G a m=>N.at_ i _ _ G (k8 a).1 (k8 m).1)
  (Q:=fun _ d L=>L = { s with heap:=((s.heap.update c (Vc fun _=>#[])).push (UZ "tuple" us.toArray 0)).push (UZ "list" #[] 0) }/\a3D d=none/\(a1I d).map (·.2)=(jD us n K).toArray) (fun d U X=>⟨rfl,U,by
   apply a1q.mp
   rw [Array.toList_map,X,B6]
   show (jD (us.map fun u=>(u,u)) n K).map _=_
   rw [<- L5,TF]
   exact YZ _⟩)
 refine Td (Uy run (fun r L hr=>?_) fun _ _ e=>e)
 obtain ⟨⟨⟩,d⟩:=r
 obtain ⟨rfl,T,h⟩:=hr
 dsimp only at T h ⊢
 rw [h]
 refine Td (XX O rfl (Td (Xn O rfl ?_ (hsz2:=by rw [TN,L6 l N.le,T5];omega))))
 rw [T]
 simp only [bne_self_eq_false,Tw,if_false]
 exact Tr q
end
section
variable {X:Cx}{a3J:List (Addr×Obj)}{σ:L2.St}{H:Hp}{s:Th}
theorem L8 (I:L2.Inv X a3J σ H s){a:Addr}{t t':List Int}(h:SqT X.K H a (t.map V.int))(h':SqT X.K H a (t'.map V.int)):t=t':=
 (List.map_inj_right fun x y h=>by cases h;rfl).mp (I.tuple_inj h h')
open Classical in
noncomputable def tv (K:Ta)(H:Hp):Te->List Int
 | .ref a=>if h:∃ t:List Int,SqT K H a (t.map V.int) then h.choose else []
 | _=>[]
theorem B7 (I:L2.Inv X a3J σ H s){a:Addr}{t:List Int}(h:SqT X.K H a (t.map V.int)):tv X.K H (.ref a)=t:=by
 unfold tv
 have b:∃ t:List Int,SqT X.K H a (t.map V.int):=⟨t,h⟩
 exact (dif_pos b).trans (L8 I b.choose_spec h)
end
end L3
namespace L3
open PySem PySem.Spec
namespace Tb
section
variable {prog:T3}{w:Uk}{A:Ug}{E:Te->Th->Prop}{s:Th}
noncomputable abbrev IsT (prog:T3)(w:Uk)(h:UW)(k:List Int)(b:Addr):Prop:=IsTupleKey (Wi prog w) h k b
end
section
variable {prog:T3}{w:Uk}{A:Ug}{R:Z9->Th->Prop}{I:Addr}{fp wr:List Addr}{G:Array a1M->Array a1M->Prop}{n:Nat}{P:Nat->Te->Prop}{St:Nat->Th->Prop}
end
section
variable {prog:T3}{w:Uk}{A:Ug}{E:Te->Th->Prop}{s:Th}
noncomputable abbrev eW (a:Bool):Obj:={ cls:=.type "set",dict:=none,data:=.set #[] 0 (.fresh 0 0 a) }
end
end Tb
end L3
namespace L3
open PySem L2
open PyProof.Rows (IntsAre)
theorem r9:∀ {ds:List D}{k:List Int},mK ds=some k->ds=k.map D.int
 | [],k,h=>by cases h;rfl
 | d::ds,k,h=>by
  cases d with
  | int i=>
   obtain ⟨c,a,b⟩:=Tg.mp h
   subst b
   rw [r9 a];rfl
  | _=>cases h
theorem L9 {x:D}{k:List Int}(h:eA x=some k):x=.tup (k.map D.int):=by
 cases x with
 | tup ds=>rw [r9 h]
 | _=>cases h
noncomputable def fY (b:Hm):D->Option (List D)
 | .rol xs=>some xs
 | .loc a=>match b[a]? with
  | some (.lst xs)=>some xs
  | _=>none
 | _=>none
section
variable {K:Ta}{π:Nat->Addr}{n:Nat}{H:Hp}{μ:Hm}
theorem nU {v:V}{x:D}{xs:List D}(R:Rp K π H μ)(h:IsD K π μ.length H v x)(e:fY μ x=some xs):∃ p vs,v=.ref p/\SqL K H p vs/\IsDs K π μ.length H vs xs:=by
 cases h with
 | rol q t=>cases e;exact ⟨_,_,rfl,q.sq,t⟩
 | @loc a g=>
  simp only [fY] at e
  split at e
  ·rename_i i d
   cases e
   obtain ⟨vs,b,c⟩:=R.lst a xs d
   exact ⟨_,vs,rfl,.of b,c⟩
  ·cases e
 | _=>cases e
theorem ints_of':∀ {vs:List V}{k:List Int},IsDs K π n H vs (k.map D.int)->vs=k.map V.int
 | _,[],h=>by cases h;rfl
 | _,i::k,h=>by
  cases h with
  | cons h t=>cases h;rw [ints_of' t];rfl
theorem B8:∀ (k:List Int),IsDs K π n H (k.map V.int) (k.map D.int)
 | []=>.nil
 | i::k=>.cons (.int i) (B8 k)
end
theorem B9 {X:Cx}:∀ {k:List Int}{xs:List Te},Vals (k.map V.int) xs->ItemsAre (Wi X.prog X.w) k xs
 | [],_,h=>by cases h;exact .nil
 | i::k,_,h=>by
  cases h with
  | cons h t=>
   obtain ⟨a,rfl⟩:=h
   exact .cons (intKind_is _ _ _ _) (B9 t)
section
variable {X:Cx}{a3J:List (Addr×Obj)}{σ:St}{H:Hp}{s:Th}
theorem nV (I:Inv X a3J σ H s){b:Addr}{k:List Int}(h:SqT X.K H b (k.map V.int)):Tb.IsT X.prog X.w s.heap k b:=by
 obtain ⟨i,g,⟨a,e,c,n,d⟩,_⟩:=I.tuple h
 exact ⟨a,i.toArray,n,e,c,d,by simpa using B9 g⟩
theorem call_lenT:CallR X (.builtin "len") (fun xs H Q=>∃ a L,xs=[V.ref a]/\H a=some (rB a L)/\Q (.int L.length) H):=by
 intro a3J s σ H xs A Q I r h
 obtain ⟨a,L,rfl,e,q⟩:=h
 obtain ⟨u,rfl,y⟩:=fC r
 cases y
 obtain ⟨⟨o,p,x,d,z,t,R,c,hd,g,ok,v,n,l,i,w,j⟩,_,_⟩:=I.hok a _ e
 have b:d.size=L.length:=by
  have:=v.length_eq
  simpa using this
 have m:t.mask<=511:=by rcases l with h|h|h|h<;>omega
 refine call_len_set p c hd (Tb.fits_of ok g) (by rw [b];omega) ?_
 rw [b]
 exact ⟨.int L.length,H,I.tok _,⟨_,rfl⟩,q⟩
end
end L3
namespace L3
open PySem L2
end L3
namespace L3
open PySem L2
open PyProof.Rows (IntsAre Fr News seqObj)
section
variable {prog:T3}{w:Uk}{A:Ug}{E:Te->Th->Prop}{s:Th}{h₀:UW}{L:Addr}{m:Str->Option Te}{news:List (Addr×Obj)}
end
section
variable {X:Cx}{a3J:List (Addr×Obj)}{σ:St}{H:Hp}{s:Th}
end
end L3
namespace L3
open PySem
open PySem.W (KasT kas_asc kas_desc kas_tail3 kas_descPart kas_count kas_place kas_bin kas_sort kas_rev)
open PyProof.Rows (mirror bubble getElem?_bubble getElem?_mirror_all mirror_size bubble_size)
section
variable {ans:Nat->Nat->Bool}{κ:Nat->Nat}(hk:∀ i j,ans i j=decide (κ i<κ j))
noncomputable def gK (κ:Nat->Nat)(p:Array Nat)(k:Nat):Nat:=κ (p.getD k 0)
theorem Ca {p q:Array Nat}{k m:Nat}(h:p[k]? = q[m]?):p.getD k 0=q.getD m 0:=by
 have e:∀ (a:Array Nat)(i:Nat),a.getD i 0=(a[i]?).getD 0:=fun a i=>by
  by_cases b:i<a.size
  ·simp [VG,b]
  ·simp [VG,b]
 rw [e,e,h]
theorem Ma {p:Array Nat}{i j:Nat}(a:j<=p.size)(k:Nat):gK κ (Za p i j) k=if i<=k/\k<j then gK κ p (i+j - 1 - k) else gK κ p k:=by
 have h:=getElem?_mirror_all (i:=i) a k
 by_cases c:i<=k/\k<j
 ·rw [if_pos c] at h ⊢
  exact congrArg κ (Ca h)
 ·rw [if_neg c] at h ⊢
  exact congrArg κ (Ca h)
structure Falls (κ:Nat->Nat)(p:Array Nat)(n q:Nat):Prop where
 fall:∀ i j,i<=j->j<n->gK κ p j<=gK κ p i
 alike:∀ k,n - 1 - q<=k->k<n->gK κ p k=gK κ p (n - 1)
 qn:q<n
theorem Falls.rev {p:Array Nat}{n q:Nat}(F:Falls κ p n q)(a:n<=p.size):∀ k,gK κ (Za p (n - (q+1)) n) k=gK κ p k:=fun k=>by
 rw [Ma a]
 split
 ·rename_i c
  have:=F.qn
  rw [F.alike (n - (q+1)+n - 1 - k) (by omega) (by omega),F.alike k (by omega) c.2]
 ·rfl
theorem Falls.same {p c:Array Nat}{n q:Nat}(F:Falls κ p n q)(h:∀ k,gK κ c k=gK κ p k):Falls κ c n q:=
 ⟨fun i j a b=>by rw [h,h];exact F.fall i j a b,fun k a b=>by rw [h,h];exact F.alike k a b,F.qn⟩
end
section
variable {α:Type}{lt:α->α->Bool}(irr:∀ a,lt a a=false)(tr:∀ a b c,lt a b=true->lt b c=true->lt a c=true)(nt:∀ a b c,lt a b=true->lt a c=true\/lt c b=true)
end
end L3
namespace L3
open PySem L2
section
variable {X:Cx}{a b c:Expr}{ma mb mc:ME}{pos:Vl}
noncomputable def k9 (f g:D->D->Hm->Option (D×Hm))(a b c:ME):ME:=fun d e=>(a d e).bind fun p=>(b d p.2).bind fun q=>(f p.1 q.1 q.2).bind fun r=>match r.1 with
 | .bl true=>(c d r.2).bind fun t=>g q.1 t.1 t.2
 | .bl false=>some (.bl false,r.2)
 | _=>none
theorem Cb {f g:D->D->Hm->Option (D×Hm)}{r J:R2}{K:Ta}(hf:cH K f r)(hg:cH K g J):∀ σ H Q,tM K (k9 f g ma mb mc) σ H Q->uR r J (tM K ma) (tM K mb) (tM K mc) σ H Q:=by
 rintro σ H Q ⟨π,w,μ,d,q,R,E,e,k⟩
 obtain ⟨⟨x,h⟩,Y,e⟩:=S9.mp e
 obtain ⟨⟨y,i⟩,Z,e⟩:=S9.mp e
 obtain ⟨⟨z,j⟩,h3,e⟩:=S9.mp e
 refine ⟨π,w,μ,x,h,R,E,Y,fun s v1 H1 n T i1=>⟨s,w,h,y,i,T,E.mono n,Z,fun u L M o R2 I=>?_⟩⟩
 refine hf u M i x y z j v1 L _ R2 (i1.mono o) I h3 fun m v3 N p A i3=>?_
 cases z with
 | bl B=>
  cases i3
  refine ⟨B,rfl,?_⟩
  cases B with
  | true=>
   refine l8 ?_
   obtain ⟨⟨t,l⟩,h4,e⟩:=S9.mp e
   exact ⟨m,w,j,t,l,A,((E.mono n).mono o).mono p,h4,fun v v4 O G U i4=>hg v O l y t d q L v4 Q U ((I.mono p).mono G) i4 e (k.after (((n.trans o).trans p).trans G))⟩
  | false=>
   refine l7 ?_
   cases e
   exact k m _ N ((n.trans o).trans p) A (.bl false)
 | _=>cases e
noncomputable def jZ:WN->Option (Int->Int->Bool)
 | .Lt=>some fun i j=>decide (i<j)
 | .LtE=>some fun i j=>decide (i<=j)
 | .Gt=>some fun i j=>decide (j<i)
 | .GtE=>some fun i j=>decide (j<=i)
 | _=>none
theorem nW {op:WN}{p:Int->Int->Bool}(h:jZ op=some p):OpR X (UG op) (fS fun i j=>.bl (p i j))/\(op=.Lt\/op=.LtE\/op=.Gt\/op=.GtE):=by
 cases op<;>first|(cases h;first|exact ⟨uN,by simp⟩|exact ⟨uO,by simp⟩|exact ⟨uP,by simp⟩|exact ⟨uQ,by simp⟩)|cases h
theorem Cd {op d:WN}(h':d=.Lt\/d=.LtE\/d=.Gt\/d=.GtE):a2w [op,d] [b,c]=false:=by
 show Wo d c=false
 rcases h' with rfl|rfl|rfl|rfl<;>exact cT _
theorem Mb {op d:WN}{p q:Int->Int->Bool}(h:jZ op=some p)(h':jZ d=some q)(e:QE X a ma)(g:QE X b mb)(hc:QE X c mc):QE X (.Compare a [op,d] [b,c] pos) (k9 (fF p) (fF q) ma mb mc):=
 ⟨cG (GU (nW h).1 (nW h').1 e.h g.h hc.h (Cd (nW (X:=X) h').2)) (Cb gU gU)⟩
theorem Mc {op d:WN}{p q:Int->Int->Bool}(h:jZ op=some p)(h':jZ d=some q)(g:QE X a ma)(i:QE X b mb)(hc:QE X c mc):QT X (.Compare a [op,d] [b,c] pos) (aT (k9 (fF p) (fF q) ma mb mc)):=
 ⟨rC (GV (nW h).1 (nW h').1 g.h i.h hc.h (Cd (nW (X:=X) h').2)) fun e H Q h=>Cb gU gU e H _ (A1 e H Q h)⟩
noncomputable def sA (d:Bool):D->D->Hm->Option (D×Hm)
 | .bl b,.bl c,μ=>some (.bl (if d then !(b == c) else b == c),μ)
 | .int _,.bl _,μ=>some (.bl d,μ)
 | _,_,_=>none
noncomputable def hU (d:Bool):D->D->Hm->Option (D×Hm):=fun x y e=>match y with
 | .bl _=>sA d x y e
 | _=>i9 d x y e
noncomputable def wM (d:Bool):R2:=fun x y H Q=>∃ c,y=.bl c/\((∃ b,x=.bl b/\Q (.bl (if d then !(b == c) else b == c)) H)\/((∃ i,x=.int i)/\Q (.bl d) H))
theorem sC {K:Ta}{g:Bool}:cH K (sA g) (wM g):=by
 intro j H o x y d l m n Q R h i e k
 unfold sA at e
 split at e
 ·cases e;cases h;cases i
  exact ⟨_,rfl,.inl ⟨_,rfl,k j _ H .refl R (.bl _)⟩⟩
 ·cases e;cases h;cases i
  exact ⟨_,rfl,.inr ⟨⟨_,rfl⟩,k j _ H .refl R (.bl _)⟩⟩
 ·cases e
theorem Ce:OpR X (UG .Is) (wM false):=by
 intro e s j H x y v u Q I d g h
 obtain ⟨c,rfl,h⟩:=h
 cases g
 rcases h with ⟨b,rfl,q⟩|⟨⟨i,rfl⟩,q⟩
 ·cases d
  exact Tr (l6 I q (by cases b<;>cases c<;>rfl))
 ·obtain ⟨t,rfl⟩:=d
  exact Tr (l6 I q rfl)
theorem Cf:OpR X (UG .IsNot) (wM true):=by
 intro e s j H x y v u Q I d g h
 obtain ⟨c,rfl,h⟩:=h
 cases g
 rcases h with ⟨b,rfl,q⟩|⟨⟨i,rfl⟩,q⟩
 ·cases d
  exact Tr (l6 I q (by cases b<;>cases c<;>rfl))
 ·obtain ⟨t,rfl⟩:=d
  exact Tr (l6 I q rfl)
theorem sD {d:Bool}(x y:D)(e:Hm)(r:D×Hm)(h:hU d x y e=some r):sA d x y e=some r\/i9 d x y e=some r:=by
 unfold hU at h
 split at h
 ·exact .inl h
 ·exact .inr h
theorem Md (d:QE X a ma)(e:QE X b mb):QE X (.Compare a [.Is] [b] pos) (aB (hU false) ma mb):=mJ ⟨dZ Ce sC d.h e.h (cT _)⟩ (Lz d e) (fV sD)
theorem Me (d:QE X a ma)(e:QE X b mb):QE X (.Compare a [.IsNot] [b] pos) (aB (hU true) ma mb):=mJ ⟨dZ Cf sC d.h e.h (cT _)⟩ (LA d e) (fV sD)
theorem Mf (d:QE X a ma)(e:QE X b mb):QT X (.Compare a [.Is] [b] pos) (aT (aB (hU false) ma mb)):=nQ ⟨d7 Ce sC d.h e.h (cT _)⟩ (LB d e) (nR (fV sD))
theorem Mg (d:QE X a ma)(e:QE X b mb):QT X (.Compare a [.IsNot] [b] pos) (aT (aB (hU true) ma mb)):=nQ ⟨d7 Cf sC d.h e.h (cT _)⟩ (LC d e) (nR (fV sD))
end
section
variable {X:Cx}
theorem Cg {a3J:List (Addr×Obj)}{σ:St}{H:Hp}{s d c:Th}{n:List Addr}(I:Inv X a3J σ H s)(m:Moved n (fun a b=>b=a) d c)(p:∀ b o,s.heap.get? b=some o->d.heap.get? b=some o)(hw:∀ b∈n,s.heap.objs.size<=b)(g:d.gens=s.gens/\d.drawn=s.drawn/\d.os=s.os):Inv X a3J σ H c:=by
 have l:∀ b o,s.heap.get? b=some o->c.heap.get? b=some o:=fun b o e=>m.heap b o (fun z=>absurd (T9 (TB e) (hw b z)) (VA _)) (p b o e)
 have h:c.gens=s.gens:=m.gens.trans g.1
 have i:c.drawn=s.drawn:=m.drawn.trans g.2.1
 have j:c.os=s.os:=m.os.trans g.2.2
 obtain ⟨v,u,r,q,w⟩:=c
 dsimp only at h i j l
 subst h i j
 exact I.kept (t':=q) l
theorem sE {a:List Int}{its:List Te}(r:Vals (a.map V.int) its){i:Nat}{v:Te}(h:its.toArray[i]? = some v):∃ t,v=.int (a.getD i 0) t:=by
 have b:its[i]? = some v:=by simpa using h
 have d:i<a.length:=by
  have:=(Tf.mp b).1
  have:=r.length
  rw [Tc] at this
  omega
 obtain ⟨u,c,e⟩:=r.get (i:=i) (x:=.int a[i]) (by rw [TH,TV d];rfl)
 rw [b] at c
 cases c
 obtain ⟨t,rfl⟩:=e
 exact ⟨t,by simp [V1,d]⟩
end
noncomputable def sF:MF:=fun ds a=>match ds with
 | [.int i,.int j]=>some (.int (if j<i then j else i),a)
 | _=>none
noncomputable def sG:MF:=fun ds a=>match ds with
 | [.int i,.int j]=>some (.int (if j>i then j else i),a)
 | _=>none
theorem Mh {K:Ta}:cP K sF (fun xs H Q=>∃ i j,xs=[.int i,.int j]/\Q (.int (if j<i then j else i)) H):=by
 intro g H l xs d e h Q R i a k
 unfold sF at a
 split at a
 ·cases a
  cases i with
  | cons i t=>
   cases i
   cases t with
   | cons b c=>
    cases b
    cases c
    exact ⟨_,_,rfl,k g _ H .refl R (.int _)⟩
 ·cases a
theorem Mi {K:Ta}:cP K sG (fun xs H Q=>∃ i j,xs=[.int i,.int j]/\Q (.int (if j>i then j else i)) H):=by
 intro g H l xs d e h Q R i a k
 unfold sG at a
 split at a
 ·cases a
  cases i with
  | cons i t=>
   cases i
   cases t with
   | cons b c=>
    cases b
    cases c
    exact ⟨_,_,rfl,k g _ H .refl R (.int _)⟩
 ·cases a
noncomputable def dD {b:Type}(xs:List b)(lo a st:Option Int):List b:=(Z3 (VI lo a st xs.length).1 (VI lo a st xs.length).2.1 (VI lo a st xs.length).2.2).filterMap (xs[·]?)
noncomputable def mL (a:ME)(lo d st:MO):ME:=fun b e=>(a b e).bind fun p=>(lo b p.2).bind fun q=>(d b q.2).bind fun r=>(st b r.2).bind fun t=>
 if t.1≠some 0 then (fY t.2 p.1).bind fun c=>if (dD c q.1 r.1 t.1).length<=TC then some (.loc t.2.length,t.2++[.lst (dD c q.1 r.1 t.1)]) else none else none
theorem Mj {K:Ta}{π:Nat->Addr}{n:Nat}{H:Hp}{vs:List V}{ds:List D}(h:IsDs K π n H vs ds)(lo a st:Option Int):IsDs K π n H (dD vs lo a st) (dD ds lo a st):=by
 unfold dD
 rw [h.length]
 generalize Z3 _ _ _=l
 induction l with
 | nil=>exact .nil
 | cons i l b=>
  rw [Vu,Vu]
  cases a:ds[i]? with
  | none=>
   have:vs[i]? = none:=by
    rw [Ux] at a ⊢
    rw [h.length];exact a
   rw [this]
   exact b
  | some d=>
   obtain ⟨v,c,e⟩:=h.get a
   rw [c]
   exact .cons e b
theorem Ml {vs:List V}{its:List Te}(r:Vals vs its)(lo a st:Option Int):Vals (dD vs lo a st) (dD its lo a st):=by
 unfold dD
 rw [r.length]
 generalize Z3 _ _ _=l
 induction l with
 | nil=>exact .nil
 | cons i l b=>
  rw [Vu,Vu]
  cases a:vs[i]? with
  | none=>
   have:its[i]? = none:=by
    rw [Ux] at a ⊢
    rw [<- r.length];exact a
   rw [this]
   exact b
  | some v=>
   obtain ⟨u,c,d⟩:=r.get a
   rw [c]
   exact .cons d b
section
variable {X:Cx}{e:Expr}{te:TE}{lo hi:Option Expr}{st:Expr}{tl th tt:TO}{pos p2:Vl}
noncomputable def Mm (K:Ta)(te:TE)(tl th tt:TO):TE:=fun σ H Q=>te σ H fun x c=>tl σ c fun l d=>th σ d fun u g=>tt σ g fun t b=>t≠some 0/\∃ a xs,x=.ref a/\SqL K b a xs/\(dD xs l u t).length<=TC/\∀ p,b p=none->Q (.ref p) (aO b p (.lst (dD xs l u t)))
open PyProof.Rows in
theorem Mn (N:PE X e te)(O:PO X lo tl)(T:PO X hi th)(R:PO X (some st) tt):PE X (.Subscript e (.Slice lo hi (some st) p2) pos) (Mm X.K te tl th tt):=by
 intro c s i H Q I h
 refine Z7 (aW (N c s i H _ I h) fun v s1 ⟨x,z,G,r1,q1⟩=>?_)
 refine wpAny_Slice (aW (O c s1 i z _ G q1) fun p s2 ⟨l,A,J,pl,q2⟩=>aW (T c s2 i A _ J q2) fun y s3 ⟨u,B,K,pu,q3⟩=>aW (R c s3 i B _ K q3) fun w d ⟨t,E,L,pt,q4⟩=>?_)
 obtain ⟨M,a,xs,rfl,U,Y,q⟩:=q4
 cases r1
 have n:Inv X c i E { d with heap:=d.heap.push { cls:=.type "slice",data:=.fields #[p,y,w] } }:=L.kept (t':=d.toks) fun b ob q=>Ti _ q
 obtain ⟨m,r,j,Z⟩:=n.list U
 have o:=r.length
 show TX (T7 X.prog X.w) X.A (YR e (.Slice lo hi (some st) p2) (.ref a) (.ref d.heap.objs.size)) (EP X c i Q) X.xe { d with heap:=d.heap.push { cls:=.type "slice",data:=.fields #[p,y,w] } }
 refine a3s (ops:=[.ref a,.ref d.heap.objs.size]) j.isList.typeIs Y9.lookup ?_ (by with_unfolding_all rfl)
 refine a0v j.isList (Y7 ..) pl pu pt M ?_ (by rw [TN]<;>omega)
 have g:a0G m.toArray l u t=(dD m l u t).toArray:=by
  unfold a0G dD
  simp
 rw [g]
 refine ⟨.ref _,_,n.laid (t':=d.toks) (o:=.lst (dD xs l u t)) (fun b ob q=>Ti _ q) (Tt _) ?_,rfl,q _ (n.hok.fresh (Tt _))⟩
 exact ⟨Y,_,0,Ml r l u t,TJ _ rfl⟩
theorem Mo {me:ME}{A z mt:MO}(Y:QE X e me)(Z:QO X lo A)(hu:QO X hi z)(ht:QO X (some st) mt):QE X (.Subscript e (.Slice lo hi (some st) p2) pos) (mL me A z mt):=⟨cG (Mn Y.h Z.h hu.h ht.h) (by
 rintro σ H Q ⟨π,m,μ,d,μ',R,E,a,k⟩
 obtain ⟨⟨x,c⟩,M,a⟩:=S9.mp a
 obtain ⟨⟨l,g⟩,N,a⟩:=S9.mp a
 obtain ⟨⟨u,h⟩,O,a⟩:=S9.mp a
 obtain ⟨⟨t,o⟩,T,a⟩:=S9.mp a
 refine ⟨π,m,μ,x,c,R,E,M,fun r v1 H1 i G i1=>⟨r,m,c,l,g,G,E.mono i,N,fun s H2 j R2=>⟨s,m,g,u,h,R2,(E.mono i).mono j,O,fun v H3 n I=>⟨v,m,h,t,o,I,((E.mono i).mono j).mono n,T,fun π4 H4 y w=>?_⟩⟩⟩⟩
 split at a
 ·rename_i L
  obtain ⟨xs,U,a⟩:=S9.mp a
  split at a
  ·rename_i hz
   cases a
   obtain ⟨p,B,rfl,q,hd⟩:=nU w (((i1.mono j).mono n).mono y) U
   have b:=Mj hd l u t
   refine ⟨L,p,B,rfl,q,by rw [b.length];exact hz,fun p' hp=>?_⟩
   obtain ⟨K,J,_⟩:=w.alloc (c:=.lst (dD xs l u t)) (o:=.lst (dD B l u t)) hp b
   exact k _ _ _ ((((i.trans j).trans n).trans y).trans K) J iG
  ·cases a
 ·cases a)⟩
end
section
variable {X:Cx}{a3J:List (Addr×Obj)}{σ:St}{H:Hp}{s:Th}{h':UW}
theorem Ci {t':Nat}{ch:List Addr}{a:Addr}{o:HO}(I:Inv X a3J σ H s)(k:∀ b u,b∉ch->s.heap.get? b=some u->h'.get? b=some u)(i:∀ b∈ch,gJ X a3J H b)(j:s.heap.objs.size<=a)
  (new:ObjOk X.prog X.w (aO H a o) h' a o):Inv X a3J σ (aO H a o) { s with heap:=h',toks:=t' }:=by
 have d:=I.hok.fresh j
 have g:∀ b u,H b=some u->b∉ch:=fun b u e z=>by
  have:=(i b z).1
  rw [e] at this;cases this
 refine I.step (g':=s.gens) (d':=s.drawn) (ch:=ch) (fun b h=>let ⟨K,x,L,y,A,B⟩:=i b h;⟨y,x,A,B⟩) (fun b o _ _ hc e _=>k b o hc e) (fun b o _ _ hc e _=>⟨o.slots,k b o hc e⟩) (fun b J hc e n=>?_)
  (fun b o hc e=>⟨o,k b o hc e⟩) (fun b l q=>?_) (fun b J l q=>?_) (fun b M q=>?_) (fun m E=>?_) (fun b u e=>?_) I.bare
 ·rw [bI (TY (T9 (TB e) j))];exact n
 ·rw [bI (gH q d)];exact q
 ·rw [bI (gH q d)];exact q
 ·exact ⟨#[],by rw [bI (gH q d),q];simp⟩
 ·obtain ⟨o,w,p,G,r⟩:=E
  exact ⟨o,w,p,k _ o (fun z=>(i _ z).2.1 rfl) G,r⟩
 ·by_cases h:b=a
  ·subst h;rw [c9] at e;cases e;exact new
  ·rw [bI h] at e
   refine (I.hok b u e).stay (fun c v hc q=>k c v ?_ q) (fun c q=>by rw [bI (gH q d)];exact q) fun c l q=>by rw [bI (gH q d)];exact q
   rcases hc with z|z
   ·rw [z];exact g b u e
   ·exact g c _ z
theorem Mp {t':Nat}{ch:List Addr}(I:Inv X a3J σ H s)(k:∀ b u,b∉ch->s.heap.get? b=some u->h'.get? b=some u)(d:∀ b∈ch,gJ X a3J H b):Inv X a3J σ H { s with heap:=h',toks:=t' }:=by
 have a:∀ b u,H b=some u->b∉ch:=fun b u e z=>by
  have:=(d b z).1
  rw [e] at this;cases this
 refine I.step (g':=s.gens) (d':=s.drawn) (ch:=ch) (fun b x=>let ⟨E,j,G,l,p,w⟩:=d b x;⟨l,j,p,w⟩) (fun b o _ _ hc e _=>k b o hc e) (fun b o _ _ hc e _=>⟨o.slots,k b o hc e⟩) (fun b B hc e n=>n)
  (fun b o hc e=>⟨o,k b o hc e⟩) (fun b g q=>q) (fun b B g q=>q) (fun b J q=>⟨#[],by rw [q];simp⟩) (fun m y=>?_) (fun b u e=>?_) I.bare
 ·obtain ⟨o,i,h,A,r⟩:=y
  exact ⟨o,i,h,k _ o (fun z=>(d _ z).2.1 rfl) A,r⟩
 ·refine (I.hok b u e).stay (fun c v hc q=>k c v ?_ q) (fun c q=>q) fun c g q=>q
  rcases hc with z|z
  ·rw [z];exact a b u e
  ·exact a c _ z
end
noncomputable def wN (K:Ta)(a:Addr):It:=
 ⟨fun i H=>∃ b x,SqL K H a b/\b[i]? = some x,fun i H x c=>∃ p v,x=.ref p/\H p=none/\c=aO H p (.tup [.int i,v])/\∀ b,SqL K H a b->b[i]? = some v,fun i H=>∃ b,SqL K H a b/\b.length<=i⟩
theorem Mq {P:T3}{w:Uk}{K:Ta}{es:List Expr}{kx:Nat}{pt:Vl}(a e m:Addr)(r:e≠m) :
  Turn Qc P w K (.Tuple es kx pt) (wN K a) [e,m] e (fun i h=>∃ l,IsEnum h e m i l/\h.IsListIter m a i) where
 mem:=by simp
 obj:=fun i h ⟨l,st,j⟩ b n=>by
  have g:b=e\/b=m:=by simpa using n
  rcases g with rfl|rfl
  ·exact ⟨_,st,fun v z=>by
    have z':TK _=ZQ v:=z
    cases z'⟩
  ·obtain ⟨o,J,c,d⟩:=j
   exact ⟨o,J,fun v z=>by rw [d] at z;cases z⟩
 keep:=fun i h h' ⟨l,st,j⟩ k=>⟨l,k e (by simp) _ st,j.at fun o J=>k m (by simp) o J⟩
 item:=by
  intro X N hw M hc i G s σ H E I A ⟨l,st,j⟩ R
  subst N hw M
  obtain ⟨xs,x,B,Z⟩:=R
  obtain ⟨its,rv,p,hz⟩:=I.list B
  obtain ⟨u,hu,ru⟩:=rv.get Z
  refine wpAny_pyNext_enum_item st j p.isList (x:=u) (by simpa using hu) r fun h1 ho hit ht hsz hk=>⟨_,rfl,wpAny_letOwnedTupleGo_enum ho fun h2 O q=>?_⟩
  have y:e<s.heap.objs.size:=TB st
  have T:s.heap.objs.size≠e:=Xr y
  have Y:h2.get? s.heap.objs.size=some { cls:=.type "tuple",data:=.seq #[.int i s.toks,u] }:=(q.2 _ T).trans ht
  have Q:H s.heap.objs.size=none:=I.hok.fresh (Tt _)
  refine ⟨.ref s.heap.objs.size,aO H s.heap.objs.size (.tup [.int i,x]),?_,rfl,⟨s.heap.objs.size,x,rfl,Q,rfl,fun ys hy=>by rw [I.list_inj hy B];exact Z⟩,⟨u,O,hit.extBut q.extBut (Uu r)⟩,fun b n=>?_⟩
  ·refine Ci (s:=s) (h':=h2) (t':=s.toks+1) (ch:=[e,m]) I (fun b ob n L=>?_) A (Tt _) ?_
   ·have g:b≠e/\b≠m:=by simpa using n
    exact (q.2 b g.1).trans (hk b ob g.1 g.2 L)
   ·exact ⟨by show (2:Nat)<=TC;decide,[.int i s.toks,u],.cons ⟨_,rfl⟩ (.cons ru .nil),_,Y,rfl,0,rfl,rfl⟩
  ·have g:b=e\/b=m:=by simpa using n
   have hn:=(A b n).1
   obtain ⟨o,U,_⟩:=j
   rw [bI]
   ·exact hn
   ·rcases g with rfl|rfl
    ·exact TY y
    ·exact TY (TB U)
 done:=by
  intro X N hw M hc i G s σ H E I A ⟨l,st,j⟩ R
  subst N hw M
  obtain ⟨xs,B,Z⟩:=R
  obtain ⟨its,rv,p,hz⟩:=I.list B
  have hl:=rv.length
  refine wpAny_pyNext_enum_end (I.ok.hd hc) st j p.isList (by simp;omega) fun h' L=>⟨rfl,Mp (t':=s.toks) (ch:=[e,m]) I (fun b o n z=>L b o ?_ z) A⟩
  have g:b≠e/\b≠m:=by simpa using n
  exact g.2
 self:=fun _ _ _ _ _ ⟨l,st,_⟩ h=>a2k st h
structure QJT (X:Cx)(e:Expr)(m:MI):Prop where
 h:∀ es k p,PI X (.Tuple es k p) e (iM X.K m)
theorem QJ.t {X:Cx}{e:Expr}{m:MI}(h:QJ X e m):QJT X e m:=⟨fun a k p=>h.h _⟩
noncomputable def Cj (x:D):i8:=fun a i=>(bP a x).map fun xs=>(xs[i]?).map fun d=>.tup [.int i,d]
noncomputable def Ck (ms:MA):MI:=fun c b=>(ms c b).bind fun p=>match p.1 with
 | [x]=>(fY p.2 x).map fun a=>(Cj x,a.length+1,p.2)
 | _=>none
theorem Mr {K:Ta}{π:Nat->Addr}{s:Hm}{H:Hp}{v:V}{x:D}{xs:List D}(R:Rp K π H s)(h:IsD K π s.length H v x)(w:fY s x=some xs):∃ a,v=.ref a/\(∃ vs,SqL K H a vs)/\Wk K (wN K a) (Cj x) π s.length H:=by
 have hw:bP s x=some xs:=by
  cases x with
  | rol l=>exact w
  | loc b=>exact w
  | _=>cases w
 obtain ⟨p,vs,rfl,T,_⟩:=nU R h w
 refine ⟨p,rfl,⟨vs,T⟩,?_⟩
  -- the list as it stands j
 have j:∀ g c m,Ext π s.length H g c.length m->Rp K g m c->∀ l,bP c x=some l->∃ n,SqL K m p n/\IsDs K g c.length m n l:=fun g c m e o l J=>by
  have X:=h.mono e
  have O:fY c x=some l:=by
   cases x with
   | rol zs=>exact J
   | loc b=>exact J
   | _=>cases w
  obtain ⟨p',n,L,r,u⟩:=nU o X O
  cases L
  exact ⟨n,r,u⟩
 refine ⟨fun g c m i e o z=>?_,fun g c m i d e o z=>?_⟩
 ·obtain ⟨l,B,A⟩:=Tg.mp z
  obtain ⟨n,r,u⟩:=j g c m e o l B
  have E:l[i]? = none:=by
   cases q:l[i]? with
   | none=>rfl
   | some d=>rw [q] at A;cases A
  exact ⟨n,r,by rw [u.length];exact Ux.mp E⟩
 ·obtain ⟨l,B,A⟩:=Tg.mp z
  obtain ⟨Z,E,M⟩:=Tg.mp A
  subst M
  obtain ⟨n,r,u⟩:=j g c m e o l B
  obtain ⟨v,I,N⟩:=u.get E
  refine ⟨⟨n,v,r,I⟩,?_⟩
  rintro y Y ⟨t,v',rfl,Q,rfl,U⟩
  have:=U n r
  rw [I] at this
  cases this
  obtain ⟨G,R2⟩:=o.fresh (o:=.tup [.int i,v]) Q
  exact ⟨G,R2,.tup (.of c9) (.cons (.int _) (.cons (N.mono G) .nil))⟩
noncomputable def Ms (K:Ta)(c:TA):TI:=fun σ H R=>c σ H fun vs b=>∃ a,vs=[.ref a]/\(∃ xs,SqL K b a xs)/\R (wN K a) b
open PyProof.Rows in
theorem Mt {X:Cx}{a:Expr}{l:TA}{p pos pt:Vl}{r:List Expr}{K:Nat}(y:Gl X "enumerate") (A:X.mg "enumerate" = none) (w:PA X [a] l)(E:T8 [a] X.env=[(false,eval a X.env)]):PI X (.Tuple r K pt) (.Call (.Name "enumerate" p) [a] [] pos) (Ms X.K l):=by
 intro e s m H R I h
 refine Call_ (jP I y A Boot.«enumerate» (callWith_type1 (aW (w pos e s m H _ I h) fun U c ⟨Y,i,d,N,M⟩=>?_) E rfl))
 obtain ⟨o,rfl,⟨Z,B⟩,q⟩:=M
 obtain ⟨u,rfl,O⟩:=fC N
 cases O
 obtain ⟨J,T,L,Q⟩:=d.list B
 refine call_enumerate_list L.isList fun v j hit G z=>?_
 refine a2k j ?_
 have n:Inv X e m i { c with heap:=v }:=d.kept (t':=c.toks) z
 refine ⟨c.heap.objs.size+1,[c.heap.objs.size+1,c.heap.objs.size],_,_,i,rfl,n,Mq o _ _ (Nat.succ_ne_self _),⟨_,j,hit⟩,fun b x=>?_,q⟩
 have g:b=c.heap.objs.size+1\/b=c.heap.objs.size:=by simpa using x
 rcases g with rfl|rfl
 ·exact d.fpOk (Y3 _) (d.hok.fresh (Y3 _))
 ·exact d.fpOk (Tt _) (d.hok.fresh (Tt _))
theorem Mu {X:Cx}{a:Expr}{ms:MA}{n:Nat}{p pos:Vl}(c:Gl X "enumerate") (d:X.mg "enumerate" = none) (j:QA X [a] ms n):QJT X (.Call (.Name "enumerate" p) [a] [] pos) (Ck ms):=⟨fun K L pt a3J s σ H R I hw=>by
 have l:=j.s
 rw [Ur,To] at l
 obtain ⟨G,J,A,y,M,B,o,E,b,k⟩:=hw
 obtain ⟨⟨x,g⟩,u,b⟩:=S9.mp b
 refine Mt c d j.h (eF l.1) a3J s σ H R I ⟨G,J,A,x,g,o,E,u,fun h N m r i e=>?_⟩
 dsimp only at b
 split at b
 ·rename_i x
  obtain ⟨O,v,b⟩:=Tg.mp b
  cases b
  cases e with
  | cons e z=>
   cases z
   obtain ⟨q,rfl,w,W⟩:=Mr i e v
   exact ⟨q,rfl,w,k h m _ r i W⟩
 ·cases b⟩
section
variable {X:Cx}{pos:Vl}
theorem sH {tg iter:Expr}{w:MI}{g:MG}{v:MS}{body:List Stmt}(I:PI X tg iter (iM X.K w))(G:QG X tg g)(B:QB X body v)(K:a2D (T7 X.prog X.w) X.A X.env X.xe)(hc:X.calm=true)(L:eW iter=true) :
  QS X (.For tg iter body [] pos) (cD w g v):=⟨iW (GG K hc I G.h B.h (by intro z;cases iter<;>first|rfl|cases L)) (by
 rintro E T H ⟨O,Q,N,u,r,p,R,s,m,k⟩
 obtain ⟨⟨o,n,l⟩,A,m⟩:=S9.mp m
 refine ⟨O,Q,N,o,n,l,R,s,A,fun q x J i y W=>?_⟩
 have M:nD X.K E q l.length x u r p:=by
  cases u with
  | nx=>exact fun a b e j h c=>k a b e (i.trans j) h c
  | bk=>exact fun a b e j h c=>k a b e (i.trans j) h c
  | ct=>exact fun a b e j h c=>k a b e (i.trans j) h c
  | rt d=>exact KC.after k i
 exact JN W M .refl y (s.mono i) m)⟩
noncomputable def wO (put:D->D->D->Hm->Option Hm)(o i v:ME):MS:=fun a b=>(v a b).bind fun p=>(o a p.2).bind fun q=>(i a q.2).bind fun r=>(put q.1 r.1 p.1 r.2).map fun μ'=>(.nx,a,μ')
noncomputable def pM:D->D->D->Hm->Option Hm
 | .loc a,y,d,μ=>match μ[a]? with
  | some (.dT kvs)=>(eA y).bind fun k=>if kvs.length<TC then some (μ.set a (.dT (eB kvs k d))) else none
  | _=>none
 | _,_,_,_=>none
noncomputable def j4:D->D->D->Hm->Option Hm:=pM
noncomputable def cM:=wO j4
theorem Cm {st:Stmt}{i:Nat}:QS X st (aQ i bY):=⟨fun a3J s σ H D I q=>by
 obtain ⟨g,h,e,d,c,b,R,E,a,k⟩:=q
 cases a⟩
end
end L3
namespace L3
open PySem L2
noncomputable def insAt {a:Type}(xs:List a)(k:Nat)(d:a):List a:=xs.take k++d::xs.drop k
theorem Vals.ins {xs:List V}{us:List Te}(h:Vals xs us)(k:Nat){v:V}{u:Te}(r:RelV v u):Vals (insAt xs k v) (insAt us k u):=(h.take k).append (.cons r (h.drop k))
section
variable {X:Cx}
end
section
variable {X:Cx}
end
noncomputable def pN:List D->Option (List Str)
 | []=>some []
 | .str x::r=>(pN r).map (x::·)
 | _=>none
noncomputable def j5 (f:D->List D->Hm->Option (D×Hm))(b:ME)(ms:MA):ME:=fun a c=>(b a c).bind fun p=>match p.1 with
 | .str x=>(ms a p.2).bind fun q=>f (.str x) q.1 q.2
 | _=>none
section
variable {X:Cx}{e o:Expr}{mo:ME}{apos cpos:Vl}{es:List Expr}{ms:MA}{n:Nat}
theorem Mv {K:Ta}{f:D->List D->Hm->Option (D×Hm)}{r:V->List V->Hp->VK->Prop}(w:jB K f r):∀ σ H Q,tM K (j5 f mo ms) σ H Q->u9 K "str" r (tM K mo) (dY K ms) σ H Q:=by
 rintro σ H Q ⟨I,m,G,d,g,R,E,a,k⟩
 obtain ⟨⟨x,b⟩,u,a⟩:=S9.mp a
 cases x with
 | str z=>
  obtain ⟨⟨l,c⟩,v,a⟩:=S9.mp a
  refine ⟨I,m,G,_,b,R,E,u,fun h L J j q y=>?_⟩
  cases y
  refine ⟨rfl,h,m,b,l,c,q,E.mono j,v,fun i B p s R2 A=>?_⟩
  exact w i p c _ l d g _ B Q R2 (.str _) A a (k.after (j.trans s))
 | _=>cases a
theorem Mw {f:D->List D->Hm->Option (D×Hm)}{r:V->List V->Hp->VK->Prop}{name:Str}{id:String}(slot:Slot "str" name id) (c:a1W (.builtin id)=pure (.type "method_descriptor")) (i:kT X id r)(g:jB X.K f r)
  (l:QE X o mo)(d:QA X (e::es) ms n)(m:fW o=true)(h:(apos.endLine == cpos.line)=true)(j:(e::es).length<30):QE X (.Call (.Attribute o name apos) (e::es) [] cpos) (j5 f mo ms):=by
 have b:=d.s
 have a:=b
 rw [Ur,To] at a
 exact ⟨cG (AG PySem.F.plainAttrs_str slot c i l.h d.h (jY m) (wG b j) h (eF a.1) (gW a.2)) (Mv g)⟩
end
noncomputable def jE:D->List D->Hm->Option (D×Hm)
 | .str sep,[y],μ=>(fY μ y).bind fun b=>(pN b).bind fun a=>if W2 (a.toArray.foldl (·+·.length+sep.length) 0)=false/\(Uq sep a).length<=TC then some (.str (Uq sep a),μ) else none
 | _,_,_=>none
noncomputable def Cn (K:Ta):V->List V->Hp->VK->Prop:=fun x vs H Q=>∃ (a:Str)(p:Addr)(ss:List Str),x=.str a/\vs=[.ref p]/\SqL K H p (ss.map V.str)/\W2 (ss.toArray.foldl (·+·.length+a.length) 0)=false/\(Uq a ss).length<=TC/\Q (.str (Uq a ss)) H
theorem Co:∀ {ds:List D}{k:List Str},pN ds=some k->ds=k.map D.str
 | [],k,h=>by cases h;rfl
 | d::ds,k,h=>by
  cases d with
  | str i=>
   obtain ⟨c,a,b⟩:=Tg.mp h
   subst b
   rw [Co a];rfl
  | _=>cases h
theorem strs_of' {K:Ta}{π:Nat->Addr}{n:Nat}{H:Hp}:∀ {vs:List V}{k:List Str},IsDs K π n H vs (k.map D.str)->vs=k.map V.str
 | _,[],h=>by cases h;rfl
 | _,i::k,h=>by
  cases h with
  | cons h t=>cases h;rw [strs_of' t];rfl
theorem Mx {K:Ta}:jB K jE (Cn K):=by
 intro n H u x ds d m v o Q R i h a k
 unfold jE at a
 split at a
 ·obtain ⟨s,c,a⟩:=S9.mp a
  obtain ⟨j,e,a⟩:=S9.mp a
  split at a
  ·rename_i b
   cases a
   cases i
   cases h with
   | cons g l=>
    cases l
    obtain ⟨p,r,rfl,q,hd⟩:=nU R g c
    rw [Co e] at hd
    have:=strs_of' hd
    subst this
    exact ⟨_,p,j,rfl,rfl,q,b.1,b.2,k n _ H .refl R (.str _)⟩
  ·cases a
 ·cases a
theorem Cp:∀ {ss:List Str}{its:List Te},Vals (ss.map V.str) its->∃ l:List (Str×Tok),its=strValues l/\l.map (·.1)=ss
 | [],_,h=>by cases h;exact ⟨[],rfl,rfl⟩
 | x::ss,_,h=>by
  cases h with
  | cons h t=>
   obtain ⟨a,rfl⟩:=h
   obtain ⟨l,rfl,e⟩:=Cp t
   exact ⟨(x,a)::l,rfl,by rw [Tq,e]⟩
theorem My {X:Cx}:kT X "str.join" (Cn X.K):=by
 intro e s E H x B v A Q I w o h
 obtain ⟨d,p,z,rfl,rfl,i,g,c,q⟩:=h
 obtain ⟨t,rfl⟩:=w
 obtain ⟨u,rfl,n⟩:=o.one
 cases n
 obtain ⟨j,r,m,y⟩:=I.list i
 obtain ⟨l,rfl,rfl⟩:=Cp r
 refine a2a F.slot_str_join (a1X _ _ _) F.entry_str_join (F.args_str_join_2 _ _) (meets_str_join_list d t p l g) ⟨m.isList,?_⟩
 match l,c,q with
 | [],c,q=>exact ⟨c,.str _,H,I.tok _,⟨_,rfl⟩,q⟩
 | [a],c,q=>exact ⟨.str _,H,I,⟨_,rfl⟩,q⟩
 | a::b::r,c,q=>exact ⟨c,.str _,H,I.tok _,⟨_,rfl⟩,q⟩
end L3
namespace L3
open PySem L2
section
variable {prog:T3}{w:Uk}{A:Ug}{E:Te->Th->Prop}{s:Th}{r:Addr}{Q:Bool->Th->Prop}
theorem Mz:Z0 (.type "list_reverseiterator") "__len__" = pure none:=by rw [a2L,a1t];kernel_rfl
theorem MB:Z0 (.type "list_reverseiterator") "__length_hint__" = pure (some (.builtin "list_reverseiterator.__length_hint__")):=by rw [a2L,a1t];kernel_rfl
theorem MC (b:s.TypeIs (.ref r) "list_reverseiterator") (h:Q false s):TX (T7 prog w) A (Yv (.ref r)) Q E s:=by
 unfold Yv
 refine Td (WO b Mz ?_)
 dsimp only
 refine WQ (fun a=>absurd a (by decide +kernel)) (fun _=>?_)
 refine WQ (fun a=>absurd a (by decide)) (fun _=>?_)
 refine Td (WO b MB ?_)
 generalize bF:("list_reverseiterator.__length_hint__":String)=id0
 wp_delta
 rw [show splitId id0=some ("list_reverseiterator","__length_hint__") from by subst bF;decide +kernel]
 subst bF
 refine Td (WG (T:="list_reverseiterator") (b:=true) b (by rw [isSubtype_type];kernel_rfl) ?_)
 refine WQ (fun a=>absurd a (by decide)) (fun _=>?_)
 refine WQ (fun _=>?_) (fun a=>absurd (by decide +kernel) a)
 refine WQ (fun a=>absurd a (by decide +kernel)) (fun _=>?_)
 exact Tr h
end
section
variable {prog:T3}{w:Uk}{A:Ug}{E:Te->Th->Prop}{s:Th}{p a:Addr}{its:Array Te}
theorem MD {R:Z9->Th->Prop}(X:A.handled=none)(hit:s.heap.IsRevIter p a ((its.size:Int) - 1))(Z:s.heap.IsList a its)(H:a≠p)(S:Addr)(q:S≠p)(z:S≠a)(res:Te)(j:Nat)(U:s.heap.get? S=some { cls:=.type "list",data:=.seq #[] j })
  (T:∀ x tk c n,(∀ b o,b≠S->b≠p->s.heap.get? b=some o->x.get? b=some o)->x.get? S=some { cls:=.type "list",dict:=none,data:=.seq c n,slots:=#[] }->ItemsOf (fun i v=>its[its.size - 1 - i]? = some v) c its.size->R (.ok (.ret res)) { s with heap:=x,toks:=tk }) (hn:its.size<=TC) :
  TX (T7 prog w) A.in1 (V7 (.ref S) (.ref p) res)
   (fun aS m=>match aS with|.done f=>R (.ok f) m|.again n=>n.quiet=true/\XC (T7 prog w) A n R m) (fun e m=>R (.error e) m) s:=by
 have B:S∉[p,a]:=by simp only [T1,Wv,or_false,not_or];exact ⟨q,z⟩
 have W:=Walks.listRev (prog:=prog) (w:=w) (A:=A.in1) X p a H its
 have key:∀ (h:UW)(d tk:Nat),h.IsRevIter p a ((its.size:Int) - 1)->h.IsList a its->(∀ b o,b≠S->s.heap.get? b=some o->h.get? b=some o)->
   h.get? S=some { cls:=.type "list",data:=.seq #[] d }->XC (T7 prog w) A (.builtin "list.extend.loop" ⟨[.ref S,.ref p,res],[]⟩) R { s with heap:=h,toks:=tk }:=by
  intro h d tk J u Y l
  refine codeAny_extend_loopS W.toS hn S B res its.size 0 _ #[] d rfl (Uz _) ⟨Uz _,by simpa using J,u⟩ l (ItemsOf.nil _) fun m c n L y r=>?_
  rw [Moved.eq_with L]
  refine T m.heap m.toks c n (fun b o K I e=>L.heap b o (fun g=>?_) (Y b o K e)) y r
  rcases T1.mp g with M|g
  ·exact K M
  ·exact I (UA.mp g)
 unfold V7
 refine Td (wpAny_typeOf (T:="list_reverseiterator") hit.typeIs ?_)
 have N:YD (.ref S) (.ref p)=false:=by simp [YD,q]
 have O:(Tu "list_reverseiterator" == Tu "list")=false:=by decide +kernel
 have Q:(Tu "list_reverseiterator" == Tu "tuple")=false:=by decide +kernel
 simp only [N,O,Q,a2f,Tw,if_false]
 refine Td (wpAny_pyIter_revIter hit ?_)
 refine Td (U6 (MC hit.typeIs ?_))
 refine WQ (fun G=>absurd G (by decide +kernel)) (fun _=>Tr ⟨plainId_quiet PySem.F.plain_extend_loop _,?_⟩)
 exact key _ j s.toks hit Z (fun b o _ e=>e) U
theorem MH {R:Z9->Th->Prop}(J:A.handled=none)(hit:s.heap.IsRevIter p a ((its.size:Int) - 1))(L:s.heap.IsList a its)(z:a≠p)(S:Addr)(m:S≠p)(l:S≠a)(u:s.heap.get? S=some { cls:=.type "list",data:=.seq #[] })
  (I:∀ j H c h,(∀ b o,b≠S->b≠p->s.heap.get? b=some o->j.get? b=some o)->j.get? S=some { cls:=.type "list",dict:=none,data:=.seq c h,slots:=#[] }->ItemsOf (fun i v=>its[its.size - 1 - i]? = some v) c its.size->R (.ok (.ret .none)) { s with heap:=j,toks:=H }) (M:its.size<=TC) :
  TX (T7 prog w) A.in1 (Builtin.«list.__init__» ⟨[.ref S,.ref p],[]⟩)
   (fun aS r=>match aS with|.done f=>R (.ok f) r|.again h=>h.quiet=true/\XC (T7 prog w) A h R r) (fun e r=>R (.error e) r) s:=by
 show TX _ _ (do let G <- YV (.ref S);a3i (.ref S) (fun _=>#[]);letGo G.toList.reverse;V7 (.ref S) (.ref p) .none) _ _ s
 refine Td ?_
 unfold YV
 refine Td (wpAny_seqItems u rfl (Tr ?_))
 show TX _ _ (updateSeq S (fun _=>#[]) >>= fun _=>letGo (#[]:Array Te).toList.reverse >>= fun _=>V7 (.ref S) (.ref p) .none) _ _ s
 refine Td (wpAny_updateSeq u rfl ?_)
 have d:=X8 (Vc (fun _=>(#[]:Array Te))) u rfl
 have g:∀ b o,b≠S->s.heap.get? b=some o->(s.heap.update S (Vc (fun _=>(#[]:Array Te)))).get? b=some o:=
  fun b o q e=>(Wb _ _ (Uu q)).trans e
 refine Td (wpAny_letGo ?_)
 refine MD J (hit.at fun o e=>g p o (Uu m) e) (let ⟨o,N,x⟩:=L;⟨o,g a o (Uu l) N,x⟩) z S m l .none _ d (fun j H c h K y n=>?_) M
 exact I j H c h (fun b o q B e=>K b o q B (g b o q e)) y n
theorem MJ {Q:Te->Th->Prop}(I:A.handled=none)(hit:s.heap.IsRevIter p a ((its.size:Int) - 1))(z:s.heap.IsList a its)(r:a≠p)(K:its.size<=TC)
  (B:∀ g u c n,(∀ b o,b≠p->s.heap.get? b=some o->g.get? b=some o)->g.get? s.heap.objs.size=some { cls:=.type "list",dict:=none,data:=.seq c n,slots:=#[] }->ItemsOf (fun i v=>its[its.size - 1 - i]? = some v) c its.size->Q (.ref s.heap.objs.size) { s with heap:=g,toks:=u }) :
  TX (T7 prog w) A (call (.type "list") [.ref p]) Q E s:=by
 refine a3F (Q₁:=fun m d=>m=.ref s.heap.objs.size/\d = { s with heap:=s.heap.push { cls:=.type "list",data:=.seq #[] } }) PySem.F.called_list (PySem.F.typeCall_list_1 _) PySem.F.entry_list_init
  (code_list_new _ ⟨rfl,rfl⟩) fun m d l=>?_
 obtain ⟨rfl,rfl⟩:=l
 have y:(s.heap.push { cls:=.type "list",data:=.seq #[] }).get? s.heap.objs.size=some { cls:=.type "list",data:=.seq #[] }:=TJ _ rfl
 have L:p<s.heap.objs.size:=let ⟨o,j,_⟩:=hit;TB j
 have G:a<s.heap.objs.size:=let ⟨o,j,_⟩:=z;TB j
 refine ⟨⟨_,y,rfl⟩,PySem.F.args_list_init_2 _ _,MH (A:=A.in1) I (hit.at fun o e=>Ti _ e) (let ⟨o,j,x⟩:=z;⟨o,Ti _ j,x⟩) r _ (Xr L) (Xr G) y (fun g u c n J q h=>?_) K⟩
 exact ⟨rfl,B g u c n (fun b o H e=>J b o (TY (TB e)) H (Ti _ e)) q h⟩
end
noncomputable def Cq (K:Ta):List V->Hp->VK->Prop:=fun xs H Q=>∃ (p:Addr)(a:List V),xs=[.ref p]/\SqL K H p a/\∀ l,H l=none->Q (.ref l) (aO H l (.lst a.reverse))
theorem Cr:∀ {a:List V}{its:List Te},Vals a its->Vals a.reverse its.reverse
 | _,_,.nil=>.nil
 | _,_,.cons h t=>by
  rw [Wj,Wj]
  exact (Cr t).append (.cons h .nil)
theorem MK {X:Cx}{e:Expr}{t:TA}{p G pos d:Vl}(hc:X.calm=true)(N:Gl X "list") (R:X.mg "list" = none) (r:Gl X "reversed") (w:X.mg "reversed" = none) (M:PA X [e] t)(U:T8 [e] X.env=(false,eval e X.env)::T8 [] X.env) :
  PE X (.Call (.Name "list" p) [.Call (.Name "reversed" G) [e] [] d] [] pos) (rA (Cq X.K) t):=by
 intro m s σ H Q I h
 refine VZ (jP I N R WX ?_ (by decide) (by decide))
 refine Vi ?_ rfl rfl
 show TX _ _ (spliced ((false,eval (.Call (.Name "reversed" G) [e] [] d) X.env)::Vv pos (T8 [] X.env))) _ _ s
 refine a0D (VZ (jP I r w a1e ?_ (by decide) (by decide)))
 refine Vi (aW (M d m s σ H _ I h) fun us j ⟨vs,H1,l,r1,q1⟩=>?_) U rfl
 obtain ⟨q,ys,rfl,T,k⟩:=q1
 obtain ⟨u,rfl,ru⟩:=fC r1
 cases ru
 obtain ⟨a,J,pl,Y⟩:=l.list T
 have E:=J.length
 have v:=pl.isList
 have z:q<j.heap.objs.size:=let ⟨o,y,_⟩:=v;TB y
 refine call_reversed_list v ?_
 refine a0N ?_
 refine MJ (l.ok.hd hc) (p:=j.heap.objs.size) (a:=q) (its:=a.toArray) ⟨_,TJ _ rfl,rfl,rfl⟩ (let ⟨o,y,x⟩:=v;⟨o,Ti _ y,x⟩) (TY z) (by simp only [TN]<;>omega) fun h' tk c K Z B g=>?_
 have n:c.toList=a.reverse:=by
  refine XD fun i=>?_
  have hn:c.size=a.length:=by simpa using g.1
  by_cases O:i<a.length
  ·have L:=g.2 i c[i] (Wz (by omega))
   rw [UO,Wz (by omega),<- L,List.getElem?_reverse O,TN,List.getElem?_toArray]
  ·rw [Wh (by rw [WA];omega),Wh (by rw [Vf];omega)]
 have A:(j.heap.push (revObj q ((a.toArray.size:Int) - 1))).objs.size=j.heap.objs.size+1:=by simp [Heap.push]
 rw [A] at B ⊢
 refine ⟨.ref (j.heap.objs.size+1),_,l.laid (t':=tk) (a:=j.heap.objs.size+1) (o:=.lst ys.reverse) (fun b o e=>Z b o (TY (TB e)) (Ti _ e)) (by omega) ⟨by rw [Vf];exact Y,a.reverse,K,Cr J,by rw [<- n];simpa using B⟩,rfl,k _ (l.hok.fresh (by omega))⟩
noncomputable def j6:MF:=fun ds b=>match ds with
 | [.loc a]=>match b[a]? with
  | some (.lst xs)=>some (.loc b.length,b++[.lst xs.reverse])
  | _=>none
 | _=>none
theorem ML {K:Ta}:cP K j6 (Cq K):=by
 intro s H r q d o p Q R i b k
 unfold j6 at b
 split at b
 ·rename_i a
  split at b
  ·rename_i e n
   cases b
   cases i with
   | cons i t=>
    cases t
    cases i
    obtain ⟨c,h,j⟩:=R.lst a e n
    refine ⟨_,c,rfl,.of h,fun l m=>?_⟩
    obtain ⟨g,R2,_⟩:=R.alloc (c:=.lst e.reverse) (o:=.lst c.reverse) m (LH j)
    exact k _ _ _ g R2 iG
  ·cases b
 ·cases b
theorem MM {X:Cx}{e:Expr}{ms:MA}{n:Nat}{p j pos a:Vl}(hc:X.calm=true)(d:X.mg "list" = none) (g:X.mg "reversed" = none) (h:QA X [e] ms n)(b:Gl X "list") (c:Gl X "reversed") :
  QE X (.Call (.Name "list" p) [.Call (.Name "reversed" j) [e] [] a] [] pos) (aG j6 ms):=by
 have i:=h.s
 rw [Ur,To] at i
 exact ⟨cG (MK hc b d c g h.h (eF i.1)) (vC ML)⟩
noncomputable def wQ (lo c:Int)(n:Nat):It:=⟨fun i _=>i<n,fun i H x a=>a=H/\x=.int (lo+(i:Nat) * c),fun i _=>n<=i⟩
theorem MN {P:T3}{w:Uk}{K:Ta}{tg:Expr}(a:Addr)(lo c:Int)(n:Nat):Turn Qc P w K tg (wQ lo c n) [a] a (fun i h=>Xu h a (lo+(i:Nat) * c) ((n:Int) - (i:Nat)) c) where
 mem:=by simp
 obj:=fun i h st b d=>by
  have e:b=a:=by simpa using d
  subst e
  exact ⟨_,st,fun v z=>by
   have R:TK _=ZQ v:=z
   cases R⟩
 keep:=fun i h l st k=>k a (by simp) _ st
 item:=by
  intro X A hw y hc i g s J H E I m st B
  subst A hw y
  obtain ⟨p,q,N,r,u,x⟩:=m a (by simp)
  have W:=a2o (prog:=X.prog) (w:=X.w) (I.ok.hd hc) a lo c n
  refine W.item i s _ _ B st fun v l G O j Q=>?_
  obtain ⟨t,rfl⟩:=O
  have L:Inv X g J H { s with heap:=l,toks:=G }:=I.turned (fun b o d e=>Q b o (by simpa using d) e) p q r u x
  exact ⟨_,rfl,o3 (s:={ s with heap:=l,toks:=G }) (n:="range_iterator") j rfl rfl (by decide) ⟨.int (lo+(i:Nat) * c),H,L,⟨t,rfl⟩,⟨rfl,rfl⟩,j,fun b d=>(m b d).1⟩⟩
 done:=by
  intro X A hw y hc i g s J H E I m st B
  subst A hw y
  obtain ⟨p,q,N,r,u,x⟩:=m a (by simp)
  exact a0O (I.ok.hd hc) st (by have:n<=i:=B;omega) fun l M=>⟨rfl,I.turned (t':=s.toks) (fun b o d e=>M b o d e) p q r u x⟩
 self:=fun _ _ _ _ _ st h=>a0Q st h
noncomputable def pO (a b c:Int):Bool:=a2K a b c&&decide (c≠0)&&decide (c.natAbs<1073741824)&&decide (0<=Ut a b c)
noncomputable def MP (e:TA):TI:=fun σ H R=>e σ H fun vs d=>∃ a b c:Int,vs=[.int a,.int b,.int c]/\pO a b c=true/\R (wQ a c (Ut a b c).toNat) d
open PyProof.Rows in
theorem MQ {X:Cx}{tg a b c:Expr}{E:TA}{p pos:Vl}(O:Gl X "range") (Q:X.mg "range" = none) (M:PA X [a,b,c] E)(U:T8 [a,b,c] X.env=(false,eval a X.env)::T8 [b,c] X.env)(y:(Vv pos (T8 [b,c] X.env)).any (·.1)=false) :
  PI X tg (.Call (.Name "range" p) [a,b,c] [] pos) (MP E):=by
 intro m s G H R I h
 refine Call_ (jP I O Q a2c (Vi (aW (M pos m s G H _ I h) fun us l ⟨vs,B,J,r1,Y⟩=>?_) U y))
 obtain ⟨i,j,k,e,g,q⟩:=Y
 subst e
 unfold pO at g
 rw [To,To,To,decide_eq_true_eq,decide_eq_true_eq,decide_eq_true_eq] at g
 obtain ⟨⟨⟨z,w⟩,x⟩,T⟩:=g
 cases r1 with
 | cons r n=>
  cases n with
  | cons Z n=>
   cases n with
   | cons A n=>
    cases n
    obtain ⟨t,rfl⟩:=r
    obtain ⟨u,rfl⟩:=Z
    obtain ⟨d,rfl⟩:=A
    refine call_range_3 w ?_ (.inl (PyProof.noPylong_small x))
    refine a1U (a1R ..) z ?_
    have v:Inv X m G B { l with heap:=l.heap.push { cls:=.type "range",data:=.fields #[.int i t,.int j u,.int k d] },toks:=l.toks }:=J.kept fun b o e=>Ti _ e
    refine ⟨(l.heap.push { cls:=.type "range",data:=.fields #[.int i t,.int j u,.int k d] }).objs.size,[(l.heap.push { cls:=.type "range",data:=.fields #[.int i t,.int j u,.int k d] }).objs.size],_,_,B,rfl,
     v.kept (t':=l.toks) fun b o e=>Ti _ e,MN _ i k (Ut i j k).toNat,?_,fun b N=>?_,q⟩
    ·have K:i+((0:Nat):Int) * k=i:=by simp
     have L:(((Ut i j k).toNat:Nat):Int) - ((0:Nat):Int)=Ut i j k:=by omega
     show Xu _ _ (i+((0:Nat):Int) * k) ((((Ut i j k).toNat:Nat):Int) - ((0:Nat):Int)) k
     rw [K,L]
     exact TJ _ rfl
    ·have e:b=(l.heap.push { cls:=.type "range",data:=.fields #[.int i t,.int j u,.int k d] }).objs.size:=by simpa using N
     subst e
     exact v.fpOk (Tt _) (v.hok.fresh (Tt _))
noncomputable def nX (lo c:Int)(n:Nat):i8:=fun _ i=>some (if i<n then some (.int (lo+(i:Nat) * c)) else none)
theorem MR {K:Ta}{lo c:Int}{k:Nat}{π:Nat->Addr}{n:Nat}{H:Hp}:Wk K (wQ lo c k) (nX lo c k) π n H:=by
 refine ⟨fun b m g i e R z=>?_,fun b m g i d e R z=>?_⟩
 ·have a:=TL z
  split at a
  ·cases a
  ·exact W8.mp (by assumption)
 ·have a:=TL z
  split at a
  ·cases a
   rename_i h
   exact ⟨h,fun x o ⟨j,l⟩=>by subst j;rw [l];exact ⟨.refl,R,.int _⟩⟩
  ·cases a
noncomputable def pP (ms:MA):MI:=fun b a=>(ms b a).bind fun p=>match p.1 with
 | [.int i,.int j,.int c]=>if pO i j c=true then some (nX i c (Ut i j c).toNat,(Ut i j c).toNat+1,p.2) else none
 | _=>none
theorem MU {X:Cx}{a b c:Expr}{ms:MA}{n:Nat}{p pos:Vl}(e:Gl X "range") (g:X.mg "range" = none) (q:QA X [a,b,c] ms n):QJ X (.Call (.Name "range" p) [a,b,c] [] pos) (pP ms):=⟨fun tg a3J s σ H R I hw=>by
 have h:=q.s
 rw [Ur,To] at h
 obtain ⟨O,Q,M,G,T,N,v,E,d,k⟩:=hw
 obtain ⟨⟨x,m⟩,y,d⟩:=S9.mp d
 refine MQ e g q.h (eF h.1) (gW h.2) a3J s σ H R I ⟨O,Q,M,x,m,v,E,y,fun o U r w u l=>?_⟩
 dsimp only at d
 split at d
 ·rename_i i j c
  split at d
  ·rename_i z
   cases d
   cases l with
   | cons l J=>
    cases l
    cases J with
    | cons A K=>
     cases A
     cases K with
     | cons B L=>
      cases B
      cases L
      exact ⟨i,j,c,rfl,z,k o r _ w u MR⟩
  ·cases d
 ·cases d⟩
end L3
namespace L3
open PySem L2
noncomputable def eC (a:List Int):Int:=a.getD (argBest (fun i j=>decide (a.getD i 0>a.getD j 0)) (a.length - 1)) 0
noncomputable def sI:MF:=fun ds b=>match ds with
 | [x]=>(fY b x).bind fun c=>(mK c).bind fun a=>if 0<a.length then some (.int (eC a),b) else none
 | _=>none
noncomputable def wR (K:Ta):List V->Hp->VK->Prop:=fun xs H Q=>∃ (p:Addr)(a:List Int),xs=[.ref p]/\SqL K H p (a.map V.int)/\0<a.length/\Q (.int (eC a)) H
theorem MV {X:Cx}(hc:X.calm=true):CallR X (.builtin "max") (wR X.K):=by
 intro y s N H M L Q I r h
 obtain ⟨p,w,rfl,B,G,q⟩:=h
 obtain ⟨u,rfl,E⟩:=fC r
 cases E
 have z:X.A.in1.handled=none:=I.ok.hd hc
 obtain ⟨c,x,g,J⟩:=I.list B
 have a:c.toArray.size=w.length:=by rw [TN,<- x.length,Tc]
 refine call_max_walkS (XW g.isList ?_)
 have j:p≠s.heap.objs.size:=by
  obtain ⟨o,l,_⟩:=g.isList
  exact TY (TB l)
 refine ⟨s.heap.objs.size,_,_,_,_,_,_,_,rfl,(a2z z _ p j c.toArray).toS,⟨⟨_,TJ _ rfl,rfl,rfl⟩,g.isList.push _⟩,?_,by omega,CmpOf.ints_gt (fun i=>w.getD i 0) (fun i v n=>sE x n),fun v K n m=>?_⟩
 ·intro b d
  show b<(s.heap.push _).objs.size
  rw [WU]
  obtain ⟨o,l,_⟩:=g.isList
  have A:=TB l
  simp only [T1,Wv,or_false] at d
  rcases d with rfl|rfl
  ·exact Ve _
  ·exact XF A
 ·refine ⟨.int (eC w),H,Cg I m (fun b o e=>Ti _ e) (fun b d=>?_) ⟨rfl,rfl,rfl⟩,?_,q⟩
  ·have e:b=s.heap.objs.size:=by simpa using d
   exact Xs e.symm
  ·obtain ⟨t,rfl⟩:=sE x n
   refine ⟨t,?_⟩
   rw [a];rfl
theorem MW {K:Ta}:cP K sI (wR K):=by
 intro j H r n d h l Q R i a k
 unfold sI at a
 split at a
 ·obtain ⟨o,c,a⟩:=S9.mp a
  obtain ⟨g,e,a⟩:=S9.mp a
  split at a
  ·rename_i b
   cases a
   cases i with
   | cons i t=>
    cases t
    obtain ⟨p,m,rfl,q,hd⟩:=nU R i c
    rw [r9 e] at hd
    have:=ints_of' hd
    subst this
    exact ⟨p,g,rfl,q,b,k j _ H .refl R (.int _)⟩
  ·cases a
 ·cases a
noncomputable def hV:MF:=fun ds a=>match ds with
 | [x]=>sI [x] a
 | _=>sG ds a
theorem MX {K:Ta}{c:List V->Hp->VK->Prop}(j:cP K sG c):cP K hV (fun xs H Q=>wR K xs H Q\/c xs H Q):=by
 intro h H g xs d a e Q R i b k
 unfold hV at b
 split at b
 ·exact .inl (MW h H g _ d a e Q R i b k)
 ·exact .inr (j h H g _ d a e Q R i b k)
noncomputable def fH (a:List Int):Int:=a.getD (argBest (fun i j=>decide (a.getD i 0<a.getD j 0)) (a.length - 1)) 0
noncomputable def sJ:MF:=fun ds b=>match ds with
 | [x]=>(fY b x).bind fun c=>(mK c).bind fun a=>if 0<a.length then some (.int (fH a),b) else none
 | _=>none
noncomputable def wU (K:Ta):List V->Hp->VK->Prop:=fun xs H Q=>∃ (p:Addr)(a:List Int),xs=[.ref p]/\SqL K H p (a.map V.int)/\0<a.length/\Q (.int (fH a)) H
theorem MY {X:Cx}(hc:X.calm=true):CallR X (.builtin "min") (wU X.K):=by
 intro y s N H M L Q I r h
 obtain ⟨p,w,rfl,B,G,q⟩:=h
 obtain ⟨u,rfl,E⟩:=fC r
 cases E
 have z:X.A.in1.handled=none:=I.ok.hd hc
 obtain ⟨c,x,g,J⟩:=I.list B
 have a:c.toArray.size=w.length:=by rw [TN,<- x.length,Tc]
 refine call_min_walkS (XW g.isList ?_)
 have j:p≠s.heap.objs.size:=by
  obtain ⟨o,l,_⟩:=g.isList
  exact TY (TB l)
 refine ⟨s.heap.objs.size,_,_,_,_,_,_,_,rfl,(a2z z _ p j c.toArray).toS,⟨⟨_,TJ _ rfl,rfl,rfl⟩,g.isList.push _⟩,?_,by omega,CmpOf.ints_lt (fun i=>w.getD i 0) (fun i v n=>sE x n),fun v K n m=>?_⟩
 ·intro b d
  show b<(s.heap.push _).objs.size
  rw [WU]
  obtain ⟨o,l,_⟩:=g.isList
  have A:=TB l
  simp only [T1,Wv,or_false] at d
  rcases d with rfl|rfl
  ·exact Ve _
  ·exact XF A
 ·refine ⟨.int (fH w),H,Cg I m (fun b o e=>Ti _ e) (fun b d=>?_) ⟨rfl,rfl,rfl⟩,?_,q⟩
  ·have e:b=s.heap.objs.size:=by simpa using d
   exact Xs e.symm
  ·obtain ⟨t,rfl⟩:=sE x n
   refine ⟨t,?_⟩
   rw [a];rfl
theorem MZ {K:Ta}:cP K sJ (wU K):=by
 intro j H r n d h l Q R i a k
 unfold sJ at a
 split at a
 ·obtain ⟨o,c,a⟩:=S9.mp a
  obtain ⟨g,e,a⟩:=S9.mp a
  split at a
  ·rename_i b
   cases a
   cases i with
   | cons i t=>
    cases t
    obtain ⟨p,m,rfl,q,hd⟩:=nU R i c
    rw [r9 e] at hd
    have:=ints_of' hd
    subst this
    exact ⟨p,g,rfl,q,b,k j _ H .refl R (.int _)⟩
  ·cases a
 ·cases a
noncomputable def fI:MF:=fun ds a=>match ds with
 | [x]=>sJ [x] a
 | _=>sF ds a
theorem M0 {K:Ta}{c:List V->Hp->VK->Prop}(j:cP K sF c):cP K fI (fun xs H Q=>wU K xs H Q\/c xs H Q):=by
 intro h H g xs d a e Q R i b k
 unfold fI at b
 split at b
 ·exact .inl (MZ h H g _ d a e Q R i b k)
 ·exact .inr (j h H g _ d a e Q R i b k)
end L3
namespace L3
open PySem L2
noncomputable abbrev b6:=List (List Int×Addr×V)
noncomputable def bQ (ps:b6)(ws:List Te):List (List Int×Addr×Te):=Xo (fun p w=>(p.1,p.2.1,w)) ps ws
theorem sL {P:T3}{w:Uk}:∀ (ps:b6)(ws:List Te),Xo pE ps ws=(bQ ps ws).map (entryOfKey (VW (Wi P w)))
 | [],_=>by simp [bQ]
 | p::ps,[]=>by simp [bQ]
 | p::ps,u::ws=>by
  have a:=sL (P:=P) (w:=w) ps ws
  unfold bQ at a ⊢
  rw [Up,Up,Tq,a]
  rfl
theorem nY:∀ {ps:b6}{ws:List Te},Vals (ps.map (·.2.2)) ws->(bQ ps ws).map (·.1)=ps.map (·.1)
 | [],_,_=>by simp [bQ]
 | p::ps,_,.cons r t=>by
  have a:=nY (ps:=ps) t
  unfold bQ at a ⊢
  rw [Up,Tq,Tq,a]
theorem Ct:∀ {ps:b6}{ws:List Te}{x:List Int×Addr×Te},x∈bQ ps ws->∃ p∈ps,p.1=x.1/\p.2.1=x.2.1
 | [],_,x,h=>by simp [bQ] at h
 | p::ps,[],x,h=>by simp [bQ] at h
 | p::ps,u::ws,x,h=>by
  unfold bQ at h
  rw [Up] at h
  rcases T1.mp h with e|h
  ·subst e;exact ⟨p,Um ..,rfl,rfl⟩
  ·obtain ⟨q,a,e⟩:=Ct (ps:=ps) (ws:=ws) h
   exact ⟨q,Ua _ a,e⟩
noncomputable def dU (ps:b6)(k:List Int):Option V:=(ps.find? fun p=>decide (p.1=k)).map (·.2.2)
noncomputable def jF (ps:b6)(k:List Int)(b:Addr)(v:V):b6:=if (dU ps k).isSome then ps.map (fun p=>if p.1=k then (p.1,p.2.1,v) else p) else ps++[(k,b,v)]
theorem mM:∀ {ps:b6}{ws:List Te},Vals (ps.map (·.2.2)) ws->∀ k,RelO (dU ps k) ((Xq (bQ ps ws) k).map (·.2))
 | [],_,.nil,k=>by simp [dU,bQ,Xq];exact V9
 | p::ps,_,.cons r t,k=>by
  have a:=mM (ps:=ps) t k
  unfold dU Xq bQ at a ⊢
  rw [Up,UL,UL]
  by_cases e:p.1=k
  ·simp only [e,decide_true]
   exact r
  ·simp only [e,decide_false]
   exact a
theorem M3 (ps:b6)(k:List Int)(b:Addr)(v:V):(jF ps k b v).length<=ps.length+1:=by
 unfold jF;split<;>simp
theorem Cu {k:List Int}{v:V}{u:Te}(d:RelV v u):∀ {ps:b6}{ws:List Te},Vals (ps.map (·.2.2)) ws->
  ∃ a,Vals ((ps.map fun p=>if p.1=k then (p.1,p.2.1,v) else p).map (·.2.2)) a/\(bQ ps ws).map (a3v k u)=bQ (ps.map fun p=>if p.1=k then (p.1,p.2.1,v) else p) a
 | [],_,.nil=>⟨[],.nil,by simp [bQ]⟩
 | p::ps,_,.cons (b:=w) r t=>by
  obtain ⟨a,c,b⟩:=Cu d (ps:=ps) t
  by_cases e:p.1=k
  ·refine ⟨u::a,?_,?_⟩
   ·rw [Tq,Tq,if_pos e]
    exact .cons d c
   ·unfold bQ at b ⊢
    rw [Up,Tq,b,Tq,if_pos e,Up]
    unfold a3v
    rw [if_pos e]
  ·refine ⟨w::a,?_,?_⟩
   ·rw [Tq,Tq,if_neg e]
    exact .cons r c
   ·unfold bQ at b ⊢
    rw [Up,Tq,b,Tq,if_neg e,Up]
    unfold a3v
    rw [if_neg e]
theorem Cv {k:List Int}{b:Addr}{v:V}{u:Te}:∀ {ps:b6}{ws:List Te},Vals (ps.map (·.2.2)) ws->bQ ps ws++[(k,b,u)]=bQ (ps++[(k,b,v)]) (ws++[u])
 | [],_,.nil=>by simp [bQ]
 | p::ps,_,.cons r t=>by
  have a:=Cv (k:=k) (b:=b) (v:=v) (u:=u) (ps:=ps) t
  unfold bQ at a ⊢
  rw [Up,UJ,a,UJ,UJ,Up]
theorem M4 {ps:b6}{ws:List Te}(r:Vals (ps.map (·.2.2)) ws)(k:List Int)(b:Addr){v:V}{u:Te}(c:RelV v u) :
  ∃ a,Vals ((jF ps k b v).map (·.2.2)) a/\a2m (bQ ps ws) k b u=bQ (jF ps k b v) a:=by
 have e:=(mM r k).isSome_eq
 rw [Xx] at e
 unfold jF a2m
 rw [e]
 by_cases h:(Xq (bQ ps ws) k).isSome=true
 ·rw [if_pos h,if_pos h]
  exact Cu c r
 ·rw [if_neg h,if_neg h]
  refine ⟨ws++[u],?_,Cv r⟩
  rw [TM]
  exact YK r c
section
variable {X:Cx}{a3J:List (Addr×Obj)}{σ:St}{H:Hp}{s:Th}{a:Addr}{ps:b6}
noncomputable def eD (K:Ta)(H:Hp)(ps:b6):Prop:=∀ p∈ps,SqT K H p.2.1 (p.1.map V.int)
theorem j7 (I:Inv X a3J σ H s)(e:Rd H a (aY a ps))(q:eD X.K H ps):(a == UR)=false/\ps.length<=TC /\
  ∃ b,Vals (ps.map (·.2.2)) b/\s.heap.DictOfH (VW (Wi X.prog X.w)) a (bQ ps b):=by
 obtain ⟨⟨b,r,w,u,o,h,g,i,j,l,m,n⟩,_⟩:=(show ObjOk X.prog X.w H s.heap a (aY a ps) from e.ok I.hok)
 refine ⟨w,u,b,r,o,h,g,i,j,l,by rw [m];exact sL ps b,fun x y=>?_,by rw [nY r];exact n⟩
 obtain ⟨p,v,c,d⟩:=Ct y
 rw [<- c,<- d]
 exact nV I (q p v)
theorem Cw {P:T3}{w:Uk}{n:Hp}{h':UW}{ws:List Te}(m:(a == UR)=false)(l:ps.length<=TC)(r:Vals (ps.map (·.2.2)) ws)(d:h'.DictOfH (VW (Wi P w)) a (bQ ps ws)):ObjOk P w n h' a (aY a ps):=by
 obtain ⟨o,e,c,b,g,h,i,_,j⟩:=d
 refine ⟨⟨ws,r,m,l,o,e,c,b,g,h,by rw [i,sL (P:=P) (w:=w)],by rw [<- nY r];exact j⟩,⟨o,b⟩,?_⟩
 rintro q u ⟨ws,r,m,l,o,e,c,b,g,h,i,j⟩ p
 exact ⟨ws,r,m,l,o,e,c,p o b,g,h,i,j⟩
theorem M5 (I:Inv X a3J σ H s)(e:Rd H a (aY a ps))(b:eD X.K H ps):s.TypeIs (.ref a) "dict":=by
 obtain ⟨_,_,c,_,d⟩:=j7 I e b
 exact d.typeIs
theorem mN {A:Ug}(b:A.units+1<VS):(VW (Wi X.prog X.w)).room A.in1:=by
 show A.in1.units<VS
 rw [mD];omega
variable {A:Ug}{E:Te->Th->Prop}{b:Addr}{k:List Int}{v:V}
theorem M6 {Q:Te->Th->Prop}(o:A.units+1<VS)(I:Inv X a3J σ H s)(e:Rd H a (aY a ps))(m:eD X.K H ps)(l:SqT X.K H b (k.map V.int))(q:dU ps k=some v)
  (h:∀ c j,Inv X a3J σ H j->RelV v c->Q c j):TX (T7 X.prog X.w) A (ZT (.ref a) (.ref b)) Q E s:=by
 obtain ⟨x,w,u,r,d⟩:=j7 I e m
 obtain ⟨c,hw,i⟩:=RelO.some_of (v:=v) (o:=(Xq (bQ ps u) k).map (·.2)) (by rw [<- q];exact mM r k)
 obtain ⟨p,n,g⟩:=Tg.mp hw
 refine wpAny_getItem_heap (mN o) (nV I l) d n ?_
 rw [g]
 exact h c _ (I.tok _) i
theorem M7 {Q:Te->Th->Prop}(l:A.units+1<VS)(I:Inv X a3J σ H s)(e:Rd H a (aY a ps))(i:eD X.K H ps)(g:SqT X.K H b (k.map V.int))
  (h:∀ c,Inv X a3J σ H c->Q (.bool (dU ps k).isSome) c):TX (T7 X.prog X.w) A (UG .In (.ref b) (.ref a)) Q E s:=by
 obtain ⟨j,m,n,r,d⟩:=j7 I e i
 refine wpAny_in_heap (mN l) (nV I g) j d ?_
 have q:=(mM r k).isSome_eq
 rw [Xx] at q
 rw [<- q]
 exact h _ (I.tok _)
theorem M8 {Q:Te->Th->Prop}(l:A.units+1<VS)(I:Inv X a3J σ H s)(e:Rd H a (aY a ps))(i:eD X.K H ps)(g:SqT X.K H b (k.map V.int))
  (h:∀ c,Inv X a3J σ H c->Q (.bool (!(dU ps k).isSome)) c):TX (T7 X.prog X.w) A (UG .NotIn (.ref b) (.ref a)) Q E s:=by
 obtain ⟨j,m,n,r,d⟩:=j7 I e i
 refine a2Q (mN l) (nV I g) j d ?_
 have q:=(mM r k).isSome_eq
 rw [Xx] at q
 rw [<- q]
 exact h _ (I.tok _)
theorem M9 {Q:Unit->Th->Prop}{u:Te}(x:A.units+1<VS)(I:Inv X a3J σ H s)(e:H a=some (aY a ps))(o:eD X.K H ps)(m:SqT X.K H b (k.map V.int))(L:ps.length<TC)(B:RelV v u)
  (h:∀ i,Inv X a3J σ (aO H a (aY a (jF ps k b v))) i->Q () i):TX (T7 X.prog X.w) A (setItem (.ref a) (.ref b) u) Q E s:=by
 obtain ⟨w,K,G,r,d⟩:=j7 I (.of e) o
 have y:(bQ ps G).length<=TC:=by
  have:=congrArg Uo (nY r)
  rw [Tc,Tc] at this
  omega
 refine wpAny_setItem_heap (hsz:=y) (mN x) (nV I m) d fun l c g=>h _ ?_
 obtain ⟨J,z,j⟩:=M4 r k b B
 rw [j] at c
 have n:∃ q,l.get? a=some q:=let ⟨q,_,_,p,_⟩:=c;⟨q,p⟩
 exact HC I (by rw [e];exact V9) g n (Cw w (by have:=M3 ps k b v;omega) z c)
end
noncomputable def IsTs (K:Ta)(π:Nat->Addr)(n:Nat)(H:Hp):b6->List (List Int×D)->Prop:=Xl fun p q=>p.1=q.1/\SqT K H p.2.1 (p.1.map V.int)/\IsD K π n H p.2.2 q.2
section
variable {K:Ta}{π:Nat->Addr}{n:Nat}{H:Hp}{μ:Hm}
theorem Na {b:Addr}{k:List Int}(h:IsD K π n H (.ref b) (.tup (k.map D.int))):SqT K H b (k.map V.int):=by
 cases h with
 | tup q t=>rw [ints_of' t] at q;exact q
theorem IsTs.of:∀ {ps:b6}{a:List (List Int×D)},ps.map (·.1)=a.map (·.1)->IsDs K π n H (ps.map fun p=>V.ref p.2.1) (a.map fun k=>D.tup (k.1.map D.int))->IsDs K π n H (ps.map (·.2.2)) (a.map (·.2))->IsTs K π n H ps a
 | [],[],_,_,_=>.nil
 | [],_::_,h,_,_=>by cases h
 | _::_,[],h,_,_=>by cases h
 | p::ps,q::a,h,h2,h3=>by
  cases h2 with
  | cons b c=>
   cases h3 with
   | cons d e=>
    rw [Tq,Tq,XI] at h
    refine .cons ⟨h.1,?_,d⟩ (IsTs.of h.2 c e)
    rw [h.1]
    exact Na b
theorem IsTs.keys:∀ {ps:b6}{b:List (List Int×D)},IsTs K π n H ps b->eD K H ps
 | _,_,.nil=>fun p a=>nomatch a
 | _,_,.cons h t=>fun p a=>by
  rcases T1.mp a with e|a
  ·subst e;exact h.2.1
  ·exact IsTs.keys t p a
theorem IsTs.to:∀ {ps:b6}{a:List (List Int×D)},IsTs K π n H ps a->ps.map (·.1)=a.map (·.1)/\IsDs K π n H (ps.map fun p=>V.ref p.2.1) (a.map fun k=>D.tup (k.1.map D.int))/\IsDs K π n H (ps.map (·.2.2)) (a.map (·.2))
 | _,_,.nil=>⟨rfl,.nil,.nil⟩
 | _,_,.cons (a:=p) (b:=q) h t=>by
  obtain ⟨b,c,d⟩:=IsTs.to t
  refine ⟨by rw [Tq,Tq,h.1,b],.cons ?_ c,.cons h.2.2 d⟩
  show IsD K π n H (.ref p.2.1) (.tup (q.1.map D.int))
  rw [<- h.1]
  exact .tup h.2.1 (B8 p.1)
theorem IsTs.val (k:List Int):∀ {ps:b6}{a:List (List Int×D)},IsTs K π n H ps a->(dU ps k=none/\b9 a k=none)\/∃ v d,dU ps k=some v/\b9 a k=some d/\IsD K π n H v d
 | _,_,.nil=>.inl ⟨rfl,rfl⟩
 | _,_,.cons (a:=p) (b:=q) h t=>by
  have b:=IsTs.val k t
  unfold dU b9 at b ⊢
  rw [UL,UL,<- h.1]
  by_cases e:p.1=k
  ·simp only [e,decide_true]
   exact .inr ⟨_,_,rfl,rfl,h.2.2⟩
  ·simp only [e,decide_false]
   exact b
theorem IsTs.put {ps:b6}{a:List (List Int×D)}(h:IsTs K π n H ps a)(k:List Int){b:Addr}{v:V}{d:D}(j:SqT K H b (k.map V.int))(i:IsD K π n H v d):IsTs K π n H (jF ps k b v) (eB a k d):=by
 have e:(dU ps k).isSome=(b9 a k).isSome:=by
  rcases h.val k with ⟨c,g⟩|⟨v,d,c,g,_⟩<;>rw [c,g]<;>rfl
 have repl:∀ {ps:b6}{a:List (List Int×D)},IsTs K π n H ps a->IsTs K π n H (ps.map fun p=>if p.1=k then (p.1,p.2.1,v) else p) (a.map fun p=>if p.1=k then (p.1,d) else p):=by
  intro ps a h
  unfold IsTs at h
  induction h with
  | nil=>exact .nil
  | @cons p q ps m h t l=>
   rw [Tq,Tq]
   refine .cons ?_ l
   by_cases z:p.1=k
   ·rw [if_pos z,if_pos (h.1.symm.trans z)]
    exact ⟨h.1,h.2.1,i⟩
   ·rw [if_neg z,if_neg fun y=>z (h.1.trans y)]
    exact h
 unfold jF eB
 rw [e]
 split
 ·exact repl h
 ·exact YK h ⟨rfl,j,i⟩
theorem fZ {a:Nat}{b:List (List Int×D)}(R:Rp K π H μ)(h:μ[a]? = some (.dT b)):∃ ps,H (π a)=some (aY (π a) ps)/\IsTs K π μ.length H ps b:=by
 obtain ⟨ps,c,d,e,g⟩:=R.dT a b h
 exact ⟨ps,c,.of d e g⟩
theorem pQ {a:Nat}{b:List (List Int×D)}(R:Rp K π H μ)(h:μ[a]? = some (.dF b)):∃ ob ps,H (π a)=some (.frz ob (aY (π a) ps))/\IsTs K π μ.length H ps b:=by
 obtain ⟨ob,ps,c,d,e,g⟩:=R.dF a b h
 exact ⟨ob,ps,c,.of d e g⟩
theorem nZ {v:V}{x:D}{k:List Int}(h:IsD K π n H v x)(e:eA x=some k):∃ b,v=.ref b/\SqT K H b (k.map V.int):=by
 have:=L9 e
 subst this
 cases h with
 | tup q t=>rw [ints_of' t] at q;exact ⟨_,rfl,q⟩
end
noncomputable def f6:ME:=fun _ a=>some (.loc a.length,a++[.dT []])
section
variable {X:Cx}{pos:Vl}
theorem Nb {P:T3}{w:Uk}{H:Hp}(h:UW)(a:UR<h.objs.size):ObjOk P w H (h.push { cls:=.type "dict",data:=.dict #[] }) h.objs.size (aY h.objs.size []):=
 Cw (ws:=[]) (beq_eq_false_iff_ne.mpr (Uu (TY a))) (Uz _) .nil (a3h h)
noncomputable def Nc:TE:=fun _ H Q=>∀ p,H p=none->Q (.ref p) (aO H p (aY p []))
theorem Nd:PE X (.Dict [] [] pos) Nc:=fun a3J s σ H Q I h=>
 wpAny_Dict_empty ⟨.ref s.heap.objs.size,_,I.laid (a:=s.heap.objs.size) (o:=aY s.heap.objs.size []) (t':=s.toks) (fun _ _ q=>Ti _ q) (Tt _) (Nb s.heap I.big),rfl,h _ (I.hok.fresh (Tt _))⟩
theorem Nf:QE X (.Dict [] [] pos) f6:=⟨cG Nd (by
 rintro m H Q ⟨j,l,i,d,g,R,E,c,k⟩ p e
 cases c
 obtain ⟨b,a,h⟩:=R.alloc (c:=.dT []) (o:=aY p []) e ⟨[],rfl,rfl,.nil,.nil⟩
 exact k _ _ _ b a iG)⟩
end
noncomputable def pR:D->D->Hm->Option (D×Hm)
 | .loc a,y,μ=>match μ[a]? with
  | some (.dT kvs)=>(eA y).bind fun k=>(b9 kvs k).map fun d=>(d,μ)
  | some (.dF kvs)=>(eA y).bind fun k=>(b9 kvs k).map fun d=>(d,μ)
  | _=>none
 | _,_,_=>none
section
variable {X:Cx}{a b e:Expr}{ma mb me:ME}{pos tpos:Vl}{td ty tv:TE}
noncomputable def Cy (K:Ta):R2:=fun x y H Q=>∃ a b ps k v,x=.ref a/\y=.ref b/\Rd H a (aY a ps)/\eD K H ps/\SqT K H b (k.map V.int)/\dU ps k=some v/\Q v H
theorem Ng (A:X.A.units+1<VS)(w:PE X a td)(r:PE X b ty)(z:Aw b):PE X (.Subscript a b pos) (fun σ H Q=>td σ H fun x d=>ty σ d fun y g=>Cy X.K x y g Q):=by
 intro c s σ H Q I h
 refine HD PySem.F.slot_dict_getitem.lookup z (aW (w c s σ H _ I h) fun u M ⟨x,d,m,K,G⟩=>aW (r c M σ d _ m G) fun E O ⟨y,g,j,L,a,b,N,k,v,o,p,e,l,q,B,J⟩=>?_)
 subst o p
 obtain rfl:u=Tx a:=K
 obtain rfl:E=Tx b:=L
 exact ⟨M5 j e l,M6 A j e l q B fun T R n i=>⟨v,g,n,i,J⟩⟩
theorem Nh {K:Ta}:cH K pR (Cy K):=by
 intro u H J x y d E G I Q R r s c k
 unfold pR at c
 split at c
 ·split at c
  ·rename_i m hc
   obtain ⟨h,j,c⟩:=S9.mp c
   obtain ⟨w,g,c⟩:=Tg.mp c
   cases c
   cases r
   obtain ⟨n,i,T⟩:=fZ R hc
   obtain ⟨b,rfl,l⟩:=nZ s j
   rcases T.val h with ⟨_,z⟩|⟨v,A,o,p,q⟩
   ·rw [z] at g;cases g
   ·rw [p] at g
    cases g
    exact ⟨_,b,n,h,v,rfl,rfl,.of i,T.keys,l,o,k u _ H .refl R q⟩
  ·rename_i m hc
   obtain ⟨h,j,c⟩:=S9.mp c
   obtain ⟨w,g,c⟩:=Tg.mp c
   cases c
   cases r
   obtain ⟨B,n,i,T⟩:=pQ R hc
   obtain ⟨b,rfl,l⟩:=nZ s j
   rcases T.val h with ⟨_,z⟩|⟨v,A,o,p,q⟩
   ·rw [z] at g;cases g
   ·rw [p] at g
    cases g
    exact ⟨_,b,n,h,v,rfl,rfl,.inr ⟨B,i⟩,T.keys,l,o,k u _ H .refl R q⟩
  ·cases c
 ·cases c
theorem Ni {k:Nat}(g:Room k X.A)(c:QE X a ma)(d:QE X b mb)(h:nP b=true):QE X (.Subscript a b pos) (aB pR ma mb):=⟨cG (Ng (kY g) c.h d.h (Bv h)) (pG Nh)⟩
end
section
variable {X:Cx}{o i e:Expr}{mo mi me:ME}{pos tpos:Vl}{td ty tv:TE}
noncomputable def Nj (K:Ta)(td ty tv:TE):TS:=fun D σ H=>tv σ H fun v d=>td σ d fun x g=>ty σ g fun y c=>∃ a b ps k,x=.ref a/\y=.ref b/\c a=some (aY a ps)/\eD K c ps/\SqT K c b (k.map V.int)/\ps.length<TC/\D.nx σ (aO c a (aY a (jF ps k b v)))
theorem Nk (J:X.A.units+1<VS)(E:PE X o td)(A:PE X i ty)(K:PE X e tv)(G:Xi e (some (.Subscript o i tpos)) pos.line X.env=pure false) :
  PS X (.Assign [.Subscript o i tpos] e pos) (Nj X.K td ty tv):=by
 intro c s d H D I h
 refine wpAny_Assign_Subscript (aW (K c s d H _ I h) fun r Y ⟨v,g,l,R,N⟩=>aW (E c Y d g _ l N) fun u Z ⟨x,j,m,T,O⟩=>aW (A c Z d j _ m O) fun M s3 ⟨y,H3,n,U,a,b,ps,k,q,w,e,B,z,L,Q⟩=>?_) G
 subst q w
 obtain rfl:u=Tx a:=T
 obtain rfl:M=Tx b:=U
 exact M9 J n e B z L R fun s4 p=>⟨d,_,p,Q⟩
theorem Nl {g:Nat}(hr:Room g X.A)(ho:QE X o mo)(hi:QE X i mi)(he:QE X e me)(h:iL e=true):QS X (.Assign [.Subscript o i tpos] e pos) (wO pM mo mi me):=
 ⟨iW (Nk (Ic hr) ho.h hi.h he.h (rS h)) (by
 rintro E σ H ⟨π,J,μ,fl,ρ',μ',R,m,d,k⟩
 obtain ⟨⟨x,j⟩,h1,d⟩:=S9.mp d
 obtain ⟨⟨y,l⟩,h2,d⟩:=S9.mp d
 obtain ⟨⟨z,A⟩,h3,d⟩:=S9.mp d
 obtain ⟨μ4,c,d⟩:=Tg.mp d
 cases d
 refine ⟨π,J,μ,x,j,R,m,h1,fun B v1 H1 n O i1=>⟨B,J,j,y,l,O,m.mono n,h2,fun G v2 H2 p R2 i2=>⟨G,J,l,z,A,R2,(m.mono n).mono p,h3,fun I v3 H3 q K i3=>?_⟩⟩⟩
 cases y with
 | loc a=>
  simp only [pM] at c
  split at c
  ·rename_i v hc
   obtain ⟨g,h5,c⟩:=S9.mp c
   split at c
   ·rename_i hz
    cases c
    have u:=i2.mono q
    cases u with
    | loc r=>
     obtain ⟨w,M,T⟩:=fZ K hc
     obtain ⟨b,rfl,N⟩:=nZ i3 h5
     have hv:=(i1.mono p).mono q
     have U:=T.put g N hv
     obtain ⟨Y,Z,g3⟩:=U.to
     have s:w.length<TC:=by
      have:=congrArg Uo (T.to).1
      rw [Tc,Tc] at this
      omega
     refine ⟨_,b,w,g,rfl,rfl,M,T.keys,N,s,?_⟩
     obtain ⟨L,Q⟩:=K.put (c:=.dT (eB v g x)) (o:=aY _ (jF w g b v1)) r M (.inr (.inr ⟨_,rfl⟩)) ⟨_,rfl,Y,Z,g3⟩
     exact k I σ _ (((n.trans p).trans q).trans L) Q ((((m.mono n).mono p).mono q).mono L)
   ·cases c
  ·cases c
 | _=>simp [pM] at c)⟩
end
noncomputable def pS (b:Bool):D->D->Hm->Option (D×Hm)
 | x,.loc a,μ=>match μ[a]? with
  | some (.dT kvs)=>(eA x).map fun k=>(.bl (if b then !(b9 kvs k).isSome else (b9 kvs k).isSome),μ)
  | some (.dF kvs)=>(eA x).map fun k=>(.bl (if b then !(b9 kvs k).isSome else (b9 kvs k).isSome),μ)
  | _=>none
 | _,_,_=>none
noncomputable def wV (K:Ta)(c:Bool):R2:=fun x y H Q=>∃ a b ps k,x=.ref b/\y=.ref a/\Rd H a (aY a ps)/\eD K H ps/\SqT K H b (k.map V.int)/\Q (.bl (if c then !(dU ps k).isSome else (dU ps k).isSome)) H
theorem Cz {X:Cx}(j:X.A.units+1<VS):OpR X (UG .In) (wV X.K false):=by
 intro d s p H x y v u Q I l m h
 obtain ⟨a,b,n,k,rfl,rfl,e,i,g,q⟩:=h
 obtain rfl:v=Tx b:=l
 obtain rfl:u=Tx a:=m
 exact M7 j I e i g fun o c=>⟨.bl _,H,c,rfl,q⟩
theorem CA {X:Cx}(j:X.A.units+1<VS):OpR X (UG .NotIn) (wV X.K true):=by
 intro d s p H x y v u Q I l m h
 obtain ⟨a,b,n,k,rfl,rfl,e,i,g,q⟩:=h
 obtain rfl:v=Tx b:=l
 obtain rfl:u=Tx a:=m
 exact M8 j I e i g fun o c=>⟨.bl _,H,c,rfl,q⟩
theorem sM {K:Ta}{j:Bool}:cH K (pS j) (wV K j):=by
 intro q H z x y d s u w Q R o p a k
 unfold pS at a
 split at a
 ·split at a
  ·rename_i h hc
   obtain ⟨g,c,a⟩:=Tg.mp a
   cases a
   cases p
   obtain ⟨l,m,T⟩:=fZ R hc
   obtain ⟨b,rfl,n⟩:=nZ o c
   have e:(dU l g).isSome=(b9 h g).isSome:=by
    rcases T.val g with ⟨c,i⟩|⟨v,d,c,i,_⟩<;>rw [c,i]<;>rfl
   refine ⟨_,b,l,g,rfl,rfl,.of m,T.keys,n,?_⟩
   rw [e]
   exact k q _ H .refl R (.bl _)
  ·rename_i h hc
   obtain ⟨g,c,a⟩:=Tg.mp a
   cases a
   cases p
   obtain ⟨r,l,m,T⟩:=pQ R hc
   obtain ⟨b,rfl,n⟩:=nZ o c
   have e:(dU l g).isSome=(b9 h g).isSome:=by
    rcases T.val g with ⟨c,i⟩|⟨v,d,c,i,_⟩<;>rw [c,i]<;>rfl
   refine ⟨_,b,l,g,rfl,rfl,.inr ⟨r,m⟩,T.keys,n,?_⟩
   rw [e]
   exact k q _ H .refl R (.bl _)
  ·cases a
 ·cases a
section
variable {X:Cx}{a b:Expr}{ma mb:ME}{pos:Vl}
end
end L3
namespace L3
open PySem L2
noncomputable def RawD (h:UW)(d:Addr)(b:Array UH)(a:Nat):Prop:=∃ z,h.get? d=some z/\z.ExactDict/\z.data=.dict b a
theorem RawD.ty {s:Th}{d:Addr} {es ep} (g:RawD s.heap d es ep):s.TypeIs (.ref d) "dict":=let ⟨z,a,b,_⟩:=g;⟨z,a,b.1⟩
theorem RawD.stay {h h':UW}{d:Addr} {es ep} (g:RawD h d es ep)(k:∀ o,h.get? d=some o->h'.get? d=some o):RawD h' d es ep:=let ⟨z,a,b⟩:=g;⟨z,k z a,b⟩
theorem RawD.lt {h:UW}{d:Addr} {es ep} (g:RawD h d es ep):d<h.objs.size:=let ⟨_,a,_⟩:=g;TB a
section
variable {P:T3}{w:Uk}{A:Ug}{E:Te->Th->Prop}{s:Th}{d it:Addr}{i ep:Nat}{es:Array UH}
theorem CB {Q:Te->Th->Prop}(lo:(d == UR)=false)(g:RawD s.heap d es ep)
  (q:Q (.ref s.heap.objs.size) { s with heap:=s.heap.push { cls:=.type "dict_keyiterator",data:=.fields #[.ref d,.int 0 0,.int es.size 0,.int ep 0] } }):TX (T7 P w) A (Zp (.ref d)) Q E s:=by
 obtain ⟨z,a,c,b⟩:=id g
 refine a2j g.ty F.slot_dict_iter (VE F.slot_dict_iter g.ty F.entry_dict_iter ?_ (F.args_dict_iter_1 _))
 unfold Builtin.«dict.__iter__» a3p
 refine Td (Td (Wt g.ty ?_))
 show TX _ _ (pure (Tx d)) _ _ _
 refine Tr ?_
 show TX _ _ (VL d >>= _) _ _ _
 unfold VL
 rw [if_neg (fun x=>Uc (lo.symm.trans x))]
 refine Td (Tr (Td (UX a b (Td (Wn a b (Td (VO (Tr ?_))))))))
 exact ⟨_,rfl,"dict_keyiterator",_,⟨_,TJ _ rfl,rfl⟩,F.slot_dict_keyiterator_next.lookup,by simpa [XN] using q⟩
theorem sN {Q:Option Te->Th->Prop}(p:A.handled=none)(j:s.heap.IsKeyIter it d i es.size ep)(g:RawD s.heap d es ep)
  (v:∀ e a,es[i]? = some e->a.IsKeyIter it d (i+1) es.size ep->VP it s.heap a->Q (some e.key) { s with heap:=a })
  (B:es[i]? = none->∀ a,Y1 it s.heap a->Q none { s with heap:=a }):TX (T7 P w) A (Zo (.ref it)) Q E s:=by
 obtain ⟨y,c,r,b⟩:=id j
 obtain ⟨z,m,G,n⟩:=id g
 have l:∀ {Q:String->Th->Prop}{A:Ug}{E:Te->Th->Prop},Q "dict_keyiterator" s->TX (T7 P w) A (typeNameOfWhole (.ref it)) Q E s:=fun q=>wpAny_typeNameOfWhole_keyiter j.typeIs q
 unfold Zo
 refine Td (a0w (a0F (name:=UC "__next__") j.typeIs F.slot_dict_keyiterator_next (VE F.slot_dict_keyiterator_next j.typeIs F.entry_dict_keyiterator_next ?_ (F.args_dict_keyiterator_next_1 _))))
 refine Td (Tr (Td (Td (Td (l (Tr (Td (a3r c b ?_))))))))
 simp only [show WE "dict_keyiterator" = false by decide,Tw,if_false]
 show TX _ _ (if (Tx d == Vm)=true then _ else _) _ _ _
 rw [if_neg (show ¬ (Tx d == Vm)=true from fun x=>Uc x)]
 refine Td (Tr (Td (UX m n ?_)))
 rw [if_neg (fun x=>by simp at x)]
 refine Td (Tr (Td (Wn m n ?_)))
 rw [if_neg (fun x=>by simp at x)]
 refine Tr ?_
 simp only [if_neg (show ¬ ((i:Int)<0) by omega),a1B]
 cases o:es[i]? with
 | some e=>
  refine Td (Td (l (Tr (Td (a1s j.typeIs ?_)))))
  show TX _ _ (a1F (.ref it) 1 (XN ((i:Int)+1)) >>= _) _ _ _
  refine Td (ZZ c b (by simp) ?_)
  have h:(s.heap.update it (a2t (·.setIfInBounds 1 (XN ((i:Int)+1))))).IsKeyIter it d (i+1) es.size ep:=
   ⟨_,X8 _ c (Obj.isFreed_of_fields (a1m b _)),(Obj.cls_mapFields ..).trans r,by simp [a1m b,XN]⟩
  generalize hu:s.heap.update it (a2t (·.setIfInBounds 1 (XN ((i:Int)+1))))=u at h
  refine Td (U6 (Td (a1s (s:={ s with heap:=u }) h.typeIs ?_)))
  show TX _ _ (pure e.key) _ _ _
  exact Tr (Tr ⟨_,rfl,Tr (v e u o h (hu ▸ XR ..))⟩)
 | none=>
  refine Td (Td (l (Tr ?_)))
  show TX _ _ (a1F (.ref it) 0 .none >>= _) _ _ _
  refine Td (ZZ c b (by simp) ?_)
  show TX _ _ (a3w (.type "StopIteration") [] >>= _) _ _ _
  simp only [a3w,newTuple]
  refine Td (Td (VO ?_ (by size_fits)))
  refine Td (m:=Yy _ _) (wpAny_of_eq (a:=Vm) (by first|rfl|(simp only [Yy];rfl)) (VO ?_ (by size_fits)))
  simp only [raiseNew]
  refine Td (wpAny_handled ?_)
  rw [show A.in1.handled=none from p]
  refine Td (Tr (wpAny_throw ?thrown))
  case thrown=>exact Td (WG (T:="StopIteration") (b:=true) ⟨_,TJ _ rfl,rfl⟩ a3C (Tr (B o _ (((XR ..).extBut.push _).push _))))
theorem Nm (m:A.handled=none)(l:d≠it)(es:Array UH)(ep:Nat):Walks P w A it [it,d] [it] es.size (fun i v=>∃ e,es[i]? = some e/\v=e.key) (fun i h=>h.IsKeyIter it d i es.size ep/\RawD h d es ep) where
 sub:=fun b a=>by rw [UA.mp a];exact Um ..
 frame:=fun _ _ _ st k=>⟨st.1.at fun o e=>k it (by simp) o e,st.2.stay fun o e=>k d (by simp) o e⟩
 item:=fun i s Q E r st q=>sN m st.1 st.2 (fun e j c p n=>q _ j s.toks ⟨e,c,rfl⟩ ⟨p,st.2.stay fun o g=>n.extBut d o l g⟩ fun b o a g=>n.extBut b o (fun z=>a (by simp [z])) g) (fun c=>by simp at c;omega)
 done:=fun s Q E st q=>sN m st.1 st.2 (fun e j c=>by simp at c) (fun _ j x=>q j s.toks fun b o a g=>x b o (fun z=>a (by simp [z])) g)
 self:=fun _ _ _ _ st q=>a1E st.1 q
theorem wW (lo:(d == UR)=false):PySem.W.KdlSrc P w "dict" d d es.size (fun i v=>∃ e,es[i]? = some e/\v=e.key) (fun h=>RawD h d es ep) where
 type:=fun _ g=>g.ty
 there:=fun _ g=>⟨g.lt,g.lt⟩
 keep:=fun _ _ g k=>g.stay fun o e=>k d (.inl rfl) o e
 notList:=by decide
 notTuple:=by decide
 hint:=fun _ _ _ _ g q=>PySem.W.kdl_hint_dict g.ty q
 iter:=fun _ _ a g=>⟨_,_,(fun _ _ q=>CB lo g q),Nm a (TY g.lt) es ep,⟨⟨_,TJ _ rfl,rfl,rfl⟩,g.stay fun o e=>Ti _ e⟩⟩
theorem Nn (lo:(d == UR)=false):MeetsIn P w (Builtin.«dict.__len__» ⟨[.ref d],[]⟩) (fun _ R s=>∃ es ep,RawD s.heap d es ep/\R (.ok (.ret (.int (es.size:Nat) s.toks))) { s with toks:=s.toks+1 }):=
 .of_wp fun A R s ⟨es,ep,⟨z,a,c,b⟩,q⟩=>by
  show TX _ _ (dictSize d >>= _) _ _ _
  unfold dictSize
  refine Td (Td (UX a b (Tr ?_)))
  show TX _ _ (a3l d >>= _) _ _ _
  refine Td (wpAny_pendingCount_other lo (wpAny_ret_mkInt ?_))
  rw [X6];exact q
theorem Np {Q:Te->Th->Prop}(lo:(d == UR)=false)(g:RawD s.heap d es ep)(a:es.size<=TC)(q:Q (.int (es.size:Nat) (s.toks+1)) { s with toks:=s.toks+1+1 }):TX (T7 P w) A (call (.builtin "len") [.ref d]) Q E s:=
 a2Z g.ty F.slot_dict_len (fun c b=>a0Y F.slot_dict_len g.ty F.entry_dict_len (F.args_dict_len_1 _) (Nn lo) ⟨es,ep,g,b⟩) (by omega) (by rw [T5] at a;omega) q
end
theorem wX:∀ {ps:b6}{ws:List Te},Vals (ps.map (·.2.2)) ws->(bQ ps ws).map (fun x=>Tx x.2.1)=ps.map fun p=>Tx p.2.1
 | [],_,_=>by simp [bQ]
 | p::ps,_,.cons r t=>by
  have a:=wX (ps:=ps) t
  unfold bQ at a ⊢
  rw [Up,Tq,Tq,a]
theorem CC:∀ ps:b6,Vals (ps.map fun p=>V.ref p.2.1) (ps.map fun p=>Tx p.2.1)
 | []=>.nil
 | p::ps=>.cons rfl (CC ps)
section
variable {X:Cx}{a3J:List (Addr×Obj)}{σ:St}{H:Hp}{s:Th}{a:Addr}{ps:b6}
theorem n4 (I:Inv X a3J σ H s)(e:H a=some (aY a ps))(j:eD X.K H ps):(a == UR)=false/\ps.length<=TC/\∃ b c,RawD s.heap a b c/\b.toList.map (·.key)=ps.map fun p=>Tx p.2.1:=by
 obtain ⟨m,l,n,r,z,b,c,d,g,h,i,_⟩:=j7 I (.of e) j
 refine ⟨m,l,b,c,⟨z,d,g,h⟩,?_⟩
 rw [i,TF,<- wX r]
 rfl
noncomputable def CD (K:Ta):List V->Hp->VK->Prop:=fun xs H Q=>∃ a ps,xs=[V.ref a]/\H a=some (aY a ps)/\eD K H ps/\Q (.int ps.length) H
theorem Nq:CallR X (.builtin "len") (CD X.K):=by
 intro a3J s σ H p o Q I r h
 obtain ⟨a,ps,rfl,c,e,q⟩:=h
 obtain ⟨u,rfl,l⟩:=fC r
 cases l
 obtain ⟨j,n,b,m,g,d⟩:=n4 I c e
 have i:b.size=ps.length:=by
  have:=congrArg Uo d
  simpa using this
 refine Np j g (by omega) ?_
 rw [i]
 exact ⟨.int ps.length,H,(I.tok _).tok _,⟨_,rfl⟩,q⟩
noncomputable def CF (K:Ta):List V->Hp->VK->Prop:=fun xs H Q=>∃ a ps,xs=[V.ref a]/\H a=some (aY a ps)/\eD K H ps/\∀ l,H l=none->Q (.ref l) (aO H l (.lst (ps.map fun p=>V.ref p.2.1)))
theorem Nt (hc:X.calm=true):CallR X (.type "list") (CF X.K):=by
 intro a3J s σ H O N Q I r h
 obtain ⟨a,ps,rfl,y,z,q⟩:=h
 obtain ⟨u,rfl,G⟩:=fC r
 cases G
 obtain ⟨E,A,n,K,g,d⟩:=n4 I y z
 have M:n.size=ps.length:=by
  have:=congrArg Uo d
  simpa using this
 refine PySem.W.kdl_call (wW E) (I.ok.hd hc) g (by omega) fun L J b l B x c=>?_
 refine ⟨.ref s.heap.objs.size,_,I.laid (t':=J) (a:=s.heap.objs.size) (o:=.lst (ps.map fun p=>V.ref p.2.1)) B (Tt _) ?_,rfl,q _ (I.hok.fresh (Tt _))⟩
 refine ⟨by rw [Tc];exact A,b.toList,l,?_,by simpa using x⟩
 have m:b.toList=ps.map fun p=>Tx p.2.1:=by
  rw [<- d]
  refine XD fun i=>?_
  rw [TH,UO,UO]
  cases j:b[i]? with
  | some v=>
   obtain ⟨e,o,w⟩:=c.2 i v j
   rw [o,w];rfl
  | none=>
   have:b.size<=i:=by simpa using j
   rw [XU (by rw [<- c.1];exact this)];rfl
 rw [m]
 exact CC ps
end
section
variable {X:Cx}{a b o i e:Expr}{ma mb mo mi me:ME}{pos tpos:Vl}{k:Nat}
theorem Nu (l:Room k X.A)(g:QE X a ma)(j:QE X b mb)(h:nP b=true):QE X (.Subscript a b pos) (aB aH ma mb):=
 mJ (Ni l g j h) (KI g j h) (fV fun x y m r c=>by
  unfold aH at c
  split at c
  ·split at c
   ·rename_i d hc
    refine .inl ?_
    simp only [pR,hc]
    exact c
   ·rename_i d hc
    refine .inl ?_
    simp only [pR,hc]
    exact c
   ·exact .inr c
  ·exact .inr c)
noncomputable def n5 (c:Bool):D->D->Hm->Option (D×Hm):=fun x y d=>match pS c x y d with
 | some r=>some r
 | none=>kZ c x y d
theorem sO {c:Bool}(x y:D)(d:Hm)(r:D×Hm)(h:n5 c x y d=some r):pS c x y d=some r\/kZ c x y d=some r:=by
 unfold n5 at h
 split at h
 ·rename_i z;rw [z];exact .inl h
 ·exact .inr h
theorem CG {g:Bool}(x y:D)(l:Hm)(r:D×Hm)(h:cW g x y l=some r):(∃ i j,x=.str i/\y=.str j)\/n5 g x y l=some r:=by
 cases y with
 | loc a=>
  refine .inr ?_
  have e:cW g x (.loc a) l=(match l[a]? with
   | some (.dT d)=>(eA x).map fun k=>(D.bl (if g then !(b9 d k).isSome else (b9 d k).isSome),l)
   | some (.dF d)=>(eA x).map fun k=>(D.bl (if g then !(b9 d k).isSome else (b9 d k).isSome),l)
   | _=>kZ g x (.loc a) l):=by cases x<;>rfl
  rw [e] at h
  unfold n5
  simp only [pS]
  cases hc:l[a]? with
  | none=>rw [hc] at h;exact h
  | some c=>
   rw [hc] at h
   cases c with
   | dT d=>dsimp only at h ⊢;rw [h]
   | dF d=>dsimp only at h ⊢;rw [h]
   | _=>exact h
 | str j=>
  cases x with
  | str i=>exact .inl ⟨i,j,rfl,rfl⟩
  | _=>exact .inr h
 | _=>cases x<;>exact .inr h
theorem CH (x y:D)(c:Hm)(r:D×Hm)(h:cW false x y c=some r):vW x y c=some r\/n5 false x y c=some r:=by
 rcases CG x y c r h with ⟨i,j,rfl,rfl⟩|z
 ·exact .inl h
 ·exact .inr z
theorem CI (x y:D)(c:Hm)(r:D×Hm)(h:cW true x y c=some r):wF x y c=some r\/n5 true x y c=some r:=by
 rcases CG x y c r h with ⟨i,j,rfl,rfl⟩|z
 ·exact .inl h
 ·exact .inr z
theorem Nv (g:Room k X.A)(c:QE X a ma)(d:QE X b mb)(h:eW b=true):QE X (.Compare a [.In] [b] pos) (aB (cW false) ma mb):=
 mJ ⟨dZ Ae Bj c.h d.h (gX h)⟩ (mJ ⟨dZ (Cz (kY g)) sM c.h d.h (gX h)⟩ ⟨dZ (BL (rY g)) rW c.h d.h (gX h)⟩ (fV sO)) (fV CH)
theorem Nx (g:Room k X.A)(c:QE X a ma)(d:QE X b mb)(h:eW b=true):QE X (.Compare a [.NotIn] [b] pos) (aB (cW true) ma mb):=
 mJ ⟨dZ AF BN c.h d.h (gX h)⟩ (mJ ⟨dZ (CA (kY g)) sM c.h d.h (gX h)⟩ ⟨dZ (BM (rY g)) rW c.h d.h (gX h)⟩ (fV sO)) (fV CI)
theorem Ny (g:Room k X.A)(c:QE X a ma)(d:QE X b mb)(h:eW b=true):QT X (.Compare a [.In] [b] pos) (aT (aB (cW false) ma mb)):=
 nQ ⟨d7 Ae Bj c.h d.h (gX h)⟩ (nQ ⟨d7 (Cz (kY g)) sM c.h d.h (gX h)⟩ ⟨d7 (BL (rY g)) rW c.h d.h (gX h)⟩ (nR (fV sO))) (nR (fV CH))
theorem Nz (g:Room k X.A)(c:QE X a ma)(d:QE X b mb)(h:eW b=true):QT X (.Compare a [.NotIn] [b] pos) (aT (aB (cW true) ma mb)):=
 nQ ⟨d7 AF BN c.h d.h (gX h)⟩ (nQ ⟨d7 (CA (kY g)) sM c.h d.h (gX h)⟩ ⟨d7 (BM (rY g)) rW c.h d.h (gX h)⟩ (nR (fV sO))) (nR (fV CI))
theorem NA (j:Room k X.A)(g:QE X o mo)(d:QE X i mi)(c:QE X e me)(h:iL e=true):QS X (.Assign [.Subscript o i tpos] e pos) (cM mo mi me):=Nl j g d c h
end
end L3
namespace L3
open PySem L2
end L3
namespace L3
open PySem L2
end L3
namespace L3
open PySem L2
noncomputable def ItI (h:UW)(c d S:Addr)(i n e:Nat):Prop:=∃ (b ok j:Te)(g:Bool),h.get? c=some { cls:=.type "dict_itemiterator",dict:=none,data:=.fields #[b,.bool g,.ref d,.int i 0,.int n 0,.int e 0,ok,j],slots:=#[] } /\
 (b=.none\/∃ (a:Addr)(o:Obj),b=XN a/\h.get? a=some o/\a≠c/\a≠S)
theorem ItI.ty {s:Th}{a d S:Addr} {i n ep} (j:ItI s.heap a d S i n ep):s.TypeIs (.ref a) "dict_itemiterator":=let ⟨_,_,_,_,e,_⟩:=j;⟨_,e,rfl⟩
theorem ItI.stay {h h':UW}{c d S:Addr} {i n ep} (j:ItI h c d S i n ep)(m:c≠S)(k:∀ b o,b≠S->h.get? b=some o->h'.get? b=some o):ItI h' c d S i n ep:=by
 obtain ⟨v,ok,p,l,e,r⟩:=j
 refine ⟨v,ok,p,l,k _ _ m e,?_⟩
 rcases r with r|⟨a,o,q,s,u,g⟩
 ·exact .inl r
 ·exact .inr ⟨a,o,q,k _ _ g s,u,g⟩
section
variable {P:T3}{w:Uk}{A:Ug}{E:Te->Th->Prop}{s:Th}{d it S:Addr}{i ep:Nat}{es:Array UH}
end
structure PrsAt (es:Array UH)(lo:Addr)(h:UW)(as:List Addr):Prop where
 up:as.Pairwise (·<·)
 over:∀ a∈as,lo<a
 prs:∀ (j:Nat)(a:Addr),as[j]? = some a->∃ e,es[j]? = some e/\h.get? a=some { cls:=.type "tuple",data:=.seq #[e.key,e.val] }
theorem PrsAt.stay {d:Array UH}{lo:Addr}{h h':UW}{c:List Addr}(p:PrsAt d lo h c)(k:∀ b o,lo<b->h.get? b=some o->h'.get? b=some o):PrsAt d lo h' c:=
 ⟨p.up,p.over,fun j a g=>let ⟨e,i,l⟩:=p.prs j a g;⟨e,i,k a _ (p.over a (Ue g)) l⟩⟩
theorem PrsAt.lt {c:Array UH}{lo:Addr}{h:UW}{b:List Addr}(p:PrsAt c lo h b){a:Addr}(d:a∈b):a<h.objs.size:=by
 obtain ⟨j,g⟩:=a0e.mp d
 obtain ⟨_,_,e⟩:=p.prs j a g
 exact TB e
theorem PrsAt.snoc {m:Array UH}{lo:Addr}{h:UW}{g:List Addr}{b:Addr}{e:UH}(p:PrsAt m lo h g)(n:∀ a∈g,a<b)(q:lo<b)(o:m[g.length]? = some e)(r:h.get? b=some { cls:=.type "tuple",data:=.seq #[e.key,e.val] }):PrsAt m lo h (g++[b]):=by
 refine ⟨a0o.mpr ⟨p.up,List.pairwise_singleton _ _,fun a d c hc=>by rw [UA.mp hc];exact n a d⟩,fun a d=>?_,fun j a i=>?_⟩
 ·rcases U7.mp d with d|d
  ·exact p.over a d
  ·rw [UA.mp d];exact q
 ·rcases YN j g.length with l|l|l
  ·rw [TR l] at i
   exact p.prs j a i
  ·subst l
   have:b=a:=by simpa using i
   subst this
   exact ⟨e,o,r⟩
  ·rw [Wh (by simp;omega)] at i
   cases i
section
variable {P:T3}{w:Uk}{A:Ug}{s:Th}{R:Z9->Th->Prop}{es:Array UH}{ep:Nat}{S I d:Addr}
end
end L3
namespace L3
open PySem L2 PySem.W PyProof.Rows
section
variable {P:T3}{w:Uk}{A:Ug}{E:Te->Th->Prop}{s:Th}
noncomputable def pT (P:T3)(w:Uk)(A:Ug)(us:List Te)(an:Nat->Nat->Bool)(s:Th):Prop:=
 TX (T7 P w) A (keyKind' us.toArray) (fun b a=>a=s/\∀ (i j:Nat)(C:Bool->Th->Prop),i<us.length->j<us.length->C (an i j) s->TX (T7 P w) A (keyLt' b (us.getD i .none) (us.getD j .none)) C (fun _ _=>False) s) (fun _ _=>False) s
end
end L3
namespace L3
open PySem L2 PySem.W PyProof.Rows
section
variable {P:T3}{w:Uk}{A:Ug}{E:Te->Th->Prop}{s:Th}
theorem NB {c:Addr}{us:List Te}{z:Nat}{R:a2P->Th->Prop}{an:Nat->Nat->Bool}(N:2<=us.length)(n:us.length<64)(g:s.heap.get? c=some (UZ "list" us.toArray z)) (H:∀ J:UW,(∀ b o,b≠c->s.heap.get? b=some o->J.get? b=some o)->pT P w A us an { s with heap:=J })
  (q:R (.done (.ret .none)) { s with heap:=Z1 s.heap c us ((eH an us.length).map fun i=>us.getD i Vm).toArray }):TX (T7 P w) A (Builtin.«list.sort» ⟨[.ref c],[]⟩) R E s:=by
 rw [ZH]
 refine Td (a0V g rfl (Td (Xn g rfl ?_ (by rw [TN,T5];omega) (Uz _))))
 obtain ⟨y,G⟩:∃ y,(s.heap.update c (Vc fun _=>#[])).get? c=some (UZ "list" #[] y):=⟨_,ZI g _⟩
 refine Td (XX G rfl (Td (Yx (Td (X1 (U6 ?_) (Uz _))) (by show us.length<=_;rw [T5];omega))))
 have I:(((s.heap.update c (Vc fun _=>#[])).push (UZ "tuple" us.toArray 0)).push (UZ "list" #[] 0)).get? c=some (UZ "list" #[] y):=
  Ti _ (Ti _ G)
 have m:=H (((s.heap.update c (Vc fun _=>#[])).push (UZ "tuple" us.toArray 0)).push (UZ "list" #[] 0)) fun b o Q e=>Ti _ (Ti _ ((Wb _ _ (Uu Q)).trans e))
 show TX (T7 P w) A _ R E ⟨((s.heap.update c (Vc fun _=>#[])).push (UZ "tuple" us.toArray 0)).push (UZ "list" #[] 0),s.gens,s.drawn,s.toks,s.os⟩
 dsimp only
 have h:¬ us.toArray.size<2:=by rw [TN];omega
 rw [if_neg h,if_neg h]
 refine Td (Uy m (fun Y l u=>?_) fun _ _ x=>x.elim)
 obtain ⟨rfl,u⟩:=u
 refine Td (Uy (kat_run (ks:=us) (vs:=us) (κ:=Y) (Q:=fun a l=>l = { s with heap:=((s.heap.update c (Vc fun _=>#[])).push (UZ "tuple" us.toArray 0)).push (UZ "list" #[] 0) }/\a3D a=none/\(a1I a).map (·.2)=((eH an us.length).map fun i=>us.getD i Vm).toArray)
  (G:=fun p l=>l = { s with heap:=((s.heap.update c (Vc fun _=>#[])).push (UZ "tuple" us.toArray 0)).push (UZ "list" #[] 0) }/\p.toList=eH an us.length) rfl N n (fun p a l Z L M B=>⟨B.1,M,by rw [kat_snds rfl L,B.2]⟩)
  (BR (n:=us.length) (ans:=an) (fun i j C T U O=>u i j C T U O) (BX (by omega)) ⟨rfl,rfl⟩)) (fun r l X=>?_) fun _ _ e=>e)
 obtain ⟨⟨⟩,a⟩:=r
 obtain ⟨rfl,K,d⟩:=X
 dsimp only at K d ⊢
 rw [d]
 have v:((eH an us.length).map fun i=>us.getD i Vm).length=us.length:=by
  rw [Tc,(wJ an (n:=us.length) (by omega)).length_eq,WT]
 refine Td (XX I rfl (Td (Xn I rfl ?_ (hsz2:=by rw [TN,v,T5];omega))))
 rw [K]
 simp only [bne_self_eq_false,Tw,if_false]
 exact Tr q
end
end L3
namespace L3
open PySem L2
noncomputable def j8 (ps:b6):b6:=(eH (fun i j=>HT.lexLt ((ps.map (·.1)).getD i []) ((ps.map (·.1)).getD j [])) ps.length).map fun i=>ps.getD i ([],0,.non)
theorem sortT_perm {ps:b6}:(j8 ps).Perm ps:=by
 unfold j8
 have p:=(pL (fun i j=>HT.lexLt ((ps.map (·.1)).getD i []) ((ps.map (·.1)).getD j [])) ps.length).map fun i=>ps.getD i ([],0,.non)
 have e:(Ui ps.length).map (fun i=>ps.getD i ([],0,.non))=ps:=by
  refine a1A (by simp) fun i b a=>?_
  simp [V1,a]
 rw [e] at p
 exact p
end L3
namespace L3
open PySem L2
section
variable {P:T3}{w:Uk}
theorem NC (d:Addr)(hd:(d == UR)=false):MeetsIn P w (Builtin.«dict.items» ⟨[.ref d],[]⟩) (fun _ R s=>(∃ b a,RawD s.heap d b a) /\
   R (.ok (.ret (.ref s.heap.objs.size))) { s with heap:=s.heap.push { cls:=.type "dict_items",data:=.fields #[.ref d] } }):=
 .of_wp fun A R s ⟨⟨b,a,g⟩,h⟩=>by
  unfold Builtin.«dict.items»
  refine Td ?_
  unfold a3m
  refine Td (Wt g.ty ?_)
  show TX _ _ (pure d) _ _ s
  refine Tr ?_
  show TX _ _ (VL d >>= _) _ _ s
  unfold VL
  rw [if_neg (by rw [hd];exact Uc)]
  refine Td (Tr ?_)
  exact Td (VO (Tr ⟨_,rfl,h⟩))
end
noncomputable def n6 (a:List (List Int×D)):List (List Int×D):=(eH (fun i j=>HT.lexLt ((a.map (·.1)).getD i []) ((a.map (·.1)).getD j [])) a.length).map fun i=>a.getD i ([],.non)
theorem ND {c d:Type}{R:c->d->Prop}{a:List c}{bs:List d}(h:Xl R a bs)(g:c)(j:d):∀ i,i<a.length->R (a.getD i g) (bs.getD i j):=by
 induction h with
 | nil=>exact fun i b=>nomatch b
 | cons e t l=>
  intro i b
  cases i with
  | zero=>exact e
  | succ i=>exact l i (by simpa using b)
theorem CJ {a b:Type}{R:a->b->Prop}{f:Nat->a}{g:Nat->b}:∀ {l:List Nat},(∀ i∈l,R (f i) (g i))->Xl R (l.map f) (l.map g)
 | [],_=>.nil
 | i::l,h=>.cons (h i (Um ..)) (CJ fun j c=>h j (Ua _ c))
theorem NF {K:Ta}{π:Nat->Addr}{n:Nat}{H:Hp}{ps:b6}{a:List (List Int×D)}(h:IsTs K π n H ps a):ps.length=a.length/\IsTs K π n H (j8 ps) (n6 a):=by
 have b:=h.to.1
 have c:ps.length=a.length:=by
  have:=congrArg Uo b
  simpa using this
 refine ⟨c,?_⟩
 unfold j8 n6
 rw [b,c]
 refine CJ fun i d=>ND h _ _ i ?_
 have:=Vk.mp ((pL _ a.length).mem_iff.mp d)
 omega
end L3
namespace L3
open PySem L2
section
variable {X:Cx}{a3J pins0:List (Addr×Obj)}{σ σ0:St}{H H0:Hp}{s s0:Th}{a:Addr}{ps ps0:b6}{ob:Obj}
theorem Inv.freeze (I:Inv X a3J σ H s)(e:H a=some (aY a ps))(c:s.heap.get? a=some ob):Inv X a3J σ (aO H a (.frz ob (aY a ps))) s:=by
 have ok:ObjOk X.prog X.w H s.heap a (aY a ps):=I.hok a _ e
 exact I.write (x:=a) (e:=a) (h':=s.heap) (t':=s.toks) (by rw [e];exact V9) (.inl rfl) (fun b q _ z=>z) ⟨ob,c⟩ ⟨c,ok⟩
theorem Inv.thaw (n:Inv X pins0 σ0 H0 s0)(r:H0 a=some (aY a ps0))(I:Inv X a3J σ H s)(e:H a=some (.frz ob (aY a ps))):Inv X a3J σ (aO H a (aY a ps)) s:=by
 have ne:∀ {b:Addr},H b=none->b≠a:=fun {b} h z=>by rw [z,e] at h;cases h
 refine ⟨I.ok,I.os,I.bare,⟨I.base.keep,I.base.slot,fun b o d g i=>?_,I.base.there,fun b l h=>?_,fun b o u h=>?_,fun b w h=>?_⟩,I.loc,I.cell,?_,fun x c h=>?_,fun p v=>?_,fun b u q=>?_,I.len⟩
 ·have:=I.base.free b o d g i
  rw [bI (ne this)];exact this
 ·have:=I.base.tups b l h
  rw [bI fun z=>by rw [z,e] at this;cases this];exact this
 ·have:=I.base.frzs b o u h
  rw [bI fun z=>by
   have m:=n.base.frzs b o u h
   rw [z,r] at m;cases m]
  exact this
 ·obtain ⟨more,d⟩:=I.base.tbls b w h
  exact ⟨more,by rw [bI fun z=>by rw [z,e] at d;cases d];exact d⟩
 ·rw [bI (ne I.free)];exact I.free
 ·have:=I.freeC x c h
  rw [bI (ne this)];exact this
 ·obtain ⟨d,g,i⟩:=I.pin p v
  exact ⟨d,by rw [bI (ne g)];exact g,i⟩
 ·by_cases j:b=a
  ·subst j
   rw [c9] at q
   cases q
   exact (show ObjOk X.prog X.w H s.heap b (.frz ob (aY b ps)) from I.hok b _ e).2
  ·rw [bI j] at q
   exact (I.hok b u q).stay (fun _ _ _ z=>z) (fun c h=>by rw [bI fun z=>by rw [z,e] at h;cases h];exact h) fun c l h=>by rw [bI fun z=>by rw [z,e] at h;cases h];exact h
end
noncomputable def wY (i:Nat)(a:aI):Option D:=if i<1000 then (a[i]?).bind id else match a[i / 1000 - 1]? with
 | some (some (.tup ds))=>ds[i % 1000]?
 | _=>none
noncomputable def n8 (i:Nat)(c:aI)(b:Hm):Option (Nat×List (List Int×D)):=match wY i c with
 | some (.loc a)=>match b[a]? with
  | some (.dT kvs)=>some (a,kvs)
  | _=>none
 | _=>none
theorem CK {i:Nat}{d:aI}{c:Hm}{a:Nat}{b:List (List Int×D)}(h:n8 i d c=some (a,b)):c[a]? = some (.dT b):=by
 unfold n8 at h
 split at h
 ·split at h
  ·rename_i hc
   cases h
   exact hc
  ·cases h
 ·cases h
noncomputable def wZ (i:Nat)(d e:ME):ME:=fun c b=>match n8 i c b with
 | some (a,kvs)=>(d c (b.set a (.dF kvs))).bind fun r=>match r.2[a]? with
  | some (.dF kvs')=>some (r.1,r.2.set a (.dT kvs'))
  | _=>none
 | none=>e c b
noncomputable def dB (i:Nat)(d e:MS):MS:=fun c b=>match n8 i c b with
 | some (a,kvs)=>(d c (b.set a (.dF kvs))).bind fun r=>match r.2.2[a]? with
  | some (.dF kvs')=>some (r.1,r.2.1,r.2.2.set a (.dT kvs'))
  | _=>none
 | none=>e c b
section
variable {X:Cx}{a3J:List (Addr×Obj)}{σ:St}{H:Hp}{s:Th}{π:Nat->Addr}{ρ:aI}{μ:Hm}{a:Nat}{kvs:List (List Int×D)}
theorem CL (I:Inv X a3J σ H s)(R:Rp X.K π H μ)(E:En X.K π μ.length H σ ρ)(hc:μ[a]? = some (.dT kvs)):∃ ob ps,H (π a)=some (aY (π a) ps)/\Inv X a3J σ (aO H (π a) (.frz ob (aY (π a) ps))) s /\
  Rp X.K π (aO H (π a) (.frz ob (aY (π a) ps))) (μ.set a (.dF kvs))/\En X.K π (μ.set a (.dF kvs)).length (aO H (π a) (.frz ob (aY (π a) ps))) σ ρ:=by
 obtain ⟨ps,b,T⟩:=fZ R hc
 obtain ⟨_,⟨ob,d⟩,_⟩:=(show ObjOk X.prog X.w H s.heap (π a) (aY (π a) ps) from I.hok _ _ b)
 obtain ⟨c,R2⟩:=R.put (c:=.dF kvs) (o:=.frz ob (aY (π a) ps)) (Tf.mp hc).1 b (.inr (.inr ⟨_,rfl⟩)) ⟨ob,ps,rfl,T.to⟩
 exact ⟨ob,ps,b,Inv.freeze I b d,R2,E.mono c⟩
theorem pU {g:List (Addr×Obj)}{n:St}{j:Hp}{x:Th}{c:Nat->Addr}{μ':Hm}{ob:Obj}{ps:b6}{d:List (List Int×D)}(I:Inv X a3J σ H s)(e:H (π a)=some (aY (π a) ps))(A:a<μ.length)
  (y:Inv X g n j x)(w:Rp X.K c j μ')(l:Ext π (μ.set a (.dF kvs)).length (aO H (π a) (.frz ob (aY (π a) ps))) c μ'.length j)(hc:μ'[a]? = some (.dF d)) :
  ∃ q,Inv X g n q x/\Ext π μ.length H c (μ'.set a (.dT d)).length q/\Rp X.K c q (μ'.set a (.dT d))/\Ext0 c μ'.length j c (μ'.set a (.dT d)).length q:=by
 have r:c a=π a:=l.pi a (by rw [Ud];exact A)
 obtain ⟨E,i,v,T⟩:=pQ w hc
 obtain ⟨J,R2⟩:=w.put0 (c:=.dT d) (o:=aY (c a) i) (Tf.mp hc).1 v (.inr (.inr (.inr ⟨_,_,rfl⟩))) ⟨i,rfl,T.to⟩
 rw [r] at v
 refine ⟨aO j (c a) (aY (c a) i),?_,⟨?_,fun b B=>l.pi b (by rw [Ud];exact B),fun p G h=>?_,fun p o u h=>?_⟩,R2,J⟩
 ·rw [r]
  exact Inv.thaw I e y v
 ·have:=l.le
  rw [Ud] at this ⊢
  exact this
 ·have m:p≠π a:=fun z=>by rw [z,e] at h;cases h
  have:=l.tup p G (by rw [bI m];exact h)
  rw [r,bI m];exact this
 ·have m:p≠π a:=fun z=>by rw [z,e] at h;cases h
  have:=l.frz p o u (by rw [bI m];exact h)
  rw [r,bI m];exact this
theorem En.mono0 {K:Ta}{b:Nat->Addr}{n g:Nat}{c:Hp}(E:En K π n H σ ρ)(e:Ext0 π n H b g c):En K b g c σ ρ:=
 ⟨E.len,fun i d h=>let ⟨v,j,l⟩:=E.get i d h;⟨v,j,l.mono0 e⟩⟩
end
section
variable {X:Cx}{e:Expr}{st:Stmt}{i:Nat}
theorem NG {y z:ME}(Z:QE X e y)(h2:QE X e z):QE X e (wZ i y z):=⟨by
 intro j s G H Q I hw
 obtain ⟨l,B,A,d,q,R,E,c,k⟩:=hw
 unfold wZ at c
 split at c
 ·rename_i a p hv
  obtain ⟨⟨x,g⟩,Y,c⟩:=S9.mp c
  dsimp only at c
  split at c
  ·rename_i w n
   cases c
   have hc:=CK hv
   obtain ⟨ob,ps,T,K,N,J⟩:=CL I R E hc
   refine aW (Z.h j s G _ (fun v h=>∃ b,Ext l (A.set a (.dF p)).length (aO H (l a) (.frz ob (aY (l a) ps))) b g.length h/\Rp X.K b h g/\IsD X.K b g.length h v d) K ⟨l,B,_,d,g,N,J,Y,fun b v h m R2 o=>⟨b,m,R2,o⟩⟩) fun u s2 ⟨v,h,L,rv,b,m,R2,o⟩=>?_
   obtain ⟨r,M,U,O,x3⟩:=pU I T (Tf.mp hc).1 L R2 m n
   exact ⟨v,r,M,rv,k b v r U O (o.mono0 x3)⟩
  ·cases c
 ·exact h2.h j s G H Q I ⟨l,B,A,d,q,R,E,c,k⟩⟩
theorem w4 {Y Z:MS}(h1:QS X st Y)(h2:QS X st Z):QS X st (dB i Y Z):=⟨by
 intro J s σ H D I hw
 obtain ⟨l,ρ,K,B,o,T,R,E,r,k⟩:=hw
 unfold dB at r
 split at r
 ·rename_i a w hv
  obtain ⟨⟨fl1,ρ1,g⟩,g1,r⟩:=S9.mp r
  dsimp only at r
  split at r
  ·rename_i U p
   cases r
   have hc:=CK hv
   have M:=(Tf.mp hc).1
   obtain ⟨N,O,L,I1,R1,E1⟩:=CL I R E hc
   refine aW (h1.h J s σ _ ⟨fun c h=>B=.nx/\∃ b,Ext l (K.set a (.dF w)).length (aO H (l a) (.frz N (aY (l a) O))) b g.length h/\Rp X.K b h g/\En X.K b g.length h c o,
     fun v h=>∃ d,B=.rt d/\∃ b,Ext l (K.set a (.dF w)).length (aO H (l a) (.frz N (aY (l a) O))) b g.length h/\Rp X.K b h g/\IsD X.K b g.length h v d,
     fun c h=>B=.bk/\∃ b,Ext l (K.set a (.dF w)).length (aO H (l a) (.frz N (aY (l a) O))) b g.length h/\Rp X.K b h g/\En X.K b g.length h c o,
     fun c h=>B=.ct/\∃ b,Ext l (K.set a (.dF w)).length (aO H (l a) (.frz N (aY (l a) O))) b g.length h/\Rp X.K b h g/\En X.K b g.length h c o⟩ I1 ⟨l,ρ,_,B,o,g,R1,E1,g1,?_⟩) fun f s2 q=>?_
   ·cases B with
    | nx=>exact fun b c h j R2 m=>⟨rfl,b,j,R2,m⟩
    | bk=>exact fun b c h j R2 m=>⟨rfl,b,j,R2,m⟩
    | ct=>exact fun b c h j R2 m=>⟨rfl,b,j,R2,m⟩
    | rt d=>exact fun b v h j R2 Q=>⟨d,rfl,b,j,R2,Q⟩
   ·cases f with
    | next=>
     obtain ⟨c,h,x,rfl,b,j,R2,m⟩:=q
     obtain ⟨n,y,A,z,G⟩:=pU I L M x R2 j p
     exact ⟨c,n,y,k b c n A z (En.mono0 m G)⟩
    | brk=>
     obtain ⟨c,h,x,rfl,b,j,R2,m⟩:=q
     obtain ⟨n,y,A,z,G⟩:=pU I L M x R2 j p
     exact ⟨c,n,y,k b c n A z (En.mono0 m G)⟩
    | cont=>
     obtain ⟨c,h,x,rfl,b,j,R2,m⟩:=q
     obtain ⟨n,y,A,z,G⟩:=pU I L M x R2 j p
     exact ⟨c,n,y,k b c n A z (En.mono0 m G)⟩
    | ret u=>
     obtain ⟨v,c,h,x,rv,d,rfl,b,j,R2,Q⟩:=q
     obtain ⟨n,y,A,z,G⟩:=pU I L M x R2 j p
     exact ⟨v,c,n,y,rv,k b v n A z (Q.mono0 G)⟩
  ·cases r
 ·exact h2.h J s σ H D I ⟨l,ρ,K,B,o,T,R,E,r,k⟩⟩
end
noncomputable def w5 (d:Addr)(ob:Obj)(ps:b6):It:=⟨fun i H=>H d=some (.frz ob (aY d ps))/\i<ps.length,fun i H x a=>a=H/\∃ p,ps[i]? = some p/\x=.ref p.2.1,fun i H=>H d=some (.frz ob (aY d ps))/\ps.length<=i⟩
theorem mO {X:Cx}{a3J:List (Addr×Obj)}{σ:St}{H:Hp}{s:Th}{d:Addr}{ob:Obj}{ps:b6}(I:Inv X a3J σ H s)(e:H d=some (.frz ob (aY d ps))) :
  (d == UR)=false/\ps.length<=TC/\∃ a b,RawD s.heap d a b/\ob.data=.dict a b/\a.toList.map (·.key)=ps.map fun p=>Tx p.2.1:=by
 obtain ⟨c,⟨q,r,m,l,o,a,b,g,i,h,j,n⟩,_⟩:=(show ObjOk X.prog X.w H s.heap d (.frz ob (aY d ps)) from I.hok d _ e)
 rw [c] at g
 cases g
 refine ⟨m,l,a,b,⟨ob,c,i,h⟩,h,?_⟩
 rw [j,sL (P:=X.prog) (w:=X.w),TF,<- wX r]
 rfl
theorem CM:∀ (ps:b6)(ws:List Te),ps.length=ws.length->(Xo pE ps ws).map (·.val)=ws
 | [],[],_=>rfl
 | [],_::_,h=>by cases h
 | _::_,[],h=>by cases h
 | p::ps,u::ws,h=>by
  rw [Up,Tq,CM ps ws (by simpa using h)]
  rfl
theorem NH {X:Cx}{a3J:List (Addr×Obj)}{σ:St}{H:Hp}{s:Th}{d:Addr}{ob:Obj}{ps:b6}(I:Inv X a3J σ H s)(e:H d=some (.frz ob (aY d ps))) :
  (d == UR)=false/\ps.length<=TC/\∃ a b,RawD s.heap d a b/\ob.data=.dict a b/\Vals (ps.map (·.2.2)) (a.toList.map (·.val)):=by
 obtain ⟨g,⟨c,r,p,n,o,a,b,h,l,i,m,q⟩,_⟩:=(show ObjOk X.prog X.w H s.heap d (.frz ob (aY d ps)) from I.hok d _ e)
 rw [g] at h
 cases h
 refine ⟨p,n,a,b,⟨ob,g,l,i⟩,i,?_⟩
 have j:(Xo pE ps c).map (·.val)=c:=CM ps c (by
  have:=r.length
  rw [Tc] at this
  exact this)
 rw [m,j]
 exact r
theorem NI {P:T3}{w:Uk}{K:Ta}{tg:Expr}{d n:Addr}{ob:Obj}{ps:b6}{u:Array UH}{T:Nat}(hd:ob.data=.dict u T):Turn Qc P w K tg (w5 d ob ps) [n] n (fun i h=>h.IsKeyIter n d i u.size T) where
 mem:=by simp
 obj:=fun i h st b j=>by
  have e:b=n:=by simpa using j
  subst e
  obtain ⟨o,e,c,d⟩:=st
  exact ⟨o,e,fun v z=>by rw [d] at z;cases z⟩
 keep:=fun i h q st k=>st.at fun o e=>k n (by simp) o e
 item:=by
  intro X Q hw O hc i p s Z H E I y st R
  subst Q hw O
  obtain ⟨m,r⟩:=R
  obtain ⟨lo,hl,B,A,g,a,x⟩:=mO I m
  rw [hd] at a
  cases a
  have hs:u.size=ps.length:=by
   have:=congrArg Uo x
   simpa using this
  obtain ⟨G,J,f2,L,M,N⟩:=y n (by simp)
  refine sN (I.ok.hd hc) st g (fun e q l Y sb=>?_) fun hn=>by simp at hn;omega
  have I1:Inv X p Z H { s with heap:=q }:=I.turned (t':=s.toks) (fun b o j e=>(sb.2 b j).trans e) G J L M N
  obtain ⟨o,e1,c,d1⟩:=id Y
  have U:ps[i]? = some ps[i]:=TV r
  have ek:e.key=.ref (ps[i]).2.1:=by
   have:=congrArg (·[i]?) x
   simp only [TH,UO,l,U,Ub] at this
   exact TL this
  exact ⟨e.key,rfl,o3 (s:={ s with heap:=q }) e1 c d1 (by decide) ⟨.ref (ps[i]).2.1,H,I1,ek,⟨rfl,ps[i],U,rfl⟩,Y,fun b j=>(y b j).1⟩⟩
 done:=by
  intro X Q hw O hc i p s Z H E I y st R
  subst Q hw O
  obtain ⟨m,r⟩:=R
  obtain ⟨lo,hl,B,A,g,a,x⟩:=mO I m
  rw [hd] at a
  cases a
  have hs:u.size=ps.length:=by
   have:=congrArg Uo x
   simpa using this
  obtain ⟨G,J,f2,L,M,N⟩:=y n (by simp)
  exact sN (I.ok.hd hc) st g (fun e q l=>by
   have:=(Zh.mp l).1
   omega) fun _ q eb=>⟨rfl,I.turned (t':=s.toks) (fun b o j e=>eb b o j e) G J L M N⟩
 self:=fun _ _ _ _ _ st h=>a1E st h
theorem NJ {X:Cx}{l tg:Expr}{n:TE}(m:PE X l n):PI X tg l (fun σ H R=>n σ H fun v a=>∃ d ob ps,v=.ref d/\a d=some (.frz ob (aY d ps))/\R (w5 d ob ps) a):=by
 intro j s σ H R I h
 refine aW (m j s σ H _ I h) fun v i ⟨y,a,c,x,w⟩=>?_
 obtain ⟨d,ob,ps,e,r,q⟩:=w
 subst e
 obtain rfl:v=Tx d:=x
 obtain ⟨u,m,A,z,g,hd,B⟩:=mO c r
 refine CB u g ⟨i.heap.objs.size,[i.heap.objs.size],_,_,a,rfl,c.kept (t':=i.toks) fun b o e=>Ti _ e,NI hd,⟨_,TJ _ rfl,rfl,rfl⟩,fun b p=>?_,q⟩
 have e:b=i.heap.objs.size:=by simpa using p
 subst e
 exact c.fpOk (Tt _) (c.hok.fresh (Tt _))
noncomputable def iO (a:List (List Int×D)):List D:=a.map fun k=>D.tup (k.1.map D.int)
theorem NK {K:Ta}{π:Nat->Addr}{n:Nat}{H:Hp}{d:Addr}{ob:Obj}{ps:b6}{a:List (List Int×D)}(g:H d=some (.frz ob (aY d ps)))(T:IsTs K π n H ps a):Wk K (w5 d ob ps) (dO (.tup (iO a))) π n H:=by
 have w:ps.length=a.length:=by
  have:=congrArg Uo T.to.1
  simpa using this
 refine ⟨fun c s j i e R z=>?_,fun c s j i l e R z=>?_⟩
 ·have b:(iO a)[i]? = none:=TL z
  have:=Ux.mp b
  rw [iO,Tc] at this
  exact ⟨e.frz _ _ _ g,by omega⟩
 ·have b:(iO a)[i]? = some l:=TL z
  have x:i<a.length:=by
   have:=(Tf.mp b).1
   rwa [iO,Tc] at this
  refine ⟨⟨e.frz _ _ _ g,by omega⟩,fun v u ⟨m,p,o,q⟩=>?_⟩
  subst m q
  obtain ⟨y,h,r⟩:=(T.to.2.1.mono e).get b
  rw [TH,o] at h
  cases h
  exact ⟨.refl,R,r⟩
noncomputable def e8 (m:ME):MI:=fun c b=>(m c b).bind fun p=>match p.1 with
 | .loc a=>match p.2[a]? with
  | some (.dF kvs)=>some (dO (.tup (iO kvs)),kvs.length+1,p.2)
  | _=>none
 | _=>none
theorem w6 {X:Cx}{e:Expr}{m:ME}(h:QE X e m):QJ X e (e8 m):=⟨fun tg a3J s σ H R I hw=>by
 obtain ⟨z,A,v,u,n,w,i,E,a,k⟩:=hw
 obtain ⟨⟨x,y⟩,l,a⟩:=S9.mp a
 dsimp only at a
 split at a
 ·split at a
  ·rename_i p hc
   cases a
   refine NJ h.h a3J s σ H R I ⟨z,A,v,_,_,i,E,l,fun b B g j c o=>?_⟩
   cases o
   obtain ⟨q,r,d,T⟩:=pQ c hc
   exact ⟨_,q,r,rfl,d,k b g _ j c (NK d T)⟩
  ·cases a
 ·cases a⟩
end L3
namespace L3
open PySem L2 PySem.W PyProof.Rows
section
variable {P:T3}{w:Uk}{A:Ug}{E:Te->Th->Prop}{s:Th}
noncomputable def CN (h:UW)(b:Addr)(k:List Int):Prop:=∃ xs:List Te,IsTup h b xs.toArray/\Yn xs k
theorem CO {bs:List Addr}{ks:List (List Int)}(J:0<bs.length)(r:ks.length=bs.length)(key:∀ (j:Nat)(b:Addr),bs[j]? = some b->CN s.heap b (ks.getD j [])/\ks.getD j []≠[]):pT P w A (bs.map Tx) (fun i j=>HT.lexLt (ks.getD i []) (ks.getD j [])) s:=by
 have l:∃ fs:List Te,fs.length=bs.length/\KatTups s.heap (bs.map Tx) fs/\∀ v∈fs,∃ i t,v=UB i t:=by
  clear J
  induction bs generalizing ks with
  | nil=>exact ⟨[],rfl,.nil,fun v a=>nomatch a⟩
  | cons b bs O=>
   match ks,r with
   | k::ks,r=>
    obtain ⟨fs,u,m,p⟩:=O (ks:=ks) (by simpa using r) fun j c hc=>by simpa using key (j+1) c (by simpa using hc)
    obtain ⟨⟨xs,⟨o,e,c,n,d⟩,g⟩,h⟩:=key 0 b rfl
    simp only [List.getD_cons_zero] at g h
    cases g with
    | nil=>exact absurd rfl h
    | @cons i x R Q L=>
     refine ⟨UB i x::fs,by simp [u],.cons e c d (by simp) m,fun v a=>?_⟩
     rcases T1.mp a with rfl|a
     ·exact ⟨i,x,rfl⟩
     ·exact p v a
 obtain ⟨fs,u,m,p⟩:=l
 unfold pT
 refine kat_kind (T:=.type "int") m ?_ (fun v a=>?_) rfl ⟨rfl,fun i j C g q K=>?_⟩
 ·omega
 ·obtain ⟨i,t,rfl⟩:=p v a
  exact .now
 ·rw [Tc] at g q
  obtain ⟨⟨xa,⟨Z,B,T,X,y⟩,M⟩,_⟩:=key i bs[i] (TV g)
  obtain ⟨⟨xb,⟨ob,G,U,Y,z⟩,N⟩,_⟩:=key j bs[j] (TV q)
  have H:(bs.map Tx).getD i .none=.ref bs[i]:=by simp [V1,g]
  have I:(bs.map Tx).getD j .none=.ref bs[j]:=by simp [V1,q]
  rw [H,I]
  exact kat_lt B y G z (BY 0 M N K)
theorem NL {d:Addr}{a:Array UH}{K:Nat}{Q:Te->Th->Prop}{bs:List Addr}{ks:List (List Int)}(N:A.handled=none)(lo:(d == UR)=false)(g:RawD s.heap d a K)(z:a.toList.map (·.key)=bs.map Tx)(L:a.size<64)(R:ks.length=bs.length)
  (key:∀ (j:Nat)(b:Addr),bs[j]? = some b->CN s.heap b (ks.getD j [])/\ks.getD j []≠[])
  (q:∀ (h' u:UW)(tk:Nat)(e:Nat),(∀ b o,s.heap.get? b=some o->h'.get? b=some o)->(∀ b o,h'.get? b=some o->u.get? b=some o)->u.get? h'.objs.size=some (UZ "list" ((eH (fun i j=>HT.lexLt (ks.getD i []) (ks.getD j [])) a.size).map fun i=>Tx (bs.getD i 0)).toArray e)->Q (.ref h'.objs.size) { s with heap:=u,toks:=tk }) :
  TX (T7 P w) A (call (.builtin "sorted") [.ref d]) Q E s:=by
 have n:bs.length=a.size:=by
  have:=congrArg Uo z
  simpa using this.symm
 refine Zn kind_sorted plain_sorted entry_sorted (args_sorted1 _) ?_
 unfold a0g
 refine Td (m:=checkCount "sorted" 1 1 _) (Tr (Td (kdu_collect (A:=A.in1) (wW lo) N g (by rw [T5];omega) fun h' tk h H c=>?_)))
 have J:h.toList=bs.map Tx:=by
  rw [<- z]
  refine XD fun i=>?_
  rw [TH,UO,UO]
  cases G:h[i]? with
  | some v=>
   obtain ⟨e,Y,Z⟩:=c.2 i v G
   rw [Y,Z];rfl
  | none=>
   have:h.size<=i:=by simpa using G
   rw [XU (by rw [<- c.1];exact this)];rfl
 rw [J]
 have I:(bs.map Tx).length=a.size:=by rw [Tc,n]
 refine Td (X1 ?_ (by rw [I,T5];omega))
 have m:(h'.push (UZ "list" (bs.map Tx).toArray 0)).get? h'.objs.size=some (UZ "list" (bs.map Tx).toArray 0):=TJ _ rfl
 have aS:∀ l:List Te,l=((eH (fun i j=>HT.lexLt (ks.getD i []) (ks.getD j [])) a.size).map fun i=>Tx (bs.getD i 0))->Q (.ref h'.objs.size) { s with heap:=Z1 (h'.push (UZ "list" (bs.map Tx).toArray 0)) h'.objs.size (bs.map Tx) l.toArray,toks:=tk }:=by
  rintro l rfl
  obtain ⟨e,M⟩:=sortedHeap_at (h:=h'.push (UZ "list" (bs.map Tx).toArray 0)) (out:=((eH (fun i j=>HT.lexLt (ks.getD i []) (ks.getD j [])) a.size).map fun i=>Tx (bs.getD i 0)).toArray) m
  refine q h' _ tk e H (fun b o x=>?_) M
  rw [a3t (TY (TB x)) (by rw [WU];exact XF (TB x))]
  exact Ti _ x
 by_cases B:2<=a.size
 ·refine Td (U6 (VE Z2 (s:={ s with heap:=h'.push (UZ "list" (bs.map Tx).toArray 0),toks:=tk }) ⟨_,m,rfl⟩ ZJ (NB (an:=fun i j=>HT.lexLt (ks.getD i []) (ks.getD j [])) (by omega) (by omega) m (fun u T=>?_) ⟨_,rfl,?_⟩) (Z6 _)))
  ·refine CO (by omega) R fun j b O=>?_
   obtain ⟨⟨X,⟨o,o1,U⟩,p⟩,y⟩:=key j b O
   have r:=H _ _ o1
   exact ⟨⟨X,⟨o,T b o (TY (TB r)) (Ti _ r),U⟩,p⟩,y⟩
  ·refine Tr ⟨_,rfl,aS _ ?_⟩
   rw [I]
   refine Ul fun i p=>?_
   have p:i<bs.length:=by
    have:=Vk.mp ((wJ _ (n:=a.size) (by omega)).mem_iff.mp p)
    omega
   simp [V1,p]
 ·refine Td (U6 (VE Z2 (s:={ s with heap:=h'.push (UZ "list" (bs.map Tx).toArray 0),toks:=tk }) ⟨_,m,rfl⟩ ZJ (LP (by omega) m ⟨_,rfl,?_⟩) (Z6 _)))
  refine Tr ⟨_,rfl,aS (bs.map Tx) ?_⟩
  match bs,n with
  | [],e=>rw [<- e];show []=(eH _ 0).map _;rw [BZ];rfl
  | [b],e=>rw [<- e];show [Tx b]=(eH _ 1).map _;rw [LQ];rfl
  | _::_::_,e=>rw [<- e] at B;simp at B
theorem NM {d:Addr}{j:Array UH}{z:Nat}{Q:Te->Th->Prop}{bs:List Addr}{n:Nat}{an:Te->Te->Bool}(J:A.handled=none)(lo:(d == UR)=false)(g:RawD s.heap d j z)(r:j.toList.map (·.key)=bs.map Tx)(R:j.size=n+1)(B:63<=n)(G:n<127)(N:Near (bs.map Tx) n n an)
  (H:∀ (a:UW)(tk:Nat),(∀ b o,s.heap.get? b=some o->a.get? b=some o)->wL P w A.in1.in1 (bs.map Tx) an { s with heap:=a,toks:=tk })
  (q:∀ (h' a:UW)(tk:Nat)(e:Nat),(∀ b o,s.heap.get? b=some o->h'.get? b=some o)->(∀ b o,h'.get? b=some o->a.get? b=some o)->a.get? h'.objs.size=some (UZ "list" (bs.map Tx).toArray e)->Q (.ref h'.objs.size) { s with heap:=a,toks:=tk }) :
  TX (T7 P w) A (call (.builtin "sorted") [.ref d]) Q E s:=by
 have m:bs.length=j.size:=by
  have:=congrArg Uo r
  simpa using this.symm
 refine Zn kind_sorted plain_sorted entry_sorted (args_sorted1 _) ?_
 unfold a0g
 refine Td (m:=checkCount "sorted" 1 1 _) (Tr (Td (kdu_collect (A:=A.in1) (wW lo) J g (by rw [T5];omega) fun h' tk h p c=>?_)))
 have y:h.toList=bs.map Tx:=by
  rw [<- r]
  refine XD fun i=>?_
  rw [TH,UO,UO]
  cases u:h[i]? with
  | some v=>
   obtain ⟨e,M,O⟩:=c.2 i v u
   rw [M,O];rfl
  | none=>
   have:h.size<=i:=by simpa using u
   rw [XU (by rw [<- c.1];exact this)];rfl
 rw [y]
 have L:(bs.map Tx).length=j.size:=by rw [Tc,m]
 refine Td (X1 ?_ (by rw [L,T5];omega))
 have l:(h'.push (UZ "list" (bs.map Tx).toArray 0)).get? h'.objs.size=some (UZ "list" (bs.map Tx).toArray 0):=TJ _ rfl
 have same:jD (bs.map Tx) n n=bs.map Tx:=by
  unfold jD
  rw [Vx,X0 (l:=(bs.map Tx).take n) (by rw [Uv];omega),UM]
 refine Td (U6 (VE Z2 (s:={ s with heap:=h'.push (UZ "list" (bs.map Tx).toArray 0),toks:=tk }) ⟨_,l,rfl⟩ ZJ (L7 N B G l
  rfl
  (fun a K=>?_) ⟨_,rfl,?_⟩) (Z6 _)))
 ·exact H a tk fun b o x=>K b o (TY (TB (p b o x))) (Ti _ (p b o x))
 ·rw [same]
  refine Tr ⟨_,rfl,?_⟩
  obtain ⟨e,I⟩:=sortedHeap_at (h:=h'.push (UZ "list" (bs.map Tx).toArray 0)) (out:=(bs.map Tx).toArray) l
  refine q h' _ tk e p (fun b o x=>?_) I
  rw [a3t (TY (TB x)) (by rw [WU];exact XF (TB x))]
  exact Ti _ x
end
end L3
namespace L3
open PySem L2
noncomputable def w8 (K:Ta):List V->Hp->VK->Prop:=fun xs H Q=>∃ a ps,xs=[V.ref a]/\H a=some (aY a ps)/\eD K H ps/\ps.length<64/\(∀ p∈ps,p.1≠[])/\∀ l,H l=none->Q (.ref l) (aO H l (.lst ((j8 ps).map fun p=>V.ref p.2.1)))
section
variable {X:Cx}
theorem NN (hc:X.calm=true):CallR X (.builtin "sorted") (w8 X.K):=by
 intro o s σ H xs us Q I r h
 obtain ⟨a,c,rfl,T,G,R,y,q⟩:=h
 obtain ⟨u,rfl,ru⟩:=fC r
 cases ru
 obtain ⟨lo,n,L,ep,g,E⟩:=n4 I T G
 have U:L.size=c.length:=by
  have:=congrArg Uo E
  simpa using this
 have N:∀ {j:Nat}{b:Addr},(c.map (·.2.1))[j]? = some b->∃ p∈c,c[j]? = some p/\p.2.1=b:=fun {j b} d=>by
  rw [TH] at d
  obtain ⟨p,m,M⟩:=Tg.mp d
  exact ⟨p,Ue m,m,M⟩
 refine NL (bs:=c.map (·.2.1)) (ks:=c.map (·.1)) (I.ok.hd hc) lo g (by rw [E,TF];rfl) (by omega) (by simp) (fun j b d=>?_) fun v O A e Z k2 k3=>?_
 ·obtain ⟨p,J,m,rfl⟩:=N d
  have K:(c.map (·.1)).getD j []=p.1:=by simp [V1,m]
  rw [K]
  obtain ⟨z,rx,t,_⟩:=I.tuple (G p J)
  exact ⟨⟨z,t,Az rx⟩,y p J⟩
 ·have B:Inv X o σ H { s with heap:=v,toks:=A }:=I.kept (t':=A) Z
  refine ⟨.ref v.objs.size,_,B.laid (t':=A) (h':=O) (a:=v.objs.size) (o:=.lst ((j8 c).map fun p=>V.ref p.2.1)) k2 (Tt _) ?_,rfl,q _ (B.hok.fresh (Tt _))⟩
  have x:(j8 c).length=c.length:=sortT_perm.length_eq
  refine ⟨by rw [Tc,x];exact n,_,e,?_,k3⟩
  unfold j8
  rw [U,TF]
  have:∀ l:List Nat,(∀ i∈l,i<c.length)->Vals (l.map ((fun p:List Int×Addr×V=>V.ref p.2.1) ∘ fun i=>c.getD i ([],0,.non))) (l.map fun i=>Tx ((c.map (·.2.1)).getD i 0)):=fun l n=>by
   induction l with
   | nil=>exact .nil
   | cons i l Y=>
    refine .cons ?_ (Y fun j d=>n j (Ua _ d))
    have w:=n i (Um ..)
    show Tx _=Tx _
    simp [V1,w]
  exact this _ fun i w=>Vk.mp ((pL _ c.length).mem_iff.mp w)
end
noncomputable def sP (a:List (List Int))(n:Nat):Bool:=((Ui (n - 1)).all fun i=>!(HT.lexLt (a.getD (i+1) []) (a.getD i [])))&&HT.lexLt (a.getD 0 []) (a.getD (n - 1) [])&&((Ui n).all fun i=>!(HT.lexLt (a.getD n []) (a.getD i [])))
noncomputable def w9 (K:Ta):List V->Hp->VK->Prop:=fun xs H Q=>∃ a ps n,xs=[V.ref a]/\H a=some (aY a ps)/\eD K H ps/\ps.length=n+1/\63<=n/\n<127/\(∀ p∈ps,p.1≠[])/\sP (ps.map (·.1)) n=true/\∀ l,H l=none->Q (.ref l) (aO H l (.lst (ps.map fun p=>V.ref p.2.1)))
section
variable {X:Cx}
theorem NO (hc:X.calm=true):CallR X (.builtin "sorted") (w9 X.K):=by
 intro L s σ H xs us Q I r h
 obtain ⟨a,c,n,rfl,ha,K,hn,h1,h2,U,T,q⟩:=h
 obtain ⟨u,rfl,ru⟩:=fC r
 cases ru
 obtain ⟨lo,hl,es,ep,g,he⟩:=n4 I ha K
 have hs:es.size=c.length:=by
  have:=congrArg Uo he
  simpa using this
 unfold sP at T
 simp only [To,Vd,Vk,XE] at T
 obtain ⟨⟨b1,b2⟩,b3⟩:=T
 have B:∀ {i:Nat}{x:Te},((c.map (·.2.1)).map Tx)[i]? = some x->∃ p∈c,x=.ref p.2.1/\(c.map (·.1)).getD i []=p.1:=fun {i x} h=>by
  rw [TF,TH] at h
  obtain ⟨p,m,g2⟩:=Tg.mp h
  exact ⟨p,Ue m,g2.symm,by simp [V1,m]⟩
 have J:∀ {i j:Nat}{x y:Te},((c.map (·.2.1)).map Tx)[i]? = some x->((c.map (·.2.1)).map Tx)[j]? = some y->HT.lexLt (tv X.K H x) (tv X.K H y)=HT.lexLt ((c.map (·.1)).getD i []) ((c.map (·.1)).getD j []):=fun {i j x y} d Z=>by
  obtain ⟨p,hp,rfl,e1⟩:=B d
  obtain ⟨p',Y,rfl,e2⟩:=B Z
  rw [B7 I (K p hp),B7 I (K p' Y),e1,e2]
 have N:Near ((c.map (·.2.1)).map Tx) n n (fun x y=>HT.lexLt (tv X.K H x) (tv X.K H y)):=
  ⟨by rw [Tc,Tc];exact hn,Tt _,fun i x z v d E=>(J d E).trans (b1 i (by omega)),fun x z d E=>(J d E).trans b2,fun i x z v d E=>(J E d).trans ((b3 i v).trans (decide_eq_false (by omega)).symm)⟩
 refine NM (bs:=c.map (·.2.1)) (I.ok.hd hc) lo g (by rw [he,TF];rfl) (by omega) h1 h2 N (fun O G kp=>?_) fun M O G e k1 k2 k3=>?_
 ·have A:pT X.prog X.w X.A.in1.in1 ((c.map (·.2.1)).map Tx) (fun i j=>HT.lexLt ((c.map (·.1)).getD i []) ((c.map (·.1)).getD j [])) { s with heap:=O,toks:=G }:=by
   refine CO (by rw [Tc];omega) (by simp) fun j b w=>?_
   rw [TH] at w
   obtain ⟨p,m,rfl⟩:=Tg.mp w
   have e0:(c.map (·.1)).getD j []=p.1:=by simp [V1,m]
   rw [e0]
   obtain ⟨its,rx,⟨o,o1,o2⟩,_⟩:=I.tuple (K p (Ue m))
   exact ⟨⟨its,⟨o,kp _ _ o1,o2⟩,Az rx⟩,U p (Ue m)⟩
  unfold pT at A
  unfold wL
  refine Uy A (fun κ s' hq=>⟨hq.1,fun x y C d Z R=>?_⟩) fun _ _ z=>z
  obtain ⟨i,v⟩:=a0r d
  obtain ⟨j,w⟩:=a0r Z
  dsimp only at R
  rw [J v w] at R
  have:=hq.2 i j C (Tf.mp v).1 (Tf.mp w).1 R
  rw [Wr,Wr,v,w] at this
  exact this
 ·have I1:Inv X L σ H { s with heap:=M,toks:=G }:=I.kept (t':=G) k1
  refine ⟨.ref M.objs.size,_,I1.laid (t':=G) (h':=O) (a:=M.objs.size) (o:=.lst (c.map fun p=>V.ref p.2.1)) k2 (Tt _) ?_,rfl,q _ (I1.hok.fresh (Tt _))⟩
  refine ⟨by rw [Tc];exact hl,_,e,?_,k3⟩
  rw [TF]
  have:∀ l:List (List Int×Addr×V),Vals (l.map fun p=>V.ref p.2.1) (l.map (Tx ∘ fun p=>p.2.1)):=fun l=>by
   induction l with
   | nil=>exact .nil
   | cons p l ih=>exact .cons rfl ih
  exact this _
end
noncomputable def n9 (b:Hm):D->Bool
 | .loc a=>match b[a]? with|some (.dT _)=>true|_=>false
 | _=>false
noncomputable def f7 (f:D->List D->Hm->Option (D×Hm))(b:ME)(ms:MA):ME:=fun a c=>(b a c).bind fun p=>match n9 p.2 p.1 with
 | true=>(ms a p.2).bind fun q=>f p.1 q.1 q.2
 | false=>none
noncomputable def xA (K:Ta)(x:V)(H:Hp):Prop:=∃ a ps,x=.ref a/\H a=some (aY a ps)/\eD K H ps
theorem NP {K:Ta}{π:Nat->Addr}{H:Hp}{b:Hm}{v:V}{x:D}(R:Rp K π H b)(h:IsD K π b.length H v x)(e:n9 b x=true):xA K v H:=by
 cases h with
 | @loc a i=>
  simp only [n9] at e
  split at e
  ·rename_i j d
   obtain ⟨g,c,T⟩:=fZ R d
   exact ⟨_,g,rfl,c,T.keys⟩
  ·cases e
 | _=>cases e
section
variable {X:Cx}{e o:Expr}{mo:ME}{to:TE}{t:TA}{apos cpos:Vl}{es:List Expr}{ms:MA}{n:Nat}{r:V->List V->Hp->VK->Prop}{f:D->List D->Hm->Option (D×Hm)}{name:Str}{id:String}
theorem NQ (slot:Slot "dict" name id) (w:a1W (.builtin id)=pure (.type "method_descriptor")) (N:kT X id r)(O:PE X o to)(L:PA X (e::es) t)(i:Wq o name X.env (eval o X.env)=eval o X.env)
  (m:((Vv cpos (T8 (e::es) X.env)).all (fun x=>!x.1)&&(Xp cpos (Wg [] X.env)).all (fun x=>x.1.isSome)&&decide ((e::es).length+([]:List Wx).length+(if ([]:List Wx).isEmpty then 0 else 1)<30))=true)
  (j:(apos.endLine == cpos.line)=true)(R:T8 (e::es) X.env=(false,eval e X.env)::T8 es X.env)(c:(Vv cpos (T8 es X.env)).any (·.1)=false) :
  PE X (.Call (.Attribute o name apos) (e::es) [] cpos) (fun l H Q=>to l H fun x p=>xA X.K x p/\t l p fun q u=>r x q u Q):=by
 intro d s l H Q I h
 refine a0R i m j rfl (aW (O d s l H _ I h) fun v s1 ⟨x,p,y,Y,ty,T⟩=>?_)
 obtain ⟨a,ps,rfl,G,M⟩:=ty
 obtain rfl:v=Tx a:=Y
 obtain ⟨lo,hl,q,ep,g,_⟩:=n4 y G M
 refine ⟨"dict",id,Zk,slot,w,g.ty,fun b E=>?_,?_⟩
 ·cases E
  obtain ⟨z,J,K,_⟩:=g
  exact ⟨z,J,K.2.1⟩
 have A:=L cpos d s1 l p _ y T
 rw [R] at A ⊢
 refine XT (by show (false||(Vv cpos (T8 es X.env)).any (·.1))=false;rw [c]<;>rfl) (a0f ?_)
 exact aW A fun us s2 ⟨q,u,B,Z,U⟩=>N d s2 l u (.ref a) q _ us Q B rfl Z U
theorem NR {K:Ta}(z:jB K f r):∀ σ H Q,tM K (f7 f mo ms) σ H Q->tM K mo σ H fun x g=>xA K x g/\dY K ms σ g fun vs h=>r x vs h Q:=by
 rintro σ H Q ⟨J,v,I,d,i,R,E,a,k⟩
 obtain ⟨⟨x,b⟩,w,a⟩:=S9.mp a
 dsimp only at a
 split at a
 ·rename_i A
  obtain ⟨⟨u,c⟩,y,a⟩:=S9.mp a
  refine ⟨J,v,I,x,b,R,E,w,fun j G g p m s=>⟨NP m s A,j,v,b,u,c,m,E.mono p,y,fun l vs h q R2 B=>?_⟩⟩
  exact z l h c x u d i G vs Q R2 (s.mono q) B a (k.after (p.trans q))
 ·cases a
theorem NS (slot:Slot "dict" name id) (c:a1W (.builtin id)=pure (.type "method_descriptor")) (i:kT X id r)(g:jB X.K f r)
  (l:QE X o mo)(d:QA X (e::es) ms n)(m:fW o=true)(h:(apos.endLine == cpos.line)=true)(j:(e::es).length<30):QE X (.Call (.Attribute o name apos) (e::es) [] cpos) (f7 f mo ms):=by
 have b:=d.s
 have a:=b
 rw [Ur,To] at a
 exact ⟨cG (NQ slot c i l.h d.h (jY m) (wG b j) h (eF a.1) (gW a.2)) (NR g)⟩
end
noncomputable def fJ:D->List D->Hm->Option (D×Hm)
 | .loc a,[y,z],μ=>match μ[a]? with
  | some (.dT kvs)=>(eA y).map fun k=>((b9 kvs k).getD z,μ)
  | _=>none
 | _,_,_=>none
noncomputable def CP (K:Ta):V->List V->Hp->VK->Prop:=fun x vs H Q=>∃ a b ps k z,x=.ref a/\vs=[.ref b,z]/\H a=some (aY a ps)/\eD K H ps/\SqT K H b (k.map V.int)/\Q ((dU ps k).getD z) H
theorem NT {K:Ta}:jB K fJ (CP K):=by
 intro u H A x z d s v y Q R m c a k
 unfold fJ at a
 split at a
 ·split at a
  ·rename_i p hc
   obtain ⟨h,j,a⟩:=Tg.mp a
   cases a
   cases m
   cases c with
   | cons n t=>
    cases t with
    | cons o t=>
     cases t
     obtain ⟨q,i,T⟩:=fZ R hc
     obtain ⟨b,rfl,l⟩:=nZ n j
     refine ⟨_,b,q,h,_,rfl,rfl,i,T.keys,l,k u _ H .refl R ?_⟩
     rcases T.val h with ⟨e,g⟩|⟨v,w,e,g,r⟩
     ·rw [e,g];exact o
     ·rw [e,g];exact r
  ·cases a
 ·cases a
theorem NU {X:Cx}(w:X.A.units+1<VS):kT X "dict.get" (CP X.K):=by
 intro m s N H x L v K Q I E B h
 obtain ⟨a,b,g,k,z,rfl,rfl,e,o,n,q⟩:=h
 cases E
 obtain ⟨u,G,rfl,A,i⟩:=B.two
 obtain rfl:u=Tx b:=A
 obtain ⟨p,J,l,r,d⟩:=j7 I (.of e) o
 refine a0Y ZC d.typeIs PySem.F.entry_dict_get (PySem.F.args_dict_get_3 _ _ _) (meetsH_dict_get_default (VW (Wi X.prog X.w)) a b p G) ⟨mN w,k,_,nV I n,d,?_⟩
 refine ⟨(dU g k).getD z,H,I.tok _,?_,q⟩
 have:=mM r k
 cases j:dU g k with
 | none=>
  rw [j] at this
  cases c:(Xq (bQ g l) k).map (·.2) with
  | none=>exact i
  | some y=>rw [c] at this;exact this.elim
 | some M=>
  rw [j] at this
  cases c:(Xq (bQ g l) k).map (·.2) with
  | none=>rw [c] at this;exact this.elim
  | some y=>rw [c] at this;exact this
end L3
namespace L3
open PySem L2
section
variable {P:T3}{w:Uk}{K:Type} [DecidableEq K] {knd:HeapKind P w K}{A:Ug}{E:Te->Th->Prop}{s:Th}{d a:Addr}{k:K}{xs:List (K×Addr×Te)}
end
end L3
namespace L3
open PySem L2
section
variable {P:T3}{w:Uk}{A:Ug}{E:Te->Th->Prop}{s:Th}
theorem NV {I:String}{d:Addr}{c:Array UH}{u:Nat}{bs:List Addr}{Q:Array UH->Th->Prop}(g:RawD s.heap d c u)(p:c.toList.map (·.key)=bs.map Tx)(J:∀ b∈bs,s.TypeIs (.ref b) "tuple")
  (nd:(c.toList.map (·.hash)).Nodup)(q:Q c s):TX (T7 P w) A (Yq I d) Q E s:=by
 obtain ⟨z,v,K,y⟩:=id g
 unfold Yq
 refine Td (UX v y (Td ?_))
 rw [<- Array.forIn_toList]
 refine a2u _ (fun bU _ h=>h=s/\∀ e∈bU,e∈c.toList) _ (fun e bU b h ⟨i,l⟩=>?_) (fun b h ⟨i,_⟩=>?_) _ _ ⟨rfl,fun e j=>j⟩
 ·subst i
  have j:=l e (Um ..)
  have G:e.key∈bs.map Tx:=by rw [<- p];exact Ts.mpr ⟨e,j,rfl⟩
  obtain ⟨a,B,r⟩:=Ts.mp G
  have quiet:∀ {Q:Bool->Th->Prop},Q false h->TX (T7 P w) A (Y8 e.key) Q E h:=fun {Q} q=>by
   rw [<- r]
   unfold Y8
   exact Td (WO (J a B) PySem.F.slot_tuple_eq.lookup (Tr q))
  refine Td (quiet ?_)
  have one:((c.filter (·.hash == e.hash)).size>1)=False:=by
   refine eq_false fun z=>?_
   have L:1<(c.toList.filter fun x=>x.hash == e.hash).length:=by
    have n:(c.filter (·.hash == e.hash)).toList=c.toList.filter fun x=>x.hash == e.hash:=Array.toList_filter ..
    have o:=congrArg Uo n
    simp only [WA] at o
    omega
   have m:(c.toList.filter fun x=>x.hash == e.hash).length=(c.toList.map (·.hash)).count e.hash:=by
    rw [List.count,List.countP_map,<- List.countP_eq_length_filter];rfl
   have:=List.nodup_iff_count.mp nd e.hash
   omega
  simp only [VD,if_true,one,if_false]
  exact Tr ⟨rfl,fun x H=>l x (Ua _ H)⟩
 ·subst i;exact Tr q
end
theorem CQ:∀ (ps:b6)(ws:List Te),ps.length=ws.length->(Xo pE ps ws).map (·.hash)=ps.map fun p=>Tb.hashT p.1
 | [],_,_=>by simp
 | p::ps,[],h=>by cases h
 | p::ps,u::ws,h=>by
  rw [Up,Tq,Tq,CQ ps ws (by simpa using h)]
  rfl
theorem NW {c:Array UH}{bs:List Addr}(d:bs≠[])(a:c.toList.map (·.key)=bs.map Tx):(c.all fun e=>(keyPart e.key).isSome)=false:=by
 rw [<- Array.all_toList]
 generalize c.toList=l at a
 cases bs with
 | nil=>exact absurd rfl d
 | cons b bs=>
  cases l with
  | nil=>cases a
  | cons e l=>
   rw [Tq,Tq,XI] at a
   rw [Ur,a.1]
   rfl
theorem NX {b:Array UH}{bs:List Addr}(a:bs≠[])(d:b.toList.map (·.key)=bs.map Tx):b.isEmpty=false:=by
 have c:=congrArg Uo d
 simp only [Tc,WA] at c
 have:bs.length≠0:=fun z=>a (ZN.mp z)
 rw [Array.isEmpty]
 exact decide_eq_false (by omega)
noncomputable def CS (K:Ta):List V->Hp->VK->Prop:=fun xs H Q=>∃ a ps,xs=[V.ref a]/\H a=some (aY a ps)/\eD K H ps/\(ps.map fun p=>Tb.hashT p.1).Nodup/\∀ l,H l=none->Q (.ref l) (aO H l (aY l ps))
section
variable {X:Cx}
theorem CT:CallR X (.type "dict") (CS X.K):=by
 intro a3J s σ H xs us Q I r h
 obtain ⟨a,d,rfl,ha,hk,nd,q⟩:=h
 obtain ⟨u,rfl,ru⟩:=fC r
 cases ru
 have hn:H s.heap.objs.size=none:=I.hok.fresh (Tt _)
 obtain ⟨⟨n,U,lo,x,o,c,y,i,w,E,L,h5⟩,_⟩:=(show ObjOk X.prog X.w H s.heap a (aY a d) from I.hok a _ ha)
 obtain ⟨_,_,es',ep',g,G⟩:=n4 I ha hk
 obtain ⟨z,Y,g2,Z⟩:=id g
 rw [i] at Y
 cases Y
 rw [E] at Z
 cases Z
 have T:c.size=d.length:=by
  have:=congrArg Uo G
  simpa using this
 have O:(c.toList.map (·.hash)).Nodup:=by
  have:c.toList.map (·.hash)=d.map fun p=>Tb.hashT p.1:=by rw [L];exact CQ d n (by rw [<- U.length,Tc])
  rw [this];exact nd
 refine a3F (Q₁:=fun A j=>A=.ref s.heap.objs.size/\j = { s with heap:=s.heap.push { cls:=.type "dict",data:=.dict #[] } }) F.kt_called_dict (F.kt_typeCall_dict_1 _) F.entry_dict_init (kt_code_dict_new _ ⟨rfl,rfl⟩) ?_
 rintro A j ⟨rfl,rfl⟩
 have v:({ s with heap:=s.heap.push { cls:=.type "dict",data:=.dict #[] } }:Th).heap.get? s.heap.objs.size=some { cls:=.type "dict",data:=.dict #[] }:=TJ _ rfl
 have ty:({ s with heap:=s.heap.push { cls:=.type "dict",data:=.dict #[] } }:Th).TypeIs (.ref s.heap.objs.size) "dict":=⟨_,v,rfl⟩
 have ga:RawD (s.heap.push { cls:=.type "dict",data:=.dict #[] }) a c y:=g.stay fun o e=>Ti _ e
 refine ⟨ty,F.args_dict_init_2 _ _,?_⟩
 unfold Builtin.«dict.__init__»
 refine Td ?_
 unfold a3j
 refine Td (Wt ty (Tr ?_))
 show TX _ _ (YQ "dict.__init__" s.heap.objs.size (.ref a) [] .none) _ _ _
 unfold YQ
 refine Td (wpAny_typeOf (T:="dict") ⟨_,Ti _ i,w.1⟩ ?_)
 rw [if_neg (by decide)]
 refine Td ?_
 unfold a3o a3k
 have B:({ s with heap:=s.heap.push { cls:=.type "dict",data:=.dict #[] } }:Th).TypeIs (.ref a) "dict":=⟨_,Ti _ i,w.1⟩
 refine Td (Td (WG B isSubtype_dict_dict ?_))
 simp only [Vs,Tw,if_false]
 refine Td (WO B F.slot_dict_iter.lookup (Tr ?_))
 simp only [beq_self_eq_true,if_true]
 refine Td (Tr ?_)
 unfold a3n
 have M:(s.heap.objs.size == a)=false:=beq_eq_false_iff_ne.mpr (Uu (TY (TB i)))
 rw [if_neg (by rw [M];exact Uc)]
 unfold VL
 rw [if_neg (by rw [lo];exact Uc)]
 have l:=Ti { cls:=.type "dict",data:=.dict #[] } i
 refine Td (Tr (Td (UX l E ?_)))
 have big:(s.heap.objs.size == UR)=false:=beq_eq_false_iff_ne.mpr (Uu (TY I.big))
 by_cases m:d=[]
 ·have z:c = #[]:=Array.eq_empty_of_size_eq_zero (by rw [T,m];rfl)
  subst z
  have fe:(decide ((#[]:Array UH).size<=8)&&(#[]:Array UH).all fun e=>(keyPart e.key).isSome)=true:=by simp
  simp only [fe,Vs,Tw,if_false]
  refine Td (Wn l E ?_)
  refine Td (UX l E ?_)
  have fr:∀ g:Nat->PUnit->a1a (ForInStep PUnit),(forIn [:(#[]:Array UH).size] a2E g:a1a PUnit)=pure a2E:=fun g=>by simp
  rw [fr]
  refine Td (Tr (Tr ?_))
  refine Td (Tr (Tr ?_))
  refine ⟨rfl,.ref s.heap.objs.size,_,I.laid (t':=s.toks) (a:=s.heap.objs.size) (o:=aY s.heap.objs.size d) (fun b u e=>Ti _ e) (Tt _) ⟨⟨n,U,big,x,_,#[],0,v,⟨rfl,rfl,rfl⟩,rfl,L,h5⟩,⟨_,v⟩,?_⟩,rfl,q _ hn⟩
  rintro k1 k2 ⟨n,r,R,x,o,c,y,i,w⟩ N
  exact ⟨n,r,R,x,o,c,y,N o i,w⟩
 have K:=NW (bs:=d.map (·.2.1)) (fun z=>m (a0B.mp z)) (by rw [G,TF];rfl)
 simp only [K,a1T,VD,if_true]
 refine Td (UX v rfl ?_)
 simp only [Array.isEmpty_empty,if_true]
 have hes:c.size<=TC:=by omega
 have J:=NX (bs:=d.map (·.2.1)) (fun z=>m (a0B.mp z)) (by rw [G,TF];rfl)
 refine Td (NV (bs:=d.map (·.2.1)) ga (by rw [G,TF];rfl) (fun b hb=>?_) O ?_)
 ·obtain ⟨p,hp,rfl⟩:=Ts.mp hb
  obtain ⟨its,rx,⟨ot,e1,e2,_⟩,_⟩:=I.tuple (hk p hp)
  exact ⟨ot,Ti _ e1,e2⟩
 simp only [J,VD,if_true]
 refine Td (wpAny_updateDictKeysTo v rfl (Tr ?_) (by omega))
 have gN:=X8 (Obj.mapDictKeys fun _=>c) v (Obj.isFreed_of_dict (Obj.data_mapDictKeys (o:={ cls:=.type "dict",data:=.dict #[] }) rfl _))
 refine Td (Tr (Tr ?_))
 refine ⟨rfl,.ref s.heap.objs.size,_,I.laid (t':=s.toks) (a:=s.heap.objs.size) (o:=aY s.heap.objs.size d) (fun b u e=>?_) (Tt _) ⟨⟨n,U,big,x,_,c,1,gN,?_,rfl,L,h5⟩,⟨_,gN⟩,?_⟩,rfl,q _ hn⟩
 ·rw [Wb _ _ (Uu (TY (TB e)))]
  exact Ti _ e
 ·exact a2F ⟨rfl,rfl,rfl⟩ _
 ·rintro k1 k2 ⟨n,r,R,x,o,c,y,i,w⟩ N
  exact ⟨n,r,R,x,o,c,y,N o i,w⟩
end
end L3
namespace L3
open PySem L2
noncomputable abbrev pV:=List (List Int×Addr×Te)
inductive Hits (A:Ug)(s:Th)(ys:pV):pV->Bool->Prop
 | nil:Hits A s ys [] true
 | miss {x:List Int×Addr×Te}{r:pV}:Xq ys x.1=none->Hits A s ys (x::r) false
 | hit {x:List Int×Addr×Te}{p:Addr×Te}{r:pV}{e b:Bool}:Xq ys x.1=some p->a0y A s x.2.2 p.2 e->Hits A s ys r b->Hits A s ys (x::r) (e&&b)
section
variable {P:T3}{w:Uk}{A:Ug}{E:Te->Th->Prop}{s:Th}{a b:Addr}{xs ys:pV}{r:Bool}
theorem CU {nm:String}{Q:Bool->Th->Prop}(hu:(VW (Wi P w)).room A)(la:(a == UR)=false)(lb:(b == UR)=false)(Z:s.heap.DictOfH (VW (Wi P w)) a xs)(db:s.heap.DictOfH (VW (Wi P w)) b ys)
  (n:xs.length=ys.length->Hits A s ys xs r)(q:Q (xs.length == ys.length&&r) s):TX (T7 P w) A (YW nm a b) Q E s:=by
 obtain ⟨oa,d,ep,u,_,v,R,K,na⟩:=Z
 obtain ⟨ob,fs,fp,G,_,O,B,L,X⟩:=db
 have Y:=a2M R
 have sb:=a2M B
 unfold YW VL
 rw [if_neg (by rw [la];exact Uc),if_neg (by rw [lb];exact Uc)]
 refine Td (Tr (Td (Tr (Td (UX u v ?_)))))
 dsimp only
 refine Td (UX G O ?_)
 by_cases m:d.size=fs.size
 ·have U:xs.length=ys.length:=by omega
  have M:Q r s:=by simpa [U] using q
  have hh:=n U
  rw [if_neg (by rw [m];simp)]
  refine Td (Wn u v (Td ?_))
  rw [a1O]
  simp only [a1N,a0b,Nat.add_sub_cancel,Nat.div_one]
  refine a2u _ (fun bU c N=>N=s/\c=(none,())/\∃ i,bU=WM i (d.size - i)/\i<=d.size/\Hits A s ys (xs.drop i) r) _ ?_ ?_ _ _ ⟨rfl,rfl,0,by simp,Uz _,hh⟩
  ·rintro x bU c N ⟨rfl,rfl,i,l,hi,h⟩
   have I:i<d.size:=Nat.lt_of_not_le fun z=>by rw [Nat.sub_eq_zero_of_le z] at l;cases l
   have e0:d.size - i=(d.size - (i+1))+1:=by omega
   rw [e0,XO] at l
   injection l with hx hrest
   subst hx
   have g:x<xs.length:=by omega
   rw [Zv g] at h
   have ex:xs[x]? = some xs[x]:=TV g
   refine Td (UX u v ?_)
   rw [entry_at R x,ex,Ub]
   dsimp only
   have hk:=K xs[x] (a1y g)
   refine Td (U6 (Td (wpAny_dictFind_heap (k:=xs[x].1) (a:=xs[x].2.1) hu hk G O B L X (fun J=>?_) fun j p T=>?_)))
   ·have o:=atKey_none_of_get J
    have er:r=false:=by
     cases h with
     | miss _=>rfl
     | hit e _ _=>rw [o] at e;cases e
    subst er
    refine Tr ?_
    simp only [VD,if_true]
    exact Tr (Tr M)
   ·have o:=atKey_of_get X T
    refine Td (UX G O ?_)
    rw [entry_at B j,T,Ub]
    dsimp only
    generalize hxs:xs[x]=y at h o
    cases h with
    | miss e=>rw [o] at e;cases e
    | @hit _ p' _ e' b' e h2 h3=>
     rw [o] at e
     cases e
     refine U6 (h2 P w _ _ ?_)
     cases e' with
     | false=>
      simp only [VD,if_true]
      exact Tr (Tr M)
     | true=>
      simp only [Vs,Tw,if_false]
      refine Td (Wn u v ?_)
      rw [if_neg (by simp)]
      refine Tr ⟨rfl,rfl,x+1,hrest,I,?_⟩
      simpa using h3
  ·rintro c N ⟨rfl,rfl,i,l,hi,h⟩
   have H:i=d.size:=by
    rcases Wc i d.size with z|z
    ·rw [show d.size - i=(d.size - (i+1))+1 by omega,XO] at l;cases l
    ·omega
   refine Tr ?_
   rw [H,Y,List.drop_length] at h
   cases h
   exact M
 ·rw [if_pos (by simpa using m)]
  have:(xs.length == ys.length)=false:=by rw [<- Y,<- sb];simpa using m
  rw [this,a1S] at q
  exact Td (wpAny_rule (Tr q))
theorem NY {Q:Te->Th->Prop}(g:(VW (Wi P w)).room A.in1)(h:A.units<VS)(i:(a == UR)=false)(j:(b == UR)=false)(d:s.heap.DictOfH (VW (Wi P w)) a xs)(e:s.heap.DictOfH (VW (Wi P w)) b ys)
  (c:xs.length=ys.length->Hits A.in1 s ys xs r)(q:Q (.bool (xs.length == ys.length&&r)) s):TX (T7 P w) A (UG .Eq (.ref a) (.ref b)) Q E s:=by
 refine ZR (op:=.Eq) d.typeIs e.typeIs ZM (VE ZM d.typeIs PySem.F.entry_dict_eq ?_ (PySem.F.args_dict_eq_2 _ _)) h
 show TX _ _ (Wf "__eq__" ⟨[.ref a,.ref b],[]⟩ >>= _) _ _ s
 refine Td ?_
 unfold Wf
 refine Td (Wt d.typeIs (Tr (Td (WG (T:="dict") e.typeIs ZA ?_))))
 simp only [Vs,Tw,if_false]
 exact Td (Tr (Td (Tr (Td (CU g i j d e c (Tr ⟨_,rfl,(fun x=>nomatch x),by simpa using q⟩))))))
theorem NZ {Q:Te->Th->Prop}(g:(VW (Wi P w)).room A.in1)(h:A.units<VS)(i:(a == UR)=false)(j:(b == UR)=false)(d:s.heap.DictOfH (VW (Wi P w)) a xs)(e:s.heap.DictOfH (VW (Wi P w)) b ys)
  (c:xs.length=ys.length->Hits A.in1 s ys xs r)(q:Q (.bool (!(xs.length == ys.length&&r))) s):TX (T7 P w) A (UG .NotEq (.ref a) (.ref b)) Q E s:=by
 refine ZR (op:=.NotEq) d.typeIs e.typeIs ZL (VE ZL d.typeIs PySem.F.entry_dict_ne ?_ (PySem.F.args_dict_ne_2 _ _)) h
 show TX _ _ (Wf "__ne__" ⟨[.ref a,.ref b],[]⟩ >>= _) _ _ s
 refine Td ?_
 unfold Wf
 refine Td (Wt d.typeIs (Tr (Td (WG (T:="dict") e.typeIs ZA ?_))))
 simp only [Vs,Tw,if_false]
 exact Td (Tr (Td (Tr (Td (CU g i j d e c (Tr ⟨_,rfl,(fun x=>nomatch x),by simpa using q⟩))))))
end
noncomputable def j9 (c:Hm)(a:List (List Int×D)):List (List Int×D)->Option Bool
 | []=>some true
 | (k,d)::r=>match b9 a k with
  | none=>some false
  | some y=>(cZ 8 c d y).bind fun e=>(j9 c a r).map fun b=>e&&b
noncomputable def f9 (ne:Bool):D->D->Hm->Option (D×Hm)
 | .loc a,.loc b,μ=>match μ[a]?,μ[b]? with
  | some (.dT kvs),some (.dT kws)=>if kvs.length=kws.length then (j9 μ kws kvs).map fun e=>(.bl (if ne then !e else e),μ) else some (.bl ne,μ)
  | _,_=>none
 | _,_,_=>none
noncomputable def CV (K:Ta)(ne:Bool):R2:=fun x y H Q=>∃ π g a b ps qs c d e,Rp K π H g/\x=.ref (π a)/\y=.ref (π b)/\H (π a)=some (aY (π a) ps)/\H (π b)=some (aY (π b) qs)/\IsTs K π g.length H ps c/\IsTs K π g.length H qs d /\
 (c.length=d.length->j9 g d c=some e)/\Q (.bl (if ne then !(c.length == d.length&&e) else (c.length == d.length&&e))) H
theorem sQ {K:Ta}{ne:Bool}:cH K (f9 ne) (CV K ne):=by
 intro h H p x y d v w A Q R s u a k
 unfold f9 at a
 split at a
 ·split at a
  ·rename_i b c hc i
   cases s
   cases u
   obtain ⟨n,l,T⟩:=fZ R hc
   obtain ⟨o,m,j⟩:=fZ R i
   split at a
   ·rename_i g
    obtain ⟨e,r,a⟩:=Tg.mp a
    cases a
    refine ⟨h,p,_,_,n,o,b,c,e,R,rfl,rfl,l,m,T,j,fun _=>r,?_⟩
    rw [g,beq_self_eq_true,Bool.true_and]
    exact k h _ H .refl R (.bl _)
   ·rename_i g
    cases a
    refine ⟨h,p,_,_,n,o,b,c,true,R,rfl,rfl,l,m,T,j,fun z=>absurd z g,?_⟩
    have:(b.length == c.length)=false:=by simpa using g
    rw [this]
    have q:(if ne=true then !(false&&true) else (false&&true))=ne:=by cases ne<;>rfl
    rw [q]
    exact k h _ H .refl R (.bl _)
  ·cases a
 ·cases a
theorem CW {X:Cx}{a3J:List (Addr×Obj)}{σ:St}{H:Hp}{s:Th}{π:Nat->Addr}{o:Hm}{A:Ug}(I:Inv X a3J σ H s)(R:Rp X.K π H o)(z:A.units+8<VS){qs:b6}{j:List (List Int×D)}{c:List Te}(r:IsTs X.K π o.length H qs j)(B:Vals (qs.map (·.2.2)) c) :
  ∀ {ps:b6}{i:List (List Int×D)}{ws:List Te}{e:Bool},IsTs X.K π o.length H ps i->Vals (ps.map (·.2.2)) ws->j9 o j i=some e->Hits A s (bQ qs c) (bQ ps ws) e
 | _,_,_,_,.nil,.nil,h=>by cases h;exact .nil
 | _,_,_,_,.cons (a:=p) (b:=q) h t,.cons (b:=u) ru tu,g=>by
  obtain ⟨k,d⟩:=q
  have x:p.1=k:=h.1
  have a:=mM B p.1
  unfold bQ
  rw [Up]
  simp only [j9] at g
  split at g
  ·rename_i n
   cases g
   refine .miss ?_
   rcases r.val p.1 with ⟨l,b⟩|⟨v,G,l,b,E⟩
   ·rw [l] at a
    cases m:Xq (bQ qs c) p.1 with
    | none=>exact m
    | some y=>rw [m] at a;exact a.elim
   ·rw [x] at b;rw [n] at b;cases b
  ·rename_i y n
   obtain ⟨L,J,g⟩:=S9.mp g
   obtain ⟨K,m,g⟩:=Tg.mp g
   subst g
   rcases r.val p.1 with ⟨l,b⟩|⟨v,G,l,b,E⟩
   ·rw [x] at b;rw [n] at b;cases b
   ·rw [x] at b;rw [n] at b
    cases b
    rw [l] at a
    cases w:Xq (bQ qs c) p.1 with
    | none=>rw [w] at a;exact a.elim
    | some M=>
     rw [w] at a
     exact .hit (x:=(p.1,p.2.1,u)) w (vK I R 8 z ru a h.2.2 E J) (CW I R z r B t tu m)
section
variable {X:Cx}{a b:Expr}{ma mb:ME}{pos:Vl}{k:Nat}
theorem sR (ne:Bool)(hu:X.A.units+16<VS):OpR X (UG (if ne then .NotEq else .Eq)) (CV X.K ne):=by
 intro O s σ H x y v u Q I rx ry h
 obtain ⟨N,μ,i,j,n,o,l,m,e,R,rfl,rfl,U,Y,T,g,Z,q⟩:=h
 obtain rfl:v=Tx (N i):=rx
 obtain rfl:u=Tx (N j):=ry
 obtain ⟨G,hl,p,r,B⟩:=j7 I (.of U) T.keys
 obtain ⟨J,hl',d,M,E⟩:=j7 I (.of Y) g.keys
 have K:(bQ n p).length=l.length:=by
  have w:=congrArg Uo (nY r)
  have A:=congrArg Uo T.to.1
  simp only [Tc] at w A
  omega
 have L:(bQ o d).length=m.length:=by
  have w:=congrArg Uo (nY M)
  have A:=congrArg Uo g.to.1
  simp only [Tc] at w A
  omega
 have c:(bQ n p).length=(bQ o d).length->Hits X.A.in1 s (bQ o d) (bQ n p) e:=fun z=>CW I R (by rw [mD];omega) g M T r (Z (by omega))
 cases ne with
 | false=>exact NY (mN (by omega)) (by omega) G J B E c ⟨.bl _,H,I,rfl,by rw [K,L];exact q⟩
 | true=>exact NZ (mN (by omega)) (by omega) G J B E c ⟨.bl _,H,I,rfl,by rw [K,L];exact q⟩
theorem N0 (e:Room k X.A)(c:QE X a ma)(d:QE X b mb):QE X (.Compare a [.Eq] [b] pos) (aB (f9 false) ma mb):=⟨dZ (sR false (by have:=e.un;omega)) sQ c.h d.h (cT _)⟩
theorem N1 (e:Room k X.A)(c:QE X a ma)(d:QE X b mb):QE X (.Compare a [.NotEq] [b] pos) (aB (f9 true) ma mb):=⟨dZ (sR true (by have:=e.un;omega)) sQ c.h d.h (cT _)⟩
theorem N2 (e:Room k X.A)(c:QE X a ma)(d:QE X b mb):QT X (.Compare a [.Eq] [b] pos) (aT (aB (f9 false) ma mb)):=⟨d7 (sR false (by have:=e.un;omega)) sQ c.h d.h (cT _)⟩
theorem N3 (e:Room k X.A)(c:QE X a ma)(d:QE X b mb):QT X (.Compare a [.NotEq] [b] pos) (aT (aB (f9 true) ma mb)):=⟨d7 (sR true (by have:=e.un;omega)) sQ c.h d.h (cT _)⟩
end
end L3
namespace L3
open PySem L2
section
variable {P:T3}{w:Uk}{A:Ug}{E:Te->Th->Prop}{s:Th}{d it:Addr}{i ep:Nat}{es:Array UH}{ok ov:Te}
theorem N4 {v:Addr}{Q:Te->Th->Prop}(a:s.heap.IsItemsView v d)(g:RawD s.heap d es ep)
  (q:Q (.ref s.heap.objs.size) { s with heap:=s.heap.push { cls:=.type "dict_itemiterator",data:=.fields #[.none,.bool false,.ref d,.int 0 0,.int es.size 0,.int ep 0,.none,.none] } }):TX (T7 P w) A (Zp (.ref v)) Q E s:=by
 obtain ⟨m,e,l,h⟩:=id a
 obtain ⟨z,b,j,c⟩:=id g
 refine a2j a.typeIs F.slot_dict_items_iter (VE F.slot_dict_items_iter a.typeIs F.entry_dict_items_iter ?_ (F.args_dict_items_iter_1 _))
 unfold Builtin.«dict_items.__iter__»
 refine Td (Tr (Td ?_))
 unfold a1D
 refine Td (Zw e h (x:=.ref d) rfl (Tr (Td ?_)))
 unfold a1C
 refine Td (UX b c (Td (Wn b c ?_)))
 simp only [show WE "dict_itemiterator" = true by decide,if_true]
 refine VO (Tr ⟨_,rfl,"dict_itemiterator",_,⟨_,TJ _ rfl,rfl⟩,F.slot_dict_itemiterator_next.lookup,?_⟩) (by simp only [sizeOk,Xz,TN,Tz,T6,a1K,T5];omega)
 simpa [XN,Xz] using q
theorem CY {Q:Option Te->Th->Prop}(hh:A.handled=none)(j:Y0 s.heap it d i es.size ep ok ov)(g:RawD s.heap d es ep)
  (Z:∀ e l,es[i]? = some e->IsItemIterOut l it d (i+1) es.size ep e.key e.val s.heap.objs.size->l.get? s.heap.objs.size=some { cls:=.type "tuple",data:=.seq #[e.key,e.val] }->
   (∀ b o,b≠it->s.heap.get? b=some o->l.get? b=some o)->Q (some (.ref s.heap.objs.size)) { s with heap:=l })
  (q2:es[i]? = none->∀ l,Y1 it s.heap l->Q none { s with heap:=l }):TX (T7 P w) A (Zo (.ref it)) Q E s:=by
 obtain ⟨p,v,u,L,G⟩:=s
 dsimp only at j g Z q2
 obtain ⟨z,M,g2,N⟩:=id g
 have ty:∀ {h:UW}{i:Nat}{ok ov:Te},Y0 h it d i es.size ep ok ov->Shared.TypeIs ⟨h,v,u,L,G⟩ (.ref it) "dict_itemiterator":=fun j=>⟨_,j,rfl⟩
 unfold Zo
 refine Td (a0w (a0F (name:=UC "__next__") (ty j) F.slot_dict_itemiterator_next (VE F.slot_dict_itemiterator_next (ty j) F.entry_dict_itemiterator_next ?_ (F.args_dict_itemiterator_next_1 _))))
 refine Td (Tr (Td (Td (Td (Xh (ty j) (Tr (Td (a3r j rfl ?_))))))))
 simp only [show WE "dict_itemiterator" = true by decide,if_true]
 show TX _ _ (if (Tx d == Vm)=true then _ else _) _ _ _
 rw [if_neg (show ¬ (Tx d == Vm)=true from fun x=>Uc x)]
 refine Td (Tr (Td (UX M N ?_)))
 rw [if_neg (fun x=>by simp at x)]
 refine Td (Tr (Td (Wn M N ?_)))
 rw [if_neg (fun x=>by simp at x)]
 refine Tr ?_
 simp only [if_neg (show ¬ ((i:Int)<0) by omega),a1B]
 cases U:es[i]? with
 | some e=>
  refine Td (Td (Xh (ty j) (Tr (Td (Yj (ty j) ?_)))))
  show TX _ _ (a1F (.ref it) 3 (XN ((i:Int)+1)) >>= _) _ _ _
  refine Td (WV j (by simp) fun a m r=>?_)
  replace r:VP it p a:=r
  replace m:Y0 a it d (i+1) es.size ep ok ov:=m
  refine Td (U6 (Td (Yj (ty m) (Td (Yj (ty m) ?_)))))
  show TX _ _ (XJ (.ref it) 6 e.key e.val) _ _ ⟨a,v,u,L,G⟩
  unfold XJ
  refine Td (Yx ?_)
  have q:a.objs.size=p.objs.size:=r.1
  have B:it<p.objs.size:=TB j
  have n:Y0 (a.push { cls:=.type "tuple",data:=.seq #[e.key,e.val] }) it d (i+1) es.size ep ok ov:=Ti _ m
  have t2:(a.push { cls:=.type "tuple",data:=.seq #[e.key,e.val] }).get? p.objs.size=some { cls:=.type "tuple",data:=.seq #[e.key,e.val] }:=by
   rw [<- q]
   exact TJ _ rfl
  have X:∀ b o,b≠it->p.get? b=some o->(a.push { cls:=.type "tuple",data:=.seq #[e.key,e.val] }).get? b=some o:=fun b o c x=>Ti _ (r.extBut b o c x)
  show TX _ _ (Xy (.ref it) >>= _) _ _ ⟨a.push { cls:=.type "tuple",data:=.seq #[e.key,e.val] },v,u,L,G⟩
  rw [q]
  generalize a.push { cls:=.type "tuple",data:=.seq #[e.key,e.val] } = h2 at n t2 X
  refine Td ?_
  unfold Xy
  refine Td (Zw n rfl (x:=.none) rfl (Tr ?_))
  simp only [if_true]
  refine Td (Zw n rfl (x:=ok) rfl (Td (Zw n rfl (x:=ov) rfl (Td (WV n (by simp) fun O e3 H=>?_)))))
  replace H:VP it h2 O:=H
  refine Td (WV e3 (by simp) fun R e4 I=>?_)
  replace I:VP it O R:=I
  refine Td (WV e4 (by simp) fun T e5 J=>?_)
  replace J:VP it R T:=J
  refine Td (WV e5 (by simp) fun y e6 K=>?_)
  replace K:VP it T y:=K
  have Y:∀ b o,b≠it->h2.get? b=some o->y.get? b=some o:=fun b o c x=>K.extBut b o c (J.extBut b o c (I.extBut b o c (H.extBut b o c x)))
  exact Td (wpAny_letGo (Tr (Tr ⟨_,rfl,Tr (Z e y U e6 (Y _ _ (Xr B) t2) fun b o c x=>Y b o c (X b o c x))⟩)))
 | none=>
  refine Td (Td (Xh (ty j) (Tr ?_)))
  show TX _ _ (a1F (.ref it) 2 .none >>= _) _ _ _
  refine Td (ZZ j rfl (by simp) ?_)
  show TX _ _ (a3w (.type "StopIteration") [] >>= _) _ _ _
  simp only [a3w,newTuple]
  refine Td (Td (VO ?_ (by size_fits)))
  refine Td (m:=Yy _ _) (wpAny_of_eq (a:=Vm) (by first|rfl|(simp only [Yy];rfl)) (VO ?_ (by size_fits)))
  simp only [raiseNew]
  refine Td (wpAny_handled ?_)
  rw [show A.in1.handled=none from hh]
  refine Td (Tr (wpAny_throw ?thrown))
  case thrown=>exact Td (WG (T:="StopIteration") (b:=true) ⟨_,TJ _ rfl,rfl⟩ a3C (Tr (q2 U _ (((XR ..).extBut.push _).push _))))
end
noncomputable def xB (d:Addr)(ob:Obj)(ps:b6):It:=⟨fun i H=>H d=some (.frz ob (aY d ps))/\i<ps.length,fun i H x a=>∃ t p,x=.ref t/\H t=none/\ps[i]? = some p/\a=aO H t (.tup [.ref p.2.1,p.2.2]),fun i H=>H d=some (.frz ob (aY d ps))/\ps.length<=i⟩
theorem N5 {P:T3}{w:Uk}{K:Ta}{el:List Expr}{kx:Nat}{pt:Vl}{d j:Addr}{ob:Obj}{ps:b6}{G:Array UH}{ep:Nat}(hd:ob.data=.dict G ep):Turn Qc P w K (.Tuple el kx pt) (xB d ob ps) [j] j (fun i h=>∃ ok p,Y0 h j d i G.size ep ok p) where
 mem:=by simp
 obj:=fun i h ⟨ok,p,st⟩ b n=>by
  have e:b=j:=by simpa using n
  subst e
  exact ⟨_,st,fun v z=>by
   have z':TK _=ZQ v:=z
   cases z'⟩
 keep:=fun i h R ⟨ok,p,st⟩ k=>⟨ok,p,k j (by simp) _ st⟩
 item:=by
  intro X U hw T hc i M s σ H E I J ⟨ok,p,st⟩ Z
  subst U hw T
  obtain ⟨m,x⟩:=Z
  obtain ⟨lo,hl,O,N,g,a,L⟩:=mO I m
  rw [hd] at a
  cases a
  obtain ⟨_,_,es2,ep2,_,r,he⟩:=NH I m
  rw [hd] at r
  cases r
  have hs:G.size=ps.length:=by
   have:=congrArg Uo L
   simpa using this
  refine CY (I.ok.hd hc) st g (fun e R l a1 a2 a3=>⟨_,rfl,wpAny_letOwnedTupleGo_items a1 fun h2 b1 B=>?_⟩) fun hn=>by simp at hn;omega
  have hp:ps[i]? = some ps[i]:=TV x
  have ek:e.key=.ref (ps[i]).2.1:=by
   have:=congrArg (·[i]?) L
   simp only [TH,UO,l,hp,Ub] at this
   exact TL this
  obtain ⟨u,u1,u2⟩:=he.get (i:=i) (x:=ps[i].2.2) (by rw [TH,hp];rfl)
  rw [TH,UO,l] at u1
  cases u1
  have y:j<s.heap.objs.size:=TB st
  have ht2:h2.get? s.heap.objs.size=some { cls:=.type "tuple",data:=.seq #[e.key,e.val] }:=(B.2 _ (Xr y)).trans a2
  have Y:H s.heap.objs.size=none:=I.hok.fresh (Tt _)
  refine ⟨.ref s.heap.objs.size,aO H s.heap.objs.size (.tup [.ref (ps[i]).2.1,(ps[i]).2.2]),?_,rfl,⟨_,ps[i],rfl,Y,hp,rfl⟩,⟨_,_,b1⟩,fun c n=>?_⟩
  ·refine Ci (s:=s) (h':=h2) (t':=s.toks) (ch:=[j]) I (fun c oc n ec=>?_) J (Tt _) ?_
   ·have q:c≠j:=by simpa using n
    exact (B.2 c q).trans (a3 c oc q ec)
   ·exact ⟨by show (2:Nat)<=TC;decide,[e.key,e.val],.cons ek (.cons u2 .nil),_,ht2,rfl,0,rfl,rfl⟩
  ·rw [bI]
   ·exact (J c n).1
   ·have e:c=j:=by simpa using n
    rw [e]
    exact TY y
 done:=by
  intro X U hw T hc i M s σ H E I J ⟨ok,p,st⟩ Z
  subst U hw T
  obtain ⟨m,x⟩:=Z
  obtain ⟨lo,hl,O,N,g,a,L⟩:=mO I m
  rw [hd] at a
  cases a
  have hs:G.size=ps.length:=by
   have:=congrArg Uo L
   simpa using this
  obtain ⟨f0,f1,f2,f3,f4,f5⟩:=J j (by simp)
  exact CY (I.ok.hd hc) st g (fun e R l=>by
   have:=(Zh.mp l).1
   omega) fun _ R eb=>⟨rfl,I.turned (t':=s.toks) (fun b o n e=>eb b o n e) f0 f1 f3 f4 f5⟩
 self:=fun A i s Q E ⟨ok,p,st⟩ h=>PySem.W.kcp_self st h
theorem N6 {X:Cx}{l:Expr}{G:List Expr}{L:Nat}{pt:Vl}{M:TE}{a c:Vl}(K:PE X l M)(j:Wq l "items" X.env (eval l X.env)=eval l X.env) (m:(a.endLine == c.line)=true) :
  PI X (.Tuple G L pt) (.Call (.Attribute l "items" a) [] [] c) (fun r H R=>M r H fun v n=>∃ d A B,v=.ref d/\n d=some (.frz A (aY d B))/\R (xB d A B) n):=by
 intro i s r H R I h
 refine wpAny_Call_method0_late j m (aW (K i s r H _ I h) fun v p ⟨y,n,E,r1,q1⟩=>?_)
 obtain ⟨d,A,B,e,J,q⟩:=q1
 subst e
 obtain rfl:v=Tx d:=r1
 obtain ⟨lo,K,T,O,g,hd,he⟩:=mO E J
 refine ⟨"dict","dict.items",Zk,Zj,PySem.F.type_dict_items,g.ty,fun b N=>?_,XT rfl (PySem.evalArgs_none ?_)⟩
 ·cases N
  obtain ⟨z,Y,w,_⟩:=g
  exact ⟨z,Y,w.2.1⟩
 refine a0Y Zj g.ty PySem.F.entry_dict_items (PySem.F.args_dict_items_1 _) (NC d lo) ⟨⟨T,O,g⟩,?_⟩
 have u:Inv X i r n { p with heap:=p.heap.push { cls:=.type "dict_items",data:=.fields #[.ref d] } }:=E.kept (t':=p.toks) fun b o e=>Ti _ e
 obtain ⟨lo2,hl2,U,Q,w,x,he2⟩:=mO u J
 show TX (T7 X.prog X.w) X.A (Zp (.ref p.heap.objs.size)) (Aa X i r (.Tuple G L pt) R) X.xe _
 refine N4 ⟨_,TJ _ rfl,rfl,rfl⟩ w ⟨_,[_],_,_,n,rfl,u.kept (t':=p.toks) fun b o e=>Ti _ e,N5 x,⟨_,_,TJ _ rfl⟩,fun b Z=>?_,q⟩
 have e:=UA.mp Z
 subst e
 exact u.fpOk (Tt _) (u.hok.fresh (Tt _))
noncomputable def fK (a:List (List Int×D)):List D:=a.map fun k=>.tup [.tup (k.1.map D.int),k.2]
theorem N7 {K:Ta}{π:Nat->Addr}{n:Nat}{H:Hp}{d:Addr}{ob:Obj}{ps:b6}{a:List (List Int×D)}(j:H d=some (.frz ob (aY d ps)))(T:IsTs K π n H ps a):Wk K (xB d ob ps) (dO (.tup (fK a))) π n H:=by
 have G:ps.length=a.length:=by
  have:=congrArg Uo T.to.1
  simpa using this
 refine ⟨fun h B o i e R z=>?_,fun h B o i q e R z=>?_⟩
 ·have b:(fK a)[i]? = none:=TL z
  have:=Ux.mp b
  rw [fK,Tc] at this
  exact ⟨e.frz _ _ _ j,by omega⟩
 ·have b:(fK a)[i]? = some q:=TL z
  have A:i<a.length:=by
   have:=(Tf.mp b).1
   rwa [fK,Tc] at this
  refine ⟨⟨e.frz _ _ _ j,by omega⟩,fun v E ⟨t,p,r,s,u,w⟩=>?_⟩
  subst r w
  have c:a[i]? = some a[i]:=TV A
  obtain ⟨I,l,x⟩:=(T.to.2.1.mono e).get (i:=i) (d:=D.tup ((a[i]).1.map D.int)) (by rw [TH,c];rfl)
  obtain ⟨J,m,y⟩:=(T.to.2.2.mono e).get (i:=i) (d:=(a[i]).2) (by rw [TH,c];rfl)
  rw [TH,u] at l m
  cases l
  cases m
  obtain ⟨g,R2⟩:=R.fresh (o:=.tup [.ref p.2.1,p.2.2]) s
  rw [fK,TH,c] at b
  cases b
  exact ⟨g,R2,.tup (.of c9) (.cons (x.mono g) (.cons (y.mono g) .nil))⟩
noncomputable def kD (m:ME):MI:=fun c b=>(m c b).bind fun p=>match p.1 with
 | .loc a=>match p.2[a]? with
  | some (.dF kvs)=>some (dO (.tup (fK kvs)),kvs.length+1,p.2)
  | _=>none
 | _=>none
theorem N8 {X:Cx}{e:Expr}{m:ME}{a b:Vl}(h:QE X e m)(r:fW e=true)(q:(a.endLine == b.line)=true):QJT X (.Call (.Attribute e "items" a) [] [] b) (kD m):=⟨fun L M pt a3J s σ H R I hw=>by
 obtain ⟨J,K,A,z,n,B,l,E,c,k⟩:=hw
 obtain ⟨⟨x,G⟩,p,c⟩:=S9.mp c
 dsimp only at c
 split at c
 ·split at c
  ·rename_i v hc
   cases c
   refine N6 h.h (jY r) q a3J s σ H R I ⟨J,K,A,_,_,l,E,p,fun d N j o g u=>?_⟩
   cases u
   obtain ⟨w,y,i,T⟩:=pQ g hc
   exact ⟨_,w,y,rfl,i,k d j _ o g (N7 i T)⟩
  ·cases c
 ·cases c⟩
end L3
namespace L3
open PySem L2
structure Sig where
 fn:List (Str×Nat)
 con:List (Str×D)
 tab:List (Str×List (aN×D))
 no:List Str
 dIt:List Str
 dEq:List Str
 dMe:List Str
 ob:List (Str×Str):=[]
 mt:List (Str×Str×Str×Nat):=[]
 mc:List (Str×Str×Nat):=[]
 ms:List (Str×Stmt):=[]
structure Cs where
 N:List Str
 ks:List (Str×V4)
noncomputable def kE (x:Str):List Str->Option Nat
 | []=>none
 | y::r=>if x=y then some 0 else (kE x r).map (·+1)
theorem pW {x:Str}:∀ {N:List Str}{i:Nat},kE x N=some i->N[i]? = some x
 | [],_,h=>by cases h
 | y::r,i,h=>by
  unfold kE at h
  split at h
  ·rename_i e;cases h;subst e;rfl
  ·obtain ⟨j,a,b⟩:=Tg.mp h
   subst b
   have:=pW a
   simpa using this
noncomputable def glob (c:Cs)(x:Str):Bool:=decide (c.ks.lookup x=some .globalImplicit)&&!(x == ("__debug__":Str))
noncomputable def kU (c:Cs)(x:Str):Bool:=(decide (c.ks.lookup x=some .local)||decide (c.ks.lookup x=some .cell)||decide (c.ks.lookup x=some .free))&&!(x == ("__debug__":Str))&&!(x == ("__classdict__":Str))
noncomputable def lD (c:Cs)(x:Str):Bool:=decide (c.ks.lookup x=some .local)||decide (c.ks.lookup x=some .cell)
noncomputable def xC (x:Str):Option String:=
 if x = "int" then some "int" else if x = "bool" then some "bool" else if x = "str" then some "str" else if x = "list" then some "list" else if x = "tuple" then some "tuple" else if x = "dict" then some "dict" else none
theorem N9 {x:Str}{n:String}(h:xC x=some n):Vh x=some (.type n)/\x ≠ "__name__":=by
 unfold xC at h
 split at h
 ·rename_i e;subst e;cases h;exact ⟨a1j,by decide⟩
 split at h
 ·rename_i e;subst e;cases h;exact ⟨a1k,by decide⟩
 split at h
 ·rename_i e;subst e;cases h;exact ⟨Yd,by decide⟩
 split at h
 ·rename_i e;subst e;cases h;exact ⟨WX,by decide⟩
 split at h
 ·rename_i e;subst e;cases h;exact ⟨a1c,by decide⟩
 split at h
 ·rename_i e;subst e;cases h;exact ⟨WY,by decide⟩
 ·cases h
noncomputable def xD (S:Sig)(c:Cs)(x:Str):ME:=
 if kU c x=true then (match kE x c.N with|some i=>aA i|none=>bY)
 else if glob c x=true then (match S.con.lookup x with
  | some d=>mC d
  | none=>if S.no.contains x=true then (match xC x with|some n=>mC (.ty n)|none=>bY) else bY)
 else bY
noncomputable def dW (r:Expr->ME):List Expr->MA
 | []=>aD
 | e::es=>aC (r e) (dW r es)
noncomputable def sS (op:BoolOp):List ME->ME
 | []=>bY
 | [m]=>m
 | m::r=>match op with
  | .And=>iY m (sS op r)
  | .Or=>vB m (sS op r)
noncomputable def sT (op:BoolOp):List MT->MT
 | []=>mI
 | [m]=>m
 | m::r=>match op with
  | .And=>gP m (sT op r)
  | .Or=>eT m (sT op r)
noncomputable def CZ (op:a0a)(a b:ME):ME:=match op with
 | .Add=>aB bK a b
 | .Sub=>aB cQ a b
 | .Mult=>aB bX a b
 | .FloorDiv=>aB dS a b
 | .Mod=>aB bJ a b
 | .Pow=>aB gT a b
 | _=>bY
noncomputable def lE (op:WN)(ns:Bool)(a b:ME):ME:=match op with
 | .Eq=>aB (a8 false) a b
 | .NotEq=>aB (a8 true) a b
 | .Lt=>aB nJ a b
 | .LtE=>aB kW a b
 | .Gt=>aB kX a b
 | .GtE=>aB vU a b
 | .In=>if ns=true then aB (cW false) a b else bY
 | .NotIn=>if ns=true then aB (cW true) a b else bY
 | .Is=>aB (hU false) a b
 | .IsNot=>aB (hU true) a b
noncomputable def oA (r:Expr->ME):Option Expr->MO
 | none=>gR
 | some e=>i0 (r e)
noncomputable def eI:MF:=fun ds b=>match ds with
 | [.loc a]=>match b[a]? with
  | some (.lst xs)=>some (.int xs.length,b)
  | some (.st ks)=>some (.int ks.length,b)
  | some (.dT kvs)=>some (.int kvs.length,b)
  | _=>none
 | _=>pI ds b
noncomputable def eJ:MF:=fun ds b=>match ds with
 | [.loc a]=>match b[a]? with
  | some (.dT kvs)=>some (.loc b.length,b++[.lst (kvs.map fun k=>D.tup (k.1.map D.int))])
  | _=>pJ [.loc a] b
 | ds=>pJ ds b
theorem Oa {K:Ta}:cP K eJ (fun xs H Q=>(∃ p g,xs=[.ref p]/\(SqL K H p g\/SqT K H p g)/\∀ l,H l=none->Q (.ref l) (aO H l (.lst g)))\/CF K xs H Q):=by
 intro n H m xs d c j Q R i b k
 unfold eJ at b
 split at b
 ·rename_i a
  split at b
  ·rename_i e s
   cases b
   cases i with
   | cons i t=>
    cases t
    cases i
    obtain ⟨h,q,T⟩:=fZ R s
    refine .inr ⟨_,h,rfl,q,T.keys,fun l r=>?_⟩
    obtain ⟨o,R2,_⟩:=R.alloc (c:=.lst (e.map fun k:List Int×D=>D.tup (k.1.map D.int))) (o:=.lst (h.map fun p:List Int×Addr×V=>V.ref p.2.1)) r T.to.2.1
    exact k _ _ _ o R2 iG
  ·exact .inl (Bq n H m _ d c j Q R i b k)
 ·exact .inl (Bq n H m _ d c j Q R i b k)
noncomputable def mP:MF:=fun ds a=>match ds with
 | [.int i]=>if 0<=i/\i<=9 then some (.str (toString i),a) else none
 | _=>none
theorem Ob {K:Ta}:cP K mP (fun xs H Q=>∃ i,xs=[.int i]/\i.natAbs.log2<1920/\Q (.str (toString i)) H):=by
 intro c H h xs d b g Q R i a k
 unfold mP at a
 split at a
 ·split at a
  ·rename_i j e
   cases a
   cases i with
   | cons i t=>
    cases i
    cases t
    refine ⟨_,rfl,?_,k c _ H .refl R (.str _)⟩
    have:j=0\/j=1\/j=2\/j=3\/j=4\/j=5\/j=6\/j=7\/j=8\/j=9:=by omega
    rcases this with rfl|rfl|rfl|rfl|rfl|rfl|rfl|rfl|rfl|rfl<;>decide
  ·cases a
 ·cases a
noncomputable def xE (x:Str):Option MF:=
 if x = "len" then some eI
 else if x = "isinstance" then some i7
 else if x = "str" then some mP
 else if x = "list" then some eJ
 else if x = "min" then some fI else if x = "max" then some hV
 else none
noncomputable def Oc (K:Ta):List V->Hp->VK->Prop:=fun xs H Q=>vZ K xs H Q\/(∃ a L,xs=[V.ref a]/\H a=some (rB a L)/\Q (.int L.length) H)\/CD K xs H Q
theorem Od {K:Ta}:cP K eI (Oc K):=by
 intro g H l q d e j Q R i b k
 unfold eI at b
 split at b
 ·rename_i a
  split at b
  ·rename_i r c
   refine .inl (Bp g H l _ d e j Q R i ?_ k)
   simp only [pI,bP,c]
   exact b
  ·rename_i n c
   cases b
   cases i with
   | cons i t=>
    cases t
    cases i
    obtain ⟨L,h,m,_⟩:=R.st a n c
    have:=congrArg Uo m
    rw [Tc] at this
    refine .inr (.inl ⟨_,L,rfl,h,?_⟩)
    rw [this]
    exact k g _ H .refl R (.int _)
  ·rename_i o c
   cases b
   cases i with
   | cons i t=>
    cases t
    cases i
    obtain ⟨p,h,T⟩:=fZ R c
    have:=congrArg Uo T.to.1
    rw [Tc,Tc] at this
    refine .inr (.inr ⟨_,p,rfl,h,T.keys,?_⟩)
    rw [this]
    exact k g _ H .refl R (.int _)
  ·cases b
 ·exact .inl (Bp g H l _ d e j Q R i b k)
theorem Oe {X:Cx}{x:Str}{f:MF}(a:X.calm=true)(b:X.A.units+64<VS)(h:xE x=some f):∃ v r,Vh x=some v/\((∃ id,v=.builtin id)\/∃ T,v=.type T)/\CallR X v r/\cP X.K f r/\x ≠ "__name__":=by
 unfold xE at h
 split at h
 ·rename_i e;subst e;cases h;exact ⟨_,_,a1h,.inl ⟨_,rfl⟩,call_lenM.or (call_lenT.or Nq),Od,by decide⟩
 split at h
 ·rename_i e;subst e;cases h;exact ⟨_,_,a1i,.inl ⟨_,rfl⟩,JZ,JW,by decide⟩
 split at h
 ·rename_i e;subst e;cases h;exact ⟨_,_,Yd,.inr ⟨_,rfl⟩,G3,Ob,by decide⟩
 split at h
 ·rename_i e;subst e;cases h;exact ⟨_,_,WX,.inr ⟨_,rfl⟩,call_list_of.or (Nt a),Oa,by decide⟩
 split at h
 ·rename_i e;subst e;cases h;exact ⟨_,_,a1f,.inl ⟨_,rfl⟩,(MY a).or (G1 a),M0 Mh,by decide⟩
 split at h
 ·rename_i e;subst e;cases h;exact ⟨_,_,a1g,.inl ⟨_,rfl⟩,(MV a).or (G0 a),MX Mi,by decide⟩
 ·cases h
noncomputable def xF (x:Str):Option MF:=
 xE x
theorem Of {X:Cx}{x:Str}{f:MF}(a:X.calm=true)(b:X.A.units+64<VS)(h:xF x=some f):∃ v r,Vh x=some v/\((∃ id,v=.builtin id)\/∃ T,v=.type T)/\CallR X v r/\cP X.K f r/\x ≠ "__name__":=by
 unfold xF at h
 exact Oe a b h
noncomputable def C0 (m:Str)(n:Nat):Option (D->List D->Hm->Option (D×Hm)):=
 if n=1 then (if m = "append" then some iN
  else if m = "extend" then some nS
  else none)
 else none
noncomputable def lF:MF:=fun ds b=>match ds with
 | [.loc a]=>match b[a]? with
  | some (.dT kvs)=>if kvs.length<64/\(∀ p∈kvs,p.1≠[]) then some (.loc b.length,b++[.lst ((n6 kvs).map fun k=>D.tup (k.1.map D.int))]) else none
  | _=>none
 | _=>none
theorem Og {K:Ta}:cP K lF (w8 K):=by
 intro A H y x d u w Q R i a k
 unfold lF at a
 split at a
 ·split at a
  ·rename_i b s
   split at a
   ·rename_i m
    cases a
    cases i with
    | cons i t=>
     cases t
     cases i
     obtain ⟨c,j,T⟩:=fZ R s
     obtain ⟨v,g⟩:=NF T
     refine ⟨_,c,rfl,j,T.keys,by omega,fun p o z=>?_,fun l n=>?_⟩
     ·have:p.1∈b.map (·.1):=by rw [<- T.to.1];exact Ts.mpr ⟨p,o,rfl⟩
      obtain ⟨q,r,e⟩:=Ts.mp this
      exact m.2 q r (e.trans z)
     ·obtain ⟨h,R2,_⟩:=R.alloc (c:=.lst ((n6 b).map fun k:List Int×D=>D.tup (k.1.map D.int))) (o:=.lst ((j8 c).map fun p:List Int×Addr×V=>V.ref p.2.1)) n g.to.2.1
      exact k _ _ _ h R2 iG
   ·cases a
  ·cases a
 ·cases a
noncomputable def pX:MF:=fun ds b=>match ds with
 | [.loc a]=>match b[a]? with
  | some (.dT kvs)=>if 64<=kvs.length/\kvs.length<128/\(∀ p∈kvs,p.1≠[])/\sP (kvs.map (·.1)) (kvs.length - 1)=true then some (.loc b.length,b++[.lst (kvs.map fun k=>D.tup (k.1.map D.int))]) else none
  | _=>none
 | _=>none
theorem Oh {K:Ta}:cP K pX (w9 K):=by
 intro y H x w d s v Q R i b k
 unfold pX at b
 split at b
 ·split at b
  ·rename_i a r
   split at b
   ·rename_i g
    cases b
    cases i with
    | cons i t=>
     cases t
     cases i
     obtain ⟨c,j,T⟩:=fZ R r
     have u:c.length=a.length:=by
      have:=congrArg Uo T.to.1
      simpa using this
     refine ⟨_,c,a.length - 1,rfl,j,T.keys,by omega,by omega,by omega,fun p n z=>?_,by rw [T.to.1];exact g.2.2.2,fun l m=>?_⟩
     ·have:p.1∈a.map (·.1):=by rw [<- T.to.1];exact Ts.mpr ⟨p,n,rfl⟩
      obtain ⟨q,o,e⟩:=Ts.mp this
      exact g.2.2.1 q o (e.trans z)
     ·obtain ⟨h,R2,_⟩:=R.alloc (c:=.lst (a.map fun k:List Int×D=>D.tup (k.1.map D.int))) (o:=.lst (c.map fun p:List Int×Addr×V=>V.ref p.2.1)) m T.to.2.1
      exact k _ _ _ h R2 iG
   ·cases b
  ·cases b
 ·cases b
noncomputable def kH:MF:=fun ds a=>match lF ds a with
 | some r=>some r
 | none=>pX ds a
theorem Oi {K:Ta}:cP K kH (fun xs H Q=>w8 K xs H Q\/w9 K xs H Q):=by
 intro h H c xs d b g Q R i a k
 unfold kH at a
 cases e:lF xs c with
 | some r=>
  rw [e] at a
  dsimp only at a
  exact .inl (Og h H c xs d b g Q R i (e.trans a) k)
 | none=>
  rw [e] at a
  exact .inr (Oh h H c xs d b g Q R i a k)
noncomputable def oB:MF:=fun ds b=>match ds with
 | [.loc a]=>match b[a]? with
  | some (.dT kvs)=>if (kvs.map fun p=>Tb.hashT p.1).Nodup then some (.loc b.length,b++[.dT kvs]) else none
  | _=>none
 | _=>none
theorem C1 {K:Ta}:cP K oB (CS K):=by
 intro u H s r d o q Q R i a k
 unfold oB at a
 split at a
 ·split at a
  ·rename_i b n
   split at a
   ·rename_i j
    cases a
    cases i with
    | cons i t=>
     cases t
     cases i
     obtain ⟨c,h,T⟩:=fZ R n
     have g:=T.to.1
     refine ⟨_,c,rfl,h,T.keys,?_,fun l m=>?_⟩
     ·have:(c.map fun p=>Tb.hashT p.1)=b.map fun p=>Tb.hashT p.1:=by
       have:=congrArg (a1P Tb.hashT) g
       simpa [TF,Function.comp_def] using this
      rw [this];exact j
     ·obtain ⟨e,R2,_⟩:=R.alloc (c:=.dT b) (o:=aY l c) m ⟨c,rfl,T.to⟩
      exact k _ _ _ e R2 iG
   ·cases a
  ·cases a
 ·cases a
noncomputable def xG (S:Sig):Expr->List Expr->Option (Bool×Expr)
 | .Name x _,[.Name y p]=>if S.dMe.contains y=true then (if x = "sorted" then some (true,.Name y p) else if x = "dict" then some (false,.Name y p) else none) else none
 | .Name x _,[.Subscript a b p]=>if x = "dict"/\S.dMe.contains "[]" = true then some (false,.Subscript a b p) else none
 | _,_=>none
noncomputable def C2 (S:Sig)(o:Expr)(m:Str)(n:Nat):Option (D->List D->Hm->Option (D×Hm)):=
 if m = "get"/\n=2 then some fJ else
 none
noncomputable def C3 (S:Sig):Expr->Bool
 | .Name x _=>S.dEq.contains x
 | .Dict [] [] _=>S.dEq.contains "{}"
 | .Subscript o _ _=>match o with|.Name x _=>S.dEq.contains x|_=>false
 | _=>false
noncomputable def oC (op:WN)(a b:ME):ME:=match op with
 | .Eq=>aB (f9 false) a b
 | .NotEq=>aB (f9 true) a b
 | _=>bY
noncomputable def C4 (S:Sig)(c:Cs):Expr->Option Nat
 | .Name x _=>if S.dIt.contains x=true then kE x c.N else none
 | .Subscript o i _=>match o,i with
  | .Name x _,.Constant (.int n) _ _=>if S.dIt.contains x=true then (kE x c.N).map fun j=>1000 * (j+1)+n.toNat else none
  | _,_=>none
 | _=>none
noncomputable def xH (S:Sig)(c:Cs)(tg:Expr)(e:Expr):Option Nat:=match tg with
 | .Name _ _=>C4 S c e
 | _=>none
noncomputable def xI (S:Sig)(F:Str->MF)(r:Expr->ME)(c:Cs)(f:Expr)(args:List Expr)(a:Vl):ME:=match f with
 | .Name x _=>if glob c x&&args.all dN then (match S.fn.lookup x with
   | some n=>if args.length=n then aG (F x) (dW r args) else bY
   | none=>
   match S.mc.lookup x with
   | some q=>if args.length=q.2&&!args.isEmpty then k7 x (F x) (dW r args) else bY
   | none=>
   if S.no.contains x&&!args.isEmpty then (match xF x with|some g=>aG g (dW r args)|none=>bY) else bY)
  else bY
 | .Attribute o m apos=>if fW o&&(apos.endLine == a.line)&&args.all dN then (
   match S.mt.lookup m with
   | some q=>if args.length=q.2.2&&decide (args.length<30) then hJ q.1 m (F q.2.1) (r o) (dW r args) else bY
   | none=>
   match C2 S o m args.length with
   | some g=>f7 g (r o) (dW r args)
   | none=>
   match C0 m args.length with
   | some g=>gZ g (r o) (dW r args)
   | none=>
    if m = "join" then (match args with|[b]=>j5 jE (r o) (dW r [b])|_=>bY) else
    bY)
  else bY
 | _=>bY
noncomputable def xJ:Expr->Option (Expr×List Expr)
 | .Call f as [] _=>some (f,as)
 | _=>none
theorem Oj {e f:Expr}{a:List Expr}(h:xJ e=some (f,a)):∃ pos,e=.Call f a [] pos:=by
 unfold xJ at h
 split at h
 ·cases h;exact ⟨_,rfl⟩
 ·cases h
noncomputable def sU:Expr->Option Str
 | .Name x _=>some x
 | _=>none
theorem C5 {e:Expr}{x:Str}(h:sU e=some x):∃ p,e=.Name x p:=by
 unfold sU at h
 split at h
 ·cases h;exact ⟨_,rfl⟩
 ·cases h
noncomputable def o1:List Expr->Option Expr
 | [e]=>some e
 | _=>none
theorem C6 {l:List Expr}{e:Expr}(h:o1 l=some e):l=[e]:=by
 unfold o1 at h
 split at h
 ·cases h;rfl
 ·cases h
noncomputable def C7 (f:Expr)(args:List Expr):Option (Str×Str×Expr):=(sU f).bind fun x=>(o1 args).bind fun a=>(xJ a).bind fun g=>(sU g.1).bind fun y=>(o1 g.2).map fun e=>(x,y,e)
theorem Ol {f:Expr}{args:List Expr}{x y:Str}{e:Expr}(h:C7 f args=some (x,y,e)):∃ p c pos,f=.Name x p/\args=[.Call (.Name y c) [e] [] pos]:=by
 obtain ⟨n,d,h⟩:=S9.mp h
 obtain ⟨a,i,h⟩:=S9.mp h
 obtain ⟨g,j,h⟩:=S9.mp h
 obtain ⟨o,b,h⟩:=S9.mp h
 obtain ⟨m,l,h⟩:=Tg.mp h
 cases h
 obtain ⟨p,rfl⟩:=C5 d
 obtain ⟨pos,rfl⟩:=Oj j
 obtain ⟨c,b⟩:=C5 b
 exact ⟨p,c,pos,rfl,by rw [C6 i,b,C6 l]⟩
noncomputable def Om (f:Expr)(args:List Expr):Option (Bool×Expr):=(C7 f args).bind fun t=>
 if t.1 = "list"/\t.2.1 = "reversed" then some (true,t.2.2) else
 none
noncomputable def C8:Bool->Str
 | false=>"range"
 | true=>"reversed"
noncomputable def lstM:Bool->MF
 | true=>j6
 | false=>j6
noncomputable def xK (S:Sig)(F:Str->MF)(r:Expr->ME)(c:Cs)(f:Expr)(args:List Expr)(a:Vl):ME:=
 match Om f args with
 | some (b,e)=>if glob c "list" && glob c (C8 b)&&S.no.contains "list" && S.no.contains (C8 b)&&dN e then aG (lstM b) (dW r [e]) else bY
 | none=>xI S F r c f args a
noncomputable def xM (S:Sig)(F:Str->MF)(r:Expr->ME)(c:Cs)(f:Expr)(args:List Expr)(a:Vl):ME:=
 match xG S f args with
 | some (true,e)=>if glob c "sorted" && S.no.contains "sorted" then aG kH (dW r [e]) else bY
 | some (false,e)=>if glob c "dict" && S.no.contains "dict" then aG oB (dW r [e]) else bY
 | none=>
 xK S F r c f args a
noncomputable def oE (c:Cs)(scope:V0)(xs:List Str):Bool:=
 (scope.names.all fun y=>decide (y.2≠.cell))&&decide (scope.kind=.function)&&(scope.names.all fun y=>decide (y.2≠.local)||decide (scope.names.lookup y.1=some .local)) &&
 (xs.all fun x=>decide (scope.names.lookup x=some .local))&&decide xs.Nodup&&(scope.names.all fun y=>decide (y.2≠.free)||decide (c.ks.lookup y.1=some .cell)||decide (c.ks.lookup y.1=some .free)) &&
 (scope.names.all fun y=>decide (y.2≠.local)||!(bF xs c.N).contains y.1)&&decide (bF xs c.N).Nodup&&(c.N.all fun y=>!xs.contains y||decide (scope.names.lookup (nK y)=none))
noncomputable def pY (c:Cs)(scope:V0)(xs:List Str):Cs:=
 ⟨bF xs c.N++xs,scope.names.map fun (n,k)=>if (k == VJ&&c.ks.lookup n == some .cell) then (n,VY) else (n,k)⟩
noncomputable def C9 (r:Expr->MT):List Expr->MT
 | []=>dA
 | [t]=>r t
 | _=>mI
noncomputable def xN (S:Sig)(c:Cs):Expr->Option (List Expr)
 | .Call (.Name x _) args [] _=>if x = "range" then (if glob c x&&S.no.contains x&&args.all dN then some args else none) else none
 | _=>none
noncomputable def sV (S:Sig)(r:Expr->ME)(c:Cs)(e:Expr):MI:=match xN S c e with
 | some [a]=>mG (dW r [a])
 | some [a,b]=>gY (dW r [a,b])
 | some [a,b,d]=>pP (dW r [a,b,d])
 | some _=>BB
 | none=>cR (r e)
noncomputable def xO (S:Sig)(c:Cs):Expr->Option Expr
 | .Call (.Name x _) [a] [] _=>if x = "enumerate" then (if glob c x&&S.no.contains x&&dN a then some a else none) else none
 | _=>none
noncomputable def xP (S:Sig)(r:Expr->ME)(c:Cs)(e:Expr):MI:=match xO S c e with
 | some a=>Ck (dW r [a])
 | none=>sV S r c e
noncomputable def xQ (S:Sig)(r:Expr->ME)(c:Cs)(e:Expr):MI:=xP S r c e
noncomputable def xR:Expr->Option (List Str)
 | .Name x _=>some [x]
 | .Tuple es _ _=>es.mapM fun e=>match e with|.Name x _=>some x|_=>none
 | _=>none
noncomputable def xS:Expr->Nat->BD
 | .Tuple ..,n=>Bn n
 | _,_=>nM
noncomputable def lG (S:Sig)(r:Expr->ME)(c:Cs)(tg e:Expr):MI:=match tg with
 | .Tuple ..=>xQ S r c e
 | _=>sV S r c e
noncomputable def jG (b:MI)(d:Cs->Expr->ME)(e:Cs->Expr->MT)(c:Cs)(elt tg iter:Expr)(ifs:List Expr)(scope:V0):ME:=match xR tg with
 | some a=>if oE c scope a&&eW iter then mH (xS tg a.length) b (C9 (e (pY c scope a)) ifs) (d (pY c scope a) elt) else bY
 | none=>bY
noncomputable def xT (S:Sig)(a:Cs->Expr->ME)(b:Cs->Expr->MT)(c:Cs)(elt tg iter:Expr)(ifs:List Expr)(scope:V0):ME:=
 match xH S c tg iter with
 | some i=>wZ i (jG (e8 (a c iter)) a b c elt tg iter ifs scope) (jG (lG S (a c) c tg iter) a b c elt tg iter ifs scope)
 | none=>
 jG (lG S (a c) c tg iter) a b c elt tg iter ifs scope
noncomputable def Dd:Const->ME
 | .int i=>mC (.int i)
 | .bool b=>mC (.bl b)
 | .str s=>mC (.str s)
 | .none=>mC .non
 | _=>bY
noncomputable def De (m:ME):UnaryOp->ME
 | .USub=>c6 m
 | .Not=>nF m
 | _=>bY
noncomputable def xU (S:Sig)(r:Expr->ME)(a:Expr):List WN->List Expr->ME
 | [op],[b]=>if C3 S b then oC op (r a) (r b) else lE op (eW b) (r a) (r b)
 | [op,op'],[b,b']=>(match jZ op,jZ op' with
  | some p,some q=>k9 (fF p) (fF q) (r a) (r b) (r b')
  | _,_=>bY)
 | _,_=>bY
noncomputable def xV (r:Expr->ME):List (Option Expr)->List Expr->ME
 | [],[]=>f6
 | _,_=>bY
noncomputable def xW (S:Sig)(r:Expr->ME)(c:Cs)(a b:Expr):ME:=match b with
 | .Slice lo hi none _=>mB (r a) (oA r lo) (oA r hi)
 | .Slice lo hi (some st) _=>mL (r a) (oA r lo) (oA r hi) (oA r (some st))
 | b=>if nP b then aB aH (r a) (r b) else bY
noncomputable def xX (r:Expr->ME)(a:List Expr):ME:=if a.all dN then bW (dW r a) else bY
noncomputable def xY (r:Expr->ME)(a:List Expr):ME:=if a.all dN then cU (dW r a) else bY
noncomputable def xZ (S:Sig)(F:Str->MF)(r:Expr->ME)(c:Cs)(f:Expr)(args:List Expr)(a:Vl):List Wx->ME
 | []=>xM S F r c f args a
 | _=>bY
noncomputable def x6 (S:Sig)(a:Cs->Expr->ME)(b:Cs->Expr->MT)(c:Cs)(elt:Expr)(scope:V0):List Comprehension->ME
 | [⟨tg,iter,ifs,0⟩]=>xT S a b c elt tg iter ifs scope
 | _=>bY
noncomputable def Df (S:Sig)(F:Str->MF)(d:Cs->Expr->ME)(e:Cs->Expr->MT)(c:Cs):Expr->ME
 | .Name x _=>xD S c x
 | .Constant v _ _=>Dd v
 | .BinOp a op b _=>CZ op (d c a) (d c b)
 | .UnaryOp op a _=>De (d c a) op
 | .Compare a ops bs _=>xU S (d c) a ops bs
 | .BoolOp op vs _=>sS op (vs.map (d c))
 | .IfExp t a b _=>gQ (e c t) (d c a) (d c b)
 | .Tuple es _ _=>xX (d c) es
 | .List es _=>xY (d c) es
 | .Dict keys values _=>xV (d c) keys values
 | .Subscript a b _=>xW S (d c) c a b
 | .Call f args kws cpos=>xZ S F (d c) c f args cpos kws
 | .Attribute o a _=>if fW o then (match S.ob.lookup a with|some x=>jC x a (d c o)|none=>bY) else bY
 | .ListComp elt gs scope _=>x6 S d e c elt scope gs
 | _=>bY
noncomputable def pZ (r:Expr->ME)(e:Expr):MT:=if v8 e then eY (r e) else mI
noncomputable def yA (S:Sig)(r:Expr->ME)(a:Expr)(ops:List WN)(bs:List Expr)(p:Vl):MT:=match ops,bs with
 | [op],[b]=>if C3 S b then aT (oC op (r a) (r b)) else aT (lE op (eW b) (r a) (r b))
 | [op,op'],[b,b']=>(match jZ op,jZ op' with
  | some p,some q=>aT (k9 (fF p) (fF q) (r a) (r b) (r b'))
  | _,_=>mI)
 | ops,bs=>pZ r (.Compare a ops bs p)
noncomputable def Oo (r:Expr->ME)(t:MT)(a:Expr)(p:Vl):UnaryOp->MT
 | .Not=>t
 | op=>pZ r (.UnaryOp op a p)
noncomputable def Dg (S:Sig)(b:Cs->Expr->ME)(d:Cs->Expr->MT)(c:Cs):Expr->MT
 | .BoolOp op vs _=>sT op (vs.map (d c))
 | .UnaryOp op a p=>Oo (b c) (iX (d c a)) a p op
 | .Compare a ops bs p=>yA S (b c) a ops bs p
 | e=>pZ (b c) e
noncomputable def tr (S:Sig)(F:Str->MF):Nat->(Cs->Expr->ME)×(Cs->Expr->MT)
 | 0=>(fun _ _=>bY,fun _ _=>mI)
 | n+1=>(Df S F (tr S F n).1 (tr S F n).2,Dg S (tr S F n).1 (tr S F n).2)
structure Okx (S:Sig)(F:Str->MF)(k:Nat)(c:Cs)(X:Cx):Prop where
 N:X.N=c.N
 nd:X.N.Nodup
 ks:X.env.scope.names=c.ks
 kind:X.env.scope.kind=.function
 calm:X.calm=true
 room:Room k X.A
 never:a2D (T7 X.prog X.w) X.A X.env X.xe
 fn:∀ x n,S.fn.lookup x=some n->∃ (f:Addr)(fd:Vo)(ps:List Str),FnOk X.prog X.w X.K X.mg X.base dI k f fd ps (dJ X.K n (F x))/\X.mg x=some (.ref f)/\Va X.K (.ref f)=true/\Binds X.K fd ps []
 con:∀ x d,S.con.lookup x=some d->∃ v u,X.mg x=some u/\RelV v u/\∀ π n H,IsD X.K π n H v d
 tab:∀ x kvs,S.tab.lookup x=some kvs->TabOk X x kvs
 no:∀ x,S.no.contains x=true->X.mg x=none
 ob:∀ f x,S.ob.lookup f=some x->∃ C,CAt X.K x C/\Cls X.K C/\NoAttr X.K C f
 mt:∀ m x y n,S.mt.lookup m=some (x,y,n)->∃ (C g:Addr)(fd:Vo)(ps:List Str),CAt X.K x C/\Cls X.K C/\Meth X.K C m g/\FnOk X.prog X.w X.K X.mg X.base dI k g fd ps (dJ X.K (n+1) (F y))/\Binds X.K fd ps []
 mc:∀ x y n,S.mc.lookup x=some (y,n)->(∀ ds μ,F x ds μ=none)\/∃ (k':Nat)(C g:Addr)(fd:Vo)(ps:List Str),k=k'+1/\CAt X.K x C/\Mk X.K C g/\FnOk X.prog X.w X.K X.mg X.base dI k' g fd ps (dJ X.K (n+1) (F x))/\Binds X.K fd ps []
section
variable {S:Sig}{F:Str->MF}{k:Nat}{c:Cs}{X:Cx}
theorem Oq (ks:X.env.scope.names=c.ks){x:Str}(h:glob c x=true):Gl X x/\(x == ("__debug__":Str))=false:=by
 unfold glob at h
 rw [To] at h
 refine ⟨?_,by simpa using h.2⟩
 show X.env.scope.names.lookup x=_
 rw [ks]
 exact of_decide_eq_true h.1
theorem Ot (ks:X.env.scope.names=c.ks){x:Str}(h:kU c x=true):m7 X.env.scope x/\(x == ("__debug__":Str))=false/\(x == ("__classdict__":Str))=false:=by
 unfold kU at h
 rw [To,To,Xf,Xf] at h
 obtain ⟨⟨a,b⟩,d⟩:=h
 refine ⟨?_,by simpa using b,by simpa using d⟩
 unfold m7
 rw [ks]
 rcases a with (a|a)|a
 ·exact .inl (of_decide_eq_true a)
 ·exact .inr (.inl (of_decide_eq_true a))
 ·exact .inr (.inr (of_decide_eq_true a))
theorem Okx.gl (O:Okx S F k c X){x:Str}(h:glob c x=true):Gl X x/\(x == ("__debug__":Str))=false:=Oq O.ks h
theorem Okx.vis (O:Okx S F k c X){x:Str}(h:kU c x=true):m7 X.env.scope x/\(x == ("__debug__":Str))=false/\(x == ("__classdict__":Str))=false:=Ot O.ks h
theorem Ou (O:Okx S F k c X)(x:Str)(pos:Vl):QE X (.Name x pos) (xD S c x):=by
 unfold xD
 split
 ·rename_i h
  obtain ⟨a,b,j⟩:=O.vis h
  split
  ·rename_i i l
   exact Kb i (by rw [O.N];exact pW l) a b j
  ·exact b8
 split
 ·rename_i h
  obtain ⟨a,b⟩:=O.gl h
  split
  ·rename_i d hd
   obtain ⟨v,u,m,r,i⟩:=O.con x d hd
   exact ⟨nE (FN a m r b) i⟩
  ·split
   ·rename_i o
    split
    ·rename_i n p
     obtain ⟨e,g⟩:=N9 p
     exact KP (O.no x o) e a g b
    ·exact b8
   ·exact b8
 ·exact b8
theorem gA {r:Expr->ME}(b:∀ e,QE X e (r e)):∀ (a:List Expr),a.all dN=true->QA X a (dW r a) a.length
 | [],_=>Kz
 | e::a,h=>by
  rw [Ur,To] at h
  exact KA (b e) (gA b a h.2) h.1
theorem Dh {r:Expr->ME}(a:∀ e,QE X e (r e))(op:BoolOp)(pos:Vl):∀ (vs:List Expr),QE X (.BoolOp op vs pos) (sS op (vs.map r))
 | []=>b8
 | [e]=>Ku (a e)
 | e::d::es=>by
  have b:=Dh a op pos (d::es)
  cases op with
  | And=>exact Kv (a e) b
  | Or=>exact Kw (a e) b
theorem Di {r:Expr->MT}(a:∀ e,QT X e (r e))(op:BoolOp)(pos:Vl):∀ (vs:List Expr),QW X (.BoolOp op vs pos) (sT op (vs.map r))
 | []=>Lx
 | [e]=>by
  cases op with
  | And=>exact K1 (a e)
  | Or=>exact K2 (a e)
 | e::d::es=>by
  have b:=Di a op pos (d::es)
  cases op with
  | And=>exact K3 (a e) b
  | Or=>exact K4 (a e) b
theorem Ov {a b:Expr}{g h:ME}(d:QE X a g)(e:QE X b h)(op:a0a)(pos:Vl):QE X (.BinOp a op b pos) (CZ op g h):=by
 cases op with
 | Add=>exact Kg d e
 | Sub=>exact Kh d e
 | Mult=>exact Ki d e
 | FloorDiv=>exact Kj d e
 | Mod=>exact Kk d e
 | Pow=>exact Kl d e
 | _=>exact b8
theorem Ox (O:Okx S F k c X){a b:Expr}{g i:ME}(d:QE X a g)(e:QE X b i)(op:WN)(pos:Vl):QE X (.Compare a [op] [b] pos) (lE op (eW b) g i):=by
 cases op with
 | Eq=>exact Ko O.room d e
 | NotEq=>exact Kp O.room d e
 | Lt=>exact Kq d e
 | LtE=>exact Kr d e
 | Gt=>exact Ks d e
 | GtE=>exact Kt d e
 | In=>
  simp only [lE]
  split
  ·rename_i h;exact Nv O.room d e h
  ·exact b8
 | NotIn=>
  simp only [lE]
  split
  ·rename_i h;exact Nx O.room d e h
  ·exact b8
 | Is=>exact Md d e
 | IsNot=>exact Me d e
theorem Dj {e:Expr}:QT X e (aT bY):=⟨fun a3J s σ H Q I h=>by
 obtain ⟨i,j,g,d,b,R,E,a,k⟩:=h
 cases a⟩
theorem Oy (O:Okx S F k c X){a b:Expr}{g i:ME}(d:QE X a g)(e:QE X b i)(op:WN)(pos:Vl):QT X (.Compare a [op] [b] pos) (aT (lE op (eW b) g i)):=by
 cases op with
 | Eq=>exact KQ O.room d e
 | NotEq=>exact KR O.room d e
 | Lt=>exact KS d e
 | LtE=>exact KU d e
 | Gt=>exact KW d e
 | GtE=>exact KY d e
 | In=>
  simp only [lE]
  split
  ·rename_i h;exact Ny O.room d e h
  ·exact Dj
 | NotIn=>
  simp only [lE]
  split
  ·rename_i h;exact Nz O.room d e h
  ·exact Dj
 | Is=>exact Mf d e
 | IsNot=>exact Mg d e
theorem qA {r:Expr->ME}(a:∀ e,QE X e (r e)):∀ o:Option Expr,QO X o (oA r o)
 | none=>KJ
 | some e=>KL (a e)
theorem Oz (O:Okx S F k c X){r:Expr->ME}(s:∀ e,QE X e (r e))(f:Expr)(args:List Expr)(l:Vl):QE X (.Call f args [] l) (xI S F r c f args l):=by
 unfold xI
 split
 ·rename_i x p
  split
  ·rename_i A
   rw [To] at A
   obtain ⟨E,G⟩:=O.gl A.1
   have d:=gA s args A.2
   split
   ·rename_i n I
    split
    ·rename_i a
     obtain ⟨fa,Y,ps,h,b,Z,i⟩:=O.fn x n I
     subst a
     cases args with
     | nil=>exact LM h O.room b Z i E G
     | cons e u=>exact KO h O.room b Z i d E G
    ·exact b8
   ·skip
    split
    ·rename_i q J
     split
     ·rename_i a
      rw [To] at a
      cases args with
      | nil=>exact absurd a.2 (by simp)
      | cons e u=>
       rcases O.mc x q.1 q.2 J with hz|⟨k',C,ga,Y,ps,rfl,H,M,h,i⟩
       ·exact LY fun ρ μ=>by
         unfold k7
         cases dW r (e::u) ρ μ with
         | none=>rfl
         | some p=>simp only [TZ,hz,Option.bind_none]
       ·have w:=of_decide_eq_true a.1
        rw [<- w] at h
        exact LX M H h O.room E i d G
     ·exact b8
    split
    ·rename_i j
     rw [To] at j
     split
     ·rename_i g i
      obtain ⟨v,rr,L,b2,N,Q,R⟩:=Of (X:=X) O.calm O.room.units i
      cases args with
      | nil=>exact absurd j.2 (by simp)
      | cons e u=>
       rcases b2 with ⟨id,rfl⟩|⟨T,rfl⟩
       ·exact Bw N Q (O.no x j.1) L d E R G
       ·exact v7 N Q (O.no x j.1) L d E R G
     ·exact b8
    ·exact b8
  ·exact b8
 ·rename_i o m K
  split
  ·rename_i A
   rw [To,To] at A
   obtain ⟨⟨y,z⟩,h3⟩:=A
   have d:=gA s args h3
   split
   ·rename_i q J
    split
    ·rename_i a
     rw [To] at a
     obtain ⟨C,ga,Y,ps,H,U,M,h,i⟩:=O.mt m q.1 q.2.1 q.2.2 J
     have w:=of_decide_eq_true a.1
     rw [<- w] at h
     cases args with
     | nil=>exact LV (s o) y z H U M h O.room i
     | cons e u=>exact LU (s o) y z H U M h O.room i d (of_decide_eq_true a.2)
    ·exact b8
   split
   ·rename_i g b
    unfold C2 at b
    split at b
    ·rename_i a
     obtain ⟨rfl,a⟩:=a
     cases b
     cases args with
     | nil=>cases a
     | cons e u=>exact NS ZC PySem.F.type_dict_get (NU (by have:=O.room.units;omega)) NT (s o) d y z (by rw [a];decide)
    cases b
   split
   ·rename_i g b
    unfold C0 at b
    split at b
    ·rename_i a
     cases args with
     | nil=>cases a
     | cons e u=>
      have I:(e::u).length<30:=by rw [a];decide
      split at b
      ·rename_i B;subst B;cases b
       exact BQ PySem.F.slot_list_append PySem.F.type_list_append AI LI (s o) d y z I
      split at b
      ·rename_i B;subst B;cases b
       exact BQ PySem.F.slot_list_extend PySem.F.type_list_extend HZ LJ (s o) d y z I
      ·cases b
    ·cases b
   ·skip
    split
    ·rename_i B
     subst B
     split
     ·exact Mw PySem.F.slot_str_join PySem.F.type_str_join My Mx (s o) d y z (by show 1<30;decide)
     ·exact b8
    ·exact b8
  ·exact b8
 ·exact b8
theorem OA (O:Okx S F k c X){r:Expr->ME}(j:∀ e,QE X e (r e))(f:Expr)(args:List Expr)(a:Vl):QE X (.Call f args [] a) (xK S F r c f args a):=by
 unfold xK
 split
 ·rename_i b e h
  split
  ·rename_i i
   rw [To,To,To,To] at i
   obtain ⟨⟨⟨⟨l,m⟩,q⟩,s⟩,st⟩:=i
   have o:=gA j [e] (by rw [Ur,st];rfl)
   obtain ⟨t,n,g⟩:=S9.mp h
   obtain ⟨p,v,u,rfl,rfl⟩:=Ol n
   split at g
   ·rename_i d
    cases g
    rw [d.1,d.2]
    exact MM O.calm (O.no _ q) (O.no _ s) o (O.gl l).1 (O.gl m).1
   ·cases g
  ·exact b8
 ·exact Oz O j f args a
theorem OB (nd:X.N.Nodup)(e:X.N=c.N)(ks:X.env.scope.names=c.ks){scope:V0}{xs:List Str}(h:oE c scope xs=true):CompSt X.env.scope X.N scope xs/\xs.Nodup:=by
 unfold oE at h
 rw [To,To] at h
 obtain ⟨⟨h,b⟩,q⟩:=h
 have b:=of_decide_eq_true b
 have d:∀ y∈c.N,xs.contains y=true->scope.names.lookup (nK y)=none:=fun y a hc=>by
  have:=Vd.mp q y a
  rw [hc] at this
  simpa using this
 simp only [To,Vd,decide_eq_true_eq,Xf,XE,List.contains_eq_mem,decide_eq_false_iff_not] at h
 obtain ⟨⟨⟨⟨⟨⟨i,j⟩,l⟩,m⟩,p⟩,n⟩,o⟩:=h
 refine ⟨⟨i,j,fun y a g=>(l y a).resolve_left (fun z=>z g),m,fun y a r=>?_,fun y a g=>?_,nd,by rw [e];exact b,by rw [e];exact d⟩,p⟩
 ·rw [ks]
  rcases n y a with (z|z)|z
  ·exact absurd r z
  ·exact .inl z
  ·exact .inr z
 ·rw [e]
  have:=(o y a).resolve_left (fun z=>z g)
  exact this
theorem qB (O:Okx S F k c X){scope:V0}{xs:List Str}(h:oE c scope xs=true):CompSt X.env.scope X.N scope xs/\xs.Nodup:=OB O.nd O.N O.ks h
theorem Dk {N xs:List Str}(h:N.Nodup)(d:xs.Nodup)(g:∀ x∈xs,x∉N):(N++xs).Nodup:=by
 rw [WR]
 exact ⟨h,d,fun a i b j e=>by subst e;exact g _ j i⟩
theorem Dl {scope:V0}{xs:List Str}(Q:CompSt X.env.scope X.N scope xs/\xs.Nodup):(bF xs X.N++xs).Nodup:=Dk Q.1.hnd Q.2 fun x a=>Q.1.own (x,.local) (U0 (Q.1.here x a)) rfl
theorem OC (a:X.env.scope.kind=.function)(ks:X.env.scope.names=c.ks)(scope:V0)(xs:List Str):(a2n scope X.env).names=(pY c scope xs).ks:=by
 unfold a2n pY
 dsimp only
 refine Ul fun y _=>?_
 obtain ⟨n,b⟩:=y
 dsimp only
 have:(X.env.scope.kind == ScopeKind.function)=true:=by rw [a];rfl
 rw [this,a2h]
 show (if (b == VJ&&X.env.scope.names.lookup n == some VY)=true then _ else _)=_
 rw [ks]
theorem Okx.comp (O:Okx S F k c X){scope:V0}{xs:List Str}(h:oE c scope xs=true){b:List (Str×Addr)}{C:Addr}{s₀:Th}{H₀:Hp}{d:List Addr}:Okx S F k (pY c scope xs) (cF X scope b C (bF xs X.N++xs) s₀ H₀ d):=
 ⟨show bF xs X.N++xs=bF xs c.N++xs by rw [O.N],Dl (qB O h),OC O.kind O.ks scope xs,(qB O h).1.kind,O.calm,O.room,a0l,O.fn,O.con,fun y a q=>⟨(O.tab y a q).ex⟩,O.no
  ,O.ob,O.mt,O.mc
  ⟩
theorem Dm {r:Expr->MT}(l:∀ e,QT X e (r e)):∀ g:List Expr,QI X g (C9 r g)
 | []=>K6
 | [t]=>K7 (l t)
 | a::b::g=>⟨fun i s q H Q I h=>by
   obtain ⟨o,p,n,d,m,R,E,j,k⟩:=h
   cases j⟩
theorem yB (O:Okx S F k c X){e:Expr}{args:List Expr}(h:xN S c e=some args):∃ p pos,e=.Call (.Name "range" p) args [] pos/\Gl X "range"/\X.mg "range" = none/\args.all dN=true:=by
 unfold xN at h
 split at h
 ·split at h
  ·rename_i b
   subst b
   split at h
   ·rename_i a
    cases h
    rw [To,To] at a
    exact ⟨_,_,rfl,(O.gl a.1.1).1,O.no _ a.1.2,a.2⟩
   ·cases h
  ·cases h
 ·cases h
theorem Dp (O:Okx S F k c X){r:Expr->ME}(m:∀ e,QE X e (r e))(e:Expr):QJ X e (sV S r c e):=by
 unfold sV
 split
 ·rename_i a h
  obtain ⟨p,l,rfl,g,i,j⟩:=yB O h
  exact Ln g i (gA m [a] j)
 ·rename_i a b h
  obtain ⟨p,l,rfl,g,i,j⟩:=yB O h
  exact Lo g i (gA m [a,b] j)
 ·rename_i a b d h
  obtain ⟨p,l,rfl,g,i,j⟩:=yB O h
  exact MU g i (gA m [a,b,d] j)
 ·exact Lk
 ·exact Ll (m e)
theorem OD (O:Okx S F k c X){e a:Expr}(h:xO S c e=some a):∃ p pos,e=.Call (.Name "enumerate" p) [a] [] pos/\Gl X "enumerate"/\X.mg "enumerate" = none/\dN a=true:=by
 unfold xO at h
 split at h
 ·split at h
  ·rename_i d
   subst d
   split at h
   ·rename_i b
    cases h
    rw [To,To] at b
    exact ⟨_,_,rfl,(O.gl b.1.1).1,O.no _ b.1.2,b.2⟩
   ·cases h
  ·cases h
 ·cases h
theorem OE (O:Okx S F k c X){r:Expr->ME}(b:∀ e,QE X e (r e))(e:Expr):QJT X e (xP S r c e):=by
 unfold xP
 split
 ·rename_i a h
  obtain ⟨p,j,rfl,d,g,i⟩:=OD O h
  exact Mu d g (gA b [a] (by rw [Ur,i];rfl))
 ·exact (Dp O b e).t
theorem OF (O:Okx S F k c X){r:Expr->ME}(a:∀ e,QE X e (r e))(e:Expr):QJT X e (xQ S r c e):=by
 unfold xQ
 exact OE O a e
theorem oF (O:Okx S F k c X){r:Expr->ME}(a:∀ e,QE X e (r e))(tg e:Expr):PI X tg e (iM X.K (lG S r c tg e)):=by
 unfold lG
 split
 ·exact (OF O a e).h _ _ _
 ·exact (Dp O a e).h _
theorem Dq {iter:Expr}{env:Yi}(h:eW iter=true):∀ x,Wu iter env x=pure x:=by
 intro z
 cases iter<;>first|rfl|cases h
end
theorem Dr {X:Cx}(d:X.N.Nodup):∀ (a:List Expr)(xs:List Str)(n:Nat),(a.mapM fun e=>match e with|.Name x _=>some x|_=>none)=some xs->(∀ j x,xs[j]? = some x->X.N[n+j]? = some x/\X.env.scope.names.lookup x=some .local)->QGs X a (WM n xs.length)
 | [],xs,n,h,hx=>by
  cases h
  exact Bz
 | e::a,xs,n,h,hx=>by
  rw [List.mapM_cons] at h
  obtain ⟨x,c,h⟩:=S9.mp h
  obtain ⟨l,g,h⟩:=S9.mp h
  cases h
  cases e with
  | Name y p=>
   cases c
   rw [T6,XO]
   have b:=hx 0 x rfl
   refine BA n d (Dr d a l (n+1) g fun j z i=>?_) (by simpa using b.1) (.inl b.2) (.inr b.2)
   have:=hx (j+1) z (by simpa using i)
   rw [show n+1+j=n+(j+1) by omega]
   exact this
  | _=>cases c
theorem OG {c:Cs}{X:Cx}{scope:V0}{x:Str}{p:Vl}(Q:CompSt X.env.scope X.N scope [x]/\[x].Nodup)(a:List (Str×Addr))(C:Addr)(s₀:Th)(H₀:Hp)(b:List Addr):PG (cF X scope a C (bF [x] X.N++[x]) s₀ H₀ b) (.Name x p) (eV X.K (gB X.N.length nM)):=by
 have e:=Dl Q
 have d:(a2n scope X.env).names.lookup x=some .local:=a1H (Q.1.here x (by simp))
 exact Lp (X:=cF X scope a C (bF [x] X.N++[x]) s₀ H₀ b) (by show (bF [x] X.N++[x]).length=_;rw [Tz,mE];rfl) (Bk (X:=cF X scope a C (bF [x] X.N++[x]) s₀ H₀ b) e (by show (bF [x] X.N++[x])[X.N.length]? = _;rw [<- mE [x] X.N];simp) (.inl d) (.inr d))
theorem sW {S:Sig}{F:Str->MF}{k:Nat}{c:Cs}{X:Cx}(O:Okx S F k c X){scope:V0}{tg:Expr}{xs:List Str}(a:xR tg=some xs)(h:oE c scope xs=true)(b:List (Str×Addr))(C:Addr)(s₀:Th)(H₀:Hp)(e:List Addr) :
  PG (cF X scope b C (bF xs X.N++xs) s₀ H₀ e) tg (eV X.K (gB X.N.length (xS tg xs.length)))/\∀ d n z,xS tg xs.length d n=some z->z.length=xs.length:=by
 obtain ⟨St,i⟩:=qB O h
 have r:(bF xs X.N++xs).Nodup:=Dk St.hnd i fun x a=>St.own (x,.local) (U0 (St.here x a)) rfl
 have g:∀ x∈xs,(a2n scope X.env).names.lookup x=some .local:=fun x a=>a1H (St.here x a)
 unfold xR at a
 split at a
 ·rename_i x p
  cases a
  refine ⟨OG (c:=c) ⟨St,i⟩ b C s₀ H₀ e,fun d n z m=>?_⟩
  cases m
  rfl
 ·rename_i q v pt
  refine ⟨Lq (X:=cF X scope b C (bF xs X.N++xs) s₀ H₀ e) (by show (bF xs X.N++xs).length=_;rw [Tz,mE]) (v9 (X:=cF X scope b C (bF xs X.N++xs) s₀ H₀ e) (Dr (X:=cF X scope b C (bF xs X.N++xs) s₀ H₀ e) r q xs X.N.length a fun j x o=>⟨?_,g x (Ue o)⟩) O.calm).h,fun d n z m=>?_⟩
  ·show (bF xs X.N++xs)[X.N.length+j]? = some x
   rw [Us (by rw [mE];omega),mE,show X.N.length+j - X.N.length=j by omega]
   exact o
  ·obtain ⟨w,u,l⟩:=S9.mp m
   split at l
   ·rename_i s
    cases l
    rw [Tc];exact s
   ·cases l
 ·cases a
theorem OH (O:Okx S F k c X){r:Expr->ME}(g:∀ e,QE X e (r e))(f:Expr)(args:List Expr)(b:Vl):QE X (.Call f args [] b) (xM S F r c f args b):=by
 unfold xM
 split
 ·rename_i e h
  split
  ·rename_i a
   rw [To] at a
   unfold xG at h
   split at h
   ·split at h
    ·split at h
     ·rename_i d;subst d
      cases h
      exact Bw ((NN O.calm).or (NO O.calm)) Oi (O.no _ a.2) a1d (gA g _ rfl) (O.gl a.1).1 (by decide) (O.gl a.1).2
     ·split at h
      ·cases h
      ·cases h
    ·cases h
   ·split at h<;>cases h
   ·cases h
  ·exact b8
 ·rename_i e h
  split
  ·rename_i a
   rw [To] at a
   unfold xG at h
   split at h
   ·split at h
    ·split at h
     ·cases h
     ·split at h
      ·rename_i d;subst d
       cases h
       exact v7 CT C1 (O.no _ a.2) WY (gA g _ rfl) (O.gl a.1).1 (by decide) (O.gl a.1).2
      ·cases h
    ·cases h
   ·split at h
    ·rename_i d
     cases d.1
     cases h
     exact v7 CT C1 (O.no _ a.2) WY (gA g _ rfl) (O.gl a.1).1 (by decide) (O.gl a.1).2
    ·cases h
   ·cases h
  ·exact b8
 exact OA O g _ _ _
theorem sX {S:Sig}{F:Str->MF}{k:Nat}{m:Cs->Expr->ME}{n:Cs->Expr->MT}(o:∀ c X,Okx S F k c X->∀ e,QE X e (m c e))(p:∀ c X,Okx S F k c X->∀ e,QT X e (n c e))(c:Cs)(X:Cx)(O:Okx S F k c X)
  (elt tg iter:Expr)(ifs:List Expr)(scope:V0)(pos:Vl){l:MI}(r:PI X tg iter (iM X.K l)):QE X (.ListComp elt [⟨tg,iter,ifs,0⟩] scope pos) (jG l m n c elt tg iter ifs scope):=by
 unfold jG
 split
 ·rename_i w j
  split
  ·rename_i h
   rw [To] at h
   refine ⟨fun g s v H Q I q=>?_⟩
   exact Lu ((qB O h.1).1.ok I.ok) O.calm r (fun d u z=>(sW O j h.1 [] 0 s H []).2 d u z) (fun C b a i=>(sW O j h.1 _ C b a i).1) (fun C b a i=>(Dm (p _ _ (O.comp h.1)) _).h) (fun C b a i=>(o _ _ (O.comp h.1) _).h) (Dq h.2) g s v H Q I q
  ·exact b8
 ·exact b8
theorem OI {S:Sig}{F:Str->MF}{k:Nat}{d:Cs->Expr->ME}{g:Cs->Expr->MT}(a:∀ c X,Okx S F k c X->∀ e,QE X e (d c e))(b:∀ c X,Okx S F k c X->∀ e,QT X e (g c e))(c:Cs)(X:Cx)(O:Okx S F k c X)
  (elt tg iter:Expr)(ifs:List Expr)(scope:V0)(pos:Vl):QE X (.ListComp elt [⟨tg,iter,ifs,0⟩] scope pos) (xT S d g c elt tg iter ifs scope):=by
 unfold xT
 split
 ·exact NG (sX a b c X O elt tg iter ifs scope pos ((w6 (a c X O iter)).h tg)) (sX a b c X O elt tg iter ifs scope pos (oF O (a c X O) tg iter))
 exact sX a b c X O elt tg iter ifs scope pos (oF O (a c X O) tg iter)
theorem OJ {S:Sig}{F:Str->MF}{k:Nat}{c:Cs}{X:Cx}(O:Okx S F k c X){a b:Expr}{g h:ME}(d:QE X a g)(e:QE X b h)(op:WN)(pos:Vl):QE X (.Compare a [op] [b] pos) (oC op g h):=by
 unfold oC
 split
 ·exact N0 O.room d e
 ·exact N1 O.room d e
 ·exact b8
theorem OK {S:Sig}{F:Str->MF}{k:Nat}{c:Cs}{X:Cx}(O:Okx S F k c X){a b:Expr}{g h:ME}(d:QE X a g)(e:QE X b h)(op:WN)(pos:Vl):QT X (.Compare a [op] [b] pos) (aT (oC op g h)):=by
 unfold oC
 split
 ·exact N2 O.room d e
 ·exact N3 O.room d e
 ·exact ⟨fun i s p H Q I q=>by
   obtain ⟨n,o,m,b,l,R,E,j,k⟩:=q
   cases j⟩
section
variable {S:Sig}{F:Str->MF}{k:Nat}{c:Cs}{X:Cx}{r:Expr->ME}
theorem OL (v:Const)(n:Nat)(p:Vl):QE X (.Constant v n p) (Dd v):=by
 cases v<;>first|exact Kc|exact Kd|exact Ke|exact Kf|exact b8
theorem OM (b:∀ e,QE X e (r e))(op:UnaryOp)(a:Expr)(p:Vl):QE X (.UnaryOp op a p) (De (r a) op):=by
 cases op<;>first|exact Km (b _)|exact Kn (b _)|exact b8
theorem ON (O:Okx S F k c X)(b:∀ e,QE X e (r e))(a:Expr)(ops:List WN)(bs:List Expr)(p:Vl):QE X (.Compare a ops bs p) (xU S r a ops bs):=by
 unfold xU
 split
 ·split
  ·exact OJ O (b _) (b _) _ _
  ·exact Ox O (b _) (b _) _ _
 ·split
  ·rename_i d g
   exact Mb d g (b _) (b _) (b _)
  ·exact b8
 ·exact b8
theorem OO (O:Okx S F k c X)(a:∀ e,QE X e (r e))(ks:List (Option Expr))(vs:List Expr)(p:Vl):QE X (.Dict ks vs p) (xV r ks vs):=by
 unfold xV
 try split
 ·exact Nf
 ·exact b8
theorem OP (O:Okx S F k c X)(d:∀ e,QE X e (r e))(a b:Expr)(p:Vl):QE X (.Subscript a b p) (xW S r c a b):=by
 unfold xW
 split
 ·exact KN (d _) (qA d _) (qA d _)
 ·exact Mo (d _) (qA d _) (qA d _) (qA d _)
 ·split
  ·rename_i h
   ·exact Nu O.room (d _) (d _) h
  ·exact b8
theorem yC (a:∀ e,QE X e (r e))(e:Expr):QT X e (pZ r e):=by
 unfold pZ
 split
 ·rename_i h;exact LL (a _) h
 ·exact wB
theorem OQ (O:Okx S F k c X)(b:∀ e,QE X e (r e))(a:Expr)(ops:List WN)(bs:List Expr)(p:Vl):QT X (.Compare a ops bs p) (yA S r a ops bs p):=by
 unfold yA
 split
 ·split
  ·exact OK O (b _) (b _) _ _
  ·exact Oy O (b _) (b _) _ _
 ·split
  ·rename_i d g
   exact Mc d g (b _) (b _) (b _)
  ·exact wB
 ·exact yC b _
theorem OR (b:∀ e,QE X e (r e))(a:List Expr)(n:Nat)(p:Vl):QE X (.Tuple a n p) (xX r a):=by
 unfold xX
 split
 ·rename_i h;exact KG (gA b _ h)
 ·exact b8
theorem OS (b:∀ e,QE X e (r e))(a:List Expr)(p:Vl):QE X (.List a p) (xY r a):=by
 unfold xY
 split
 ·rename_i h;exact KH (gA b _ h)
 ·exact b8
theorem OT (O:Okx S F k c X)(b:∀ e,QE X e (r e))(f:Expr)(args:List Expr)(a:List Wx)(p:Vl):QE X (.Call f args a p) (xZ S F r c f args p a):=by
 unfold xZ
 split
 ·exact OH O b _ _ _
 ·exact b8
end
theorem OU {S:Sig}{F:Str->MF}{k:Nat}{c:Cs}{X:Cx}(O:Okx S F k c X){o:Expr}{m:ME}{a:Str}{p:Vl}(h:QE X o m):QE X (.Attribute o a p) (if fW o then (match S.ob.lookup a with|some x=>jC x a m|none=>bY) else bY):=by
 split
 ·rename_i g
  split
  ·rename_i y i
   obtain ⟨C,b,d,e⟩:=O.ob a y i
   exact LR h g b d e
  ·exact b8
 ·exact b8
theorem Ds {S:Sig}{F:Str->MF}{k:Nat}{m:Cs->Expr->ME}{q:Cs->Expr->MT}(z:∀ c X,Okx S F k c X->∀ e,QE X e (m c e))(A:∀ c X,Okx S F k c X->∀ e,QT X e (q c e))(c:Cs)(X:Cx)(O:Okx S F k c X) :
  (∀ e,QE X e (Df S F m q c e))/\∀ e,QT X e (Dg S m q c e):=by
 have d:=z c X O
 have u:=A c X O
 constructor
 ·intro e
  cases e with
  | Name x p=>exact Ou O _ _
  | Constant v n p=>exact OL v n p
  | BinOp a i b p=>exact Ov (d _) (d _) _ _
  | UnaryOp i a p=>exact OM d i a p
  | Compare a g bs p=>exact ON O d a g bs p
  | BoolOp i y p=>exact Dh d _ _ _
  | IfExp t a b p=>exact Ky (u _) (d _) (d _)
  | Tuple s n p=>exact OR d s n p
  | List s p=>exact OS d s p
  | Dict E y p=>exact OO O d E y p
  | Subscript a b p=>exact OP O d a b p
  | Call f j w l=>exact OT O d f j w l
  | Attribute o a p=>exact OU O (d _)
  | ListComp r B h p=>
   show QE X _ (x6 S m q c r h B)
   unfold x6
   split
   ·exact OI z A c X O _ _ _ _ _ _
   ·exact b8
  | _=>exact b8
 ·intro e
  cases e with
  | BoolOp i y p=>exact K5 (Di u _ _ _)
  | UnaryOp i a p=>
   cases i
   case Not=>exact K0 (u _)
   all_goals exact yC d _
  | Compare a g bs p=>exact OQ O d a g bs p
  | _=>exact yC d _
theorem yD {S:Sig}{F:Str->MF}{k:Nat}:∀ (n:Nat),(∀ c X,Okx S F k c X->∀ e,QE X e ((tr S F n).1 c e))/\∀ c X,Okx S F k c X->∀ e,QT X e ((tr S F n).2 c e)
 | 0=>⟨fun c X O e=>b8,fun c X O e=>wB⟩
 | n+1=>by
  have a:=yD (S:=S) (F:=F) (k:=k) n
  exact ⟨fun c X O e=>(Ds a.1 a.2 c X O).1 e,fun c X O e=>(Ds a.1 a.2 c X O).2 e⟩
end L3
namespace L3
open PySem L2
noncomputable def sY:MG:=fun _ _ _=>none
noncomputable def qC (c:Cs):List Expr->Option (List Nat)
 | []=>some []
 | .Name x _::r=>if lD c x then (kE x c.N).bind fun i=>(qC c r).map (i::·) else none
 | _=>none
noncomputable def oG (c:Cs):Expr->MG
 | .Name x _=>if lD c x then (match kE x c.N with|some i=>cI i|none=>sY) else sY
 | .Tuple es _ _=>match qC c es with|some a=>dM a|none=>sY
 | _=>sY
noncomputable def kI (r:Stmt->MS):List Stmt->MS
 | []=>bM
 | [s]=>r s
 | s::t=>aK (r s) (kI r t)
noncomputable def yE (S:Sig)(E:Cs->Expr->ME)(T:Cs->Expr->MT)(c:Cs)(i:Nat):Expr->MS
 | .ListComp elt [⟨tg,iter,ifs,0⟩] scope _=>match xH S c tg iter with
  | some j=>dB j (aQ i (jG (e8 (E c iter)) E T c elt tg iter ifs scope)) (aQ i (jG (lG S (E c) c tg iter) E T c elt tg iter ifs scope))
  | none=>aQ i (jG (lG S (E c) c tg iter) E T c elt tg iter ifs scope)
 | _=>cV
noncomputable def yF (S:Sig)(E:Cs->Expr->ME)(T:Cs->Expr->MT)(c:Cs)(tg e:Expr):MS:=match tg with
 | .Name y _=>if lD c y then (match kE y c.N with
   | some i=>if iL e then aQ i (E c e) else yE S E T c i e
   | none=>cV) else cV
 | .Tuple es _ _=>if wA e then (match qC c es with|some b=>iK (E c e) (dM b)|none=>cV)
   else cV
 | .Subscript o i _=>if iL e&&nP i then cM (E c o) (E c i) (E c e) else cV
 | .Attribute o a _=>match S.ob.lookup a with|some x=>if iL e then k5 x a (E c o) (E c e) else cV|none=>cV
 | _=>cV
noncomputable def yG (S:Sig)(c:Cs)(tg:Expr):Expr->Option (Nat×Expr×Vl×Vl)
 | .Call g [] [] cpos=>match g with
  | .Attribute o m apos=>match tg with
   | .Tuple ..=>if m = "items" then (C4 S c o).map fun j=>(j,o,apos,cpos) else none
   | _=>none
  | _=>none
 | _=>none
theorem OV {S:Sig}{c:Cs}{tg e:Expr}{q:Nat×Expr×Vl×Vl}(h:yG S c tg e=some q):e=.Call (.Attribute q.2.1 "items" q.2.2.1) [] [] q.2.2.2/\∃ b d p,tg=.Tuple b d p:=by
 unfold yG at h
 split at h
 ·split at h
  ·split at h
   ·split at h
    ·rename_i a
     obtain ⟨j,_,rfl⟩:=Tg.mp h
     rw [a]
     exact ⟨rfl,_,_,_,rfl⟩
    ·cases h
   ·cases h
  ·cases h
 ·cases h
noncomputable def Dt (S:Sig)(E:Cs->Expr->ME)(T:Cs->Expr->MT)(c:Cs)(r:Stmt->MS):Stmt->MS
 | .Return (some e) _=>bC (E c e)
 | .Return none _=>bC (mC .non)
 | .If t a b _=>bN (T c t) (kI r a) (kI r b)
 | .Assign [tg] e _=>yF S E T c tg e
 | .Expr e _=>if iL e then eU (E c e) else cV
 | .For tg iter body [] _=>if eW iter then
  (match yG S c tg iter with
  | some q=>if fW q.2.1&&(q.2.2.1.endLine == q.2.2.2.line) then dB q.1 (cD (kD (E c q.2.1)) (oG c tg) (kI r body)) cV else cV
  | none=>
  (match xH S c tg iter with
  | some j=>dB j (cD (e8 (E c iter)) (oG c tg) (kI r body)) (cD (lG S (E c) c tg iter) (oG c tg) (kI r body))
  | none=>cD (lG S (E c) c tg iter) (oG c tg) (kI r body))
  )
  else cV
 | .Pass _=>bM
 | _=>cV
noncomputable def yH (S:Sig)(F:Str->MF)(m:Nat)(c:Cs):Nat->Stmt->MS
 | 0=>fun _=>cV
 | n+1=>Dt S (tr S F m).1 (tr S F m).2 c (yH S F m c n)
section
variable {S:Sig}{F:Str->MF}{k:Nat}{c:Cs}{X:Cx}
theorem OW (ks:X.env.scope.names=c.ks){x:Str}(h:lD c x=true):L2.Loc X.env.scope x:=by
 unfold lD at h
 rw [Xf] at h
 unfold L2.Loc
 rw [ks]
 exact h.imp of_decide_eq_true of_decide_eq_true
theorem Okx.own (O:Okx S F k c X){x:Str}(h:lD c x=true):L2.Loc X.env.scope x:=OW O.ks h
theorem yI (O:Okx S F k c X)(d:∀ x,X.fn x=true):∀ (a:List Expr)(b:List Nat),qC c a=some b->QGs X a b
 | [],b,h=>by cases h;exact Bz
 | e::a,b,h=>by
  cases e with
  | Name x p=>
   unfold qC at h
   split at h
   ·rename_i l
    obtain ⟨i,g,h⟩:=S9.mp h
    obtain ⟨m,j,h⟩:=Tg.mp h
    subst h
    exact BA i O.nd (yI O d a m j) (by rw [O.N];exact pW g) (O.own l) (.inl (d x))
   ·cases h
  | _=>cases h
theorem sZ (O:Okx S F k c X)(b:∀ x,X.fn x=true)(e:Expr):QG X e (oG c e):=by
 unfold oG
 split
 ·split
  ·rename_i d
   split
   ·rename_i i a
    exact Lg i O.nd (by rw [O.N];exact pW a) (O.own d) (.inl (b _))
   ·exact rV fun _ _ _=>rfl
  ·exact rV fun _ _ _=>rfl
 ·split
  ·rename_i g a
   exact v9 (yI O b _ g a) O.calm
  ·exact rV fun _ _ _=>rfl
 ·exact rV fun _ _ _=>rfl
theorem lH {r:Stmt->MS}(a:∀ s,QS X s (r s)):∀ ss:List Stmt,QB X ss (kI r ss)
 | []=>K8
 | [s]=>La (a s)
 | s::t::ts=>K9 (a s) (lH a (t::ts))
theorem OX {elt tg iter:Expr}{ifs:List Expr}{scope:V0}{pos py:Vl}{y:Str}{n:Nat}{env:Yi} :
  ∃ b:Bool,Xi (.ListComp elt [⟨tg,iter,ifs,0⟩] scope pos) (some (.Name y py)) n env=pure b/\(b=true->env.kindOf y=some .local):=by
 refine ⟨env.blockKind == .function&&env.kindOf y == some .local&&py.line == pos.line&&!(scope.names.any fun (n,k)=>n == y&&(k == .local||k == .cell)),rfl,fun h=>?_⟩
 simp only [To,beq_iff_eq] at h
 exact h.1.1.2
theorem yJ (O:Okx S F k c X)(B:∀ x,X.fn x=true){E:Cs->Expr->ME}{T:Cs->Expr->MT}(r:∀ c X,Okx S F k c X->∀ e,QE X e (E c e))(u:∀ c X,Okx S F k c X->∀ e,QT X e (T c e))
  {i:Nat}{y:Str}{py j:Vl}(v:X.N[i]? = some y)(G:lD c y=true)(elt tg iter:Expr)(ifs:List Expr)(scope:V0)(pos:Vl){A:MI}(m:PI X tg iter (iM X.K A)):QS X (.Assign [.Name y py] (.ListComp elt [⟨tg,iter,ifs,0⟩] scope pos) j) (aQ i (jG A E T c elt tg iter ifs scope)):=by
  obtain ⟨b,l,p⟩:=OX (elt:=elt) (tg:=tg) (iter:=iter) (ifs:=ifs) (scope:=scope) (pos:=pos) (py:=py) (y:=y) (n:=j.line) (env:=X.env)
  cases b with
  | false=>exact ⟨A6 O.nd v (O.own G) (sX r u c X O elt tg iter ifs scope pos m).h l (.inl (B y))⟩
  | true=>
   unfold jG
   split
   ·rename_i L w
    split
    ·rename_i h
     rw [To] at h
     refine ⟨fun n s K H D I q=>?_⟩
     exact Lv ((qB O h.1).1.ok I.ok) O.nd O.calm m (fun d J z=>(sW O w h.1 [] 0 s H []).2 d J z) (fun C g a o=>(sW O w h.1 _ C g a o).1) (fun C g a o=>(Dm (u _ _ (O.comp h.1)) _).h) (fun C g a o=>(r _ _ (O.comp h.1) _).h) (Dq h.2) v (p rfl) l n s K H D I q
    ·exact Cm
   ·exact Cm
theorem OY (O:Okx S F k c X)(g:∀ x,X.fn x=true){E:Cs->Expr->ME}{T:Cs->Expr->MT}(a:∀ c X,Okx S F k c X->∀ e,QE X e (E c e))(d:∀ c X,Okx S F k c X->∀ e,QT X e (T c e))
  {i:Nat}{y:Str}{py b:Vl}(h:X.N[i]? = some y)(j:lD c y=true)(e:Expr):QS X (.Assign [.Name y py] e b) (yE S E T c i e):=by
 unfold yE
 split
 ·split
  ·exact w4 (yJ O g a d h j _ _ _ _ _ _ ((w6 (a c X O _)).h _)) (yJ O g a d h j _ _ _ _ _ _ (oF O (a c X O) _ _))
  ·exact yJ O g a d h j _ _ _ _ _ _ (oF O (a c X O) _ _)
 ·exact d9
theorem OZ (O:Okx S F k c X)(d:∀ x,X.fn x=true){E:Cs->Expr->ME}{T:Cs->Expr->MT}(a:∀ c X,Okx S F k c X->∀ e,QE X e (E c e))(p:∀ c X,Okx S F k c X->∀ e,QT X e (T c e))(tg e:Expr)(pos:Vl) :
  QS X (.Assign [tg] e pos) (yF S E T c tg e):=by
 unfold yF
 split
 ·split
  ·rename_i l
   split
   ·rename_i i g
    have b:=pW g
    rw [<- O.N] at b
    split
    ·rename_i j
     exact Lf i O.nd (a c X O e) j b (O.own l) (.inl (d _))
    ·exact OY O d a p b l e
   ·exact d9
  ·exact d9
 ·split
  ·rename_i j
   split
   ·rename_i r g
    exact Li (a c X O e) (v9 (yI O d _ r g) O.calm) j
   ·exact d9
  ·exact d9
 ·split
  ·rename_i h
   rw [To] at h
   exact NA O.room (a c X O _) (a c X O _) (a c X O _) h.1
  ·exact d9
 ·split
  ·rename_i y q
   split
   ·rename_i h
    obtain ⟨C,m,n,o⟩:=O.ob _ y q
    exact LS (a c X O _) (a c X O _) h m n o
   ·exact d9
  ·exact d9
 ·exact d9
theorem O0 (O:Okx S F k c X)(j:∀ x,X.fn x=true){E:Cs->Expr->ME}{T:Cs->Expr->MT}(g:∀ c X,Okx S F k c X->∀ e,QE X e (E c e))(v:∀ c X,Okx S F k c X->∀ e,QT X e (T c e)){r:Stmt->MS}(i:∀ s,QS X s (r s))(st:Stmt) :
  QS X st (Dt S E T c r st):=by
 cases st with
 | Return o p=>
  cases o with
  | none=>exact LN
  | some e=>exact Lc (g c X O _)
 | If t a b p=>exact Le (v c X O _) (lH i _) (lH i _)
 | Assign n e p=>
  cases n with
  | nil=>exact d9
  | cons B G=>
   cases G with
   | nil=>exact OZ O j g v _ _ _
   | cons _ _=>exact d9
 | Expr e p=>
  show QS X _ (if iL e then eU (E c e) else cV)
  split
  ·rename_i h;exact Ld (g c X O _) h
  ·exact d9
 | For B l u d p=>
  cases d with
  | cons _ _=>exact d9
  | nil=>
   show QS X _ (if eW l then _ else cV)
   split
   ·rename_i h
    split
    ·rename_i q z
     split
     ·rename_i m
      rw [To] at m
      obtain ⟨e,y,A,pt,w⟩:=OV z
      rw [e] at h ⊢
      subst w
      exact w4 (sH ((N8 (g c X O _) m.1 m.2).h y A pt) (sZ O j _) (lH i _) O.never O.calm h) d9
     ·exact d9
    split
    ·exact w4 (sH ((w6 (g c X O _)).h _) (sZ O j _) (lH i _) O.never O.calm h) (sH (oF O (g c X O) _ _) (sZ O j _) (lH i _) O.never O.calm h)
    exact sH (oF O (g c X O) _ _) (sZ O j _) (lH i _) O.never O.calm h
   ·exact d9
 | Pass p=>exact Lb
 | _=>exact d9
theorem Du (O:Okx S F k c X)(a:∀ x,X.fn x=true)(m:Nat):∀ (n:Nat)(st:Stmt),QS X st (yH S F m c n st)
 | 0,_=>d9
 | n+1,st=>O0 O a (yD m).1 (yD m).2 (Du O a m n) st
end
noncomputable def cJ (st:Stmt):List Str:=(bS st).args.map (·.arg)
noncomputable def lI (st:Stmt):List Str:=cJ st++(bA st).names.filterMap fun y=>if (y.2 == NameKind.local||y.2 == VY)&&!(cJ st).contains y.1 then some y.1 else none
noncomputable def iP (st:Stmt):Bool:=
 decide ((bA st).kind=.function)&&!(bA st).isCoroutine&&!(bA st).isGenerator&&decide (lI st).Nodup &&
 ((cJ st).all fun x=>decide ((bA st).names.lookup x=some .local)||decide ((bA st).names.lookup x=some .cell))&&((bA st).names.all fun y=>decide (y.2≠.free))
theorem O1 {st:Stmt}(h:iP st=true):FnScope (lI st) (cJ st) (bA st):=by
 unfold iP at h
 simp only [To,decide_eq_true_eq,XE,Vd,Xf] at h
 obtain ⟨⟨⟨⟨⟨a,b⟩,c⟩,d⟩,e⟩,g⟩:=h
 exact ⟨a,b,c,d,by unfold lI;simp,e,g⟩
noncomputable def Dv:Nat:=40
noncomputable def Dw:Nat:=40
noncomputable def lk (S:Sig)(ds:List (Str×Stmt))(x:Str):Option Stmt:=match ds.lookup x with
 | some st=>some st
 | none=>S.ms.lookup x
noncomputable def yK (S:Sig)(F:Str->MF)(st:Stmt):MF:=vD (lI st).length (kI (yH S F Dv ⟨lI st,(bA st).names⟩ Dw) (bL st))
noncomputable def fA (S:Sig)(ds:List (Str×Stmt)):Nat->Str->MF
 | 0,_=>fun _ _=>none
 | k+1,x=>match lk S ds x with
  | none=>match S.mc.lookup x with
   | none=>fun _ _=>none
   | some q=>fA S ds k q.1
  | some st=>yK S (fA S ds k) st
structure DefAt (K:Ta)(mg:Str->Option Te)(x:Str)(st:Stmt):Prop where
 ex:∃ f fd,Fun K x x st f fd/\mg x=some (.ref f)/\Binds K fd (cJ st) []
noncomputable def mQ (K:Ta)(s:Option Stmt)(n:Nat)(g:Addr):Prop:=∃ a b q st,s=some st/\Fun K b q st g a/\Binds K a (cJ st) []/\(cJ st).length=n+1
structure TxtOk (P:T3)(w:Uk)(K:Ta)(mg:Str->Option Te)(S:Sig)(ds:List (Str×Stmt)):Prop where
 fns:∀ x n,S.fn.lookup x=some n->∃ st,ds.lookup x=some st/\(cJ st).length=n
 defs:∀ x st,ds.lookup x=some st->DefAt K mg x st/\iP st=true
 con:∀ x d,S.con.lookup x=some d->∃ v u,mg x=some u/\RelV v u/\∀ π n H,IsD K π n H v d
 tab:∀ x kvs,S.tab.lookup x=some kvs->∃ (p:Addr)(vs:List (aN×V))(ws:List (aN×Te)),mg x=some (.ref p)/\(∀ h:UW,K.In h->h.DictOf (l0 P w) p ws)/\KV vs ws/\∀ π n H,IsKs K π n H vs kvs
 no:∀ x,S.no.contains x=true->mg x=none
 ob:∀ f x,S.ob.lookup f=some x->∃ C,CAt K x C/\Cls K C/\NoAttr K C f
 mt:∀ m x y n,S.mt.lookup m=some (x,y,n)->∃ (C g:Addr),CAt K x C/\Cls K C/\Meth K C m g/\mQ K (lk S ds y) n g
 mc:∀ x y n,S.mc.lookup x=some (y,n)->lk S ds x=none/\∃ (C g:Addr),CAt K x C/\Mk K C g/\mQ K (lk S ds y) n g
 ms:∀ y st,S.ms.lookup y=some st->iP st=true
theorem Dx {S:Sig}{ds:List (Str×Stmt)}{x:Str}{st:Stmt}(h:ds.lookup x=some st):lk S ds x=some st:=by
 unfold lk
 rw [h]
theorem TxtOk.sc {P:T3}{w:Uk}{K:Ta}{mg:Str->Option Te}{S:Sig}{ds:List (Str×Stmt)}(T:TxtOk P w K mg S ds){x:Str}{st:Stmt}(h:lk S ds x=some st):iP st=true:=by
 unfold lk at h
 split at h
 ·rename_i a
  cases h
  exact (T.defs _ _ a).2
 ·exact T.ms _ _ h
theorem O2 {P:T3}{w:Uk}{K:Ta}{mg:Str->Option Te}{base:UW}{S:Sig}{ds:List (Str×Stmt)}(T:TxtOk P w K mg S ds)(k:Nat):∀ (x:Str)(st:Stmt)(nm q:Str)(f:Addr)(L:Vo),lk S ds x=some st->Fun K nm q st f L->
  FnOk P w K mg base dI k f L (cJ st) (dJ K (cJ st).length (fA S ds k x)):=by
 induction k using Nat.strongRecOn with
 | _ k u=>
 intro x st nm q f L Y hF
 cases k with
 | zero=>exact ⟨fun vs H Q E h=>h.1,fun A outer s H U us vs Q E Z he hb hv hs=>by
   obtain ⟨_,π,ds',μ,d,μ',R,i,hm,kc⟩:=hs
   cases hm⟩
 | succ k=>
  have ih:=u k (Ve k)
  have e:fA S ds (k+1) x=yK S (fA S ds k) st:=by
   show (match lk S ds x with|none=>_|some st=>yK S (fA S ds k) st)=_
   rw [Y]
  rw [e]
  have B:=O1 (T.sc Y)
  refine Lj hF B (by unfold lI;simp) rfl fun J A outer s H E Z=>?_
  have O:Okx S (fA S ds k) k ⟨lI st,(bA st).names⟩ (jQ dI P w K mg base (lI st) q (bA st) f J A outer s H E).nox:=by
   refine ⟨rfl,B.nd,rfl,B.kind,rfl,Z,a0l,fun y n o=>?_,T.con,fun y M q=>⟨T.tab y M q⟩,T.no
    ,T.ob,fun m y z n o=>?_,fun y z n o=>?_
    ⟩
   ·obtain ⟨a,l,r⟩:=T.fns y n o
    obtain ⟨X,b,j,m',p⟩:=(T.defs y a l).1.ex
    subst r
    exact ⟨X,b,cJ a,ih y a _ _ X b (Dx l) j,m',j.kp,p⟩
   ·obtain ⟨C,g,G,I,c3,b,c,N,a,l,j,p,r⟩:=T.mt m y z n o
    have:=ih z a c N g b l j
    rw [r] at this
    exact ⟨C,g,b,cJ a,G,I,c3,this,p⟩
   ·obtain ⟨h0,C,g,G,I,b,c,N,a,l,j,p,r⟩:=T.mc y z n o
    cases k with
    | zero=>exact .inl fun _ _=>rfl
    | succ v=>
     have:=u v (by omega) z a c N g b l j
     rw [r] at this
     have e3:fA S ds (v+1) y=fA S ds v z:=by
      show (match lk S ds y with|none=>(match S.mc.lookup y with|none=>fun _ _=>none|some q=>fA S ds v q.1)|some st=>_)=_
      rw [h0]
      dsimp only
      rw [o]
     rw [<- e3] at this
     exact .inr ⟨v,C,g,b,cJ a,rfl,G,I,this,p⟩
  exact lH (Du O (fun _=>rfl) Dv Dw) (bL st)
theorem O3 {P:T3}{w:Uk}{K:Ta}{mg:Str->Option Te}{base:UW}{S:Sig}{ds:List (Str×Stmt)}(T:TxtOk P w K mg S ds)(k:Nat)(x:Str)(st:Stmt)(f:Addr)(a:Vo)(c:ds.lookup x=some st)(b:Fun K x x st f a) :
  FnOk P w K mg base dI k f a (cJ st) (dJ K (cJ st).length (fA S ds k x)):=O2 T k x st x x f a (Dx c) b
theorem Dy:∀ {ns:List Int}{b:Nat},Xk (ns.map Xa)<=b->∀ n∈ns,Uj n<=b
 | [],_,_,n,a=>nomatch a
 | m::ns,b,h,n,a=>by
  have e:Xk ((m::ns).map Xa)=YY (.int m)+1+Xk (ns.map Xa):=rfl
  have c:YY (.int m)=Uj m:=rfl
  rw [e,c] at h
  rcases T1.mp a with rfl|a
  ·omega
  ·exact Dy (b:=b) (by omega) n a
section
open PySem PySem.W PySem.Calls PyProof.Rows
theorem O4 {l:a0L}{n:Nat}{q:T3}{loose:List Str}{XP:(Str->Option Te)->UW->Prop}{YP:Uk->UW->Prop}{d:DefRec}
  (U:l.most=some n)(y:d.params.defaults=[])
  (call:∀ (w:Uk)(s₀ b:Th)(mg B:Str->Option Te)(g:Addr)(o:Obj)(E s c:Te)(a:Addr)(vs:List Te)(ns:List Int),
   Ground q loose [] XP w s₀ mg B b.heap->YP w b.heap->
   b.heap.get? g=some o->o.data=.func (docDef d.name d.params d.body d.scope E s c)->b.heap.CodeRec s d.name->mg d.name=some (.ref g)->
   b.heap.get? a=some { cls:=.type "list",data:=.seq vs.toArray }->Yn vs ns->ns.length<=n->(∀ m∈ns,Uj m<=2 ^ 20)->b.gens = #[]->
   XC (T7 l.prog w) Zc (.call (.ref g) ⟨[.ref a],[]⟩) (fun r u=>r=.ok (.ret (.bool true))/\OldK b.heap u.heap/\u.os=b.os/\YE u.gens) b) :
  a1u q loose XP YP l.row.toRowW d [] (fun f vs=>a2A f vs):=by
 intro w s₀ b mg B G Y g o E s c K kV X hd x I z Q H J as p h hrd A R
 obtain rfl:K=.none:=Dflts.none I y
 obtain rfl:kV=.none:=Dflts.noKw I
 obtain ⟨a,vs,ns,rfl,rfl,j,e,i⟩:=Att.script_of U p A
 have O:∀ m∈ns,Uj m<=2 ^ 20:=by
  have v:YS (.list (ns.map Xa))=true:=by
   have:=h
   unfold a2B at this
   simpa using this
  unfold YS at v
  rw [To] at v
  exact Dy (of_decide_eq_true v.2)
 refine enter_call (Zb (call w s₀ b mg B g o E s c a vs ns G Y X (fd_plain hd) x z j e i O Q) fun r u Z=>?_)
 obtain ⟨rfl,L,M,N⟩:=Z
 exact ⟨.inl ⟨.bool true,.bool true,[],rfl,fun _=>rfl,.bool true,Att.post_true l _,fun _=>⟨a2G,fun _ T=>(nomatch T)⟩⟩,L,M,N⟩
end
theorem walkM {l:a0L}{q:T3}{loose:List Str}{XP:(Str->Option Te)->UW->Prop}{YP:Uk->UW->Prop}{d:DefRec}{K:Vr->Ta}{S:Sig}{ds:List (Str×Stmt)}{k:Nat}{st:Stmt}{x:Str}(hn:l.most=some 63)(J:d.params.defaults=[])
  (hr:Room k Zc)(hY:∀ (w:Uk)(h:UW),YP w h->(K w.params).In h)(hl:ds.lookup d.name=some st)(hx:cJ st=[x])
  (T:∀ (w:Uk)(mg:Str->Option Te)(h:UW),(K w.params).In h->h.Ns US mg->TxtOk l.prog w (K w.params) mg S ds/\∃ f E,Fun (K w.params) d.name d.name st f E/\mg d.name=some (.ref f)/\∀ (s:Th)(u:Te),Zg s E ⟨[u],[]⟩ [(x,u)])
  (M:∀ b:List Int,b.length<=63->(∀ m∈b,Uj m<=2 ^ 20)->∃ p,fA S ds k d.name [.rol (b.map D.int)] []=some (.bl true,p)) :
  a1u q loose XP YP l.row.toRowW d [] (fun f Z=>a2A f Z):=by
 refine O4 hn J fun w U X mg mb fa o pm cd doc a Z b G Y ho hd hcd N A g c I hg=>?_
 have Q:=hY w _ Y
 obtain ⟨hT,f,E,hF,R,hb⟩:=T w mg _ Q G.T.g
 rw [N] at R
 cases R
 refine L2.law_call (CX:=dI) (sp:=dJ (K w.params) 1 (fA S ds k d.name)) Q G.T.g G.T.b G.T.builtins G.T.nolimit hg A g (UE c (by decide)) hr (fun y hb1 hb2=>?_) hb (fun H hO hS=>?_) fun H e s' z=>z
 ·have:=O3 (base:=y) hT k d.name st fa E hl hF
  rw [hx] at this
  exact this
 ·refine ⟨rfl,fun _=>0,[.rol (b.map D.int)],[],.bl true,?_⟩
  obtain ⟨p,hM⟩:=M b c I
  have O:RoL (K w.params) H a (b.map V.int):=by
   rcases hS with (h|h)|h
   ·rcases hO a with z|⟨o,B,z⟩
    ·rw [z] at h;cases h
    ·rw [z] at h;cases h
   ·exact .inl h
   ·exact .inr h
  refine ⟨p,⟨fun i j L=>absurd L (WJ _),fun i L=>absurd L (WJ _),fun i B h=>(by cases h),fun i B h=>(by cases h),fun i B h=>(by cases h)
   ,fun i B h=>(by cases h)
   ,fun i B h=>(by cases h)
   ,fun i x fs h=>(by cases h)
   ⟩,.cons (.rol O ?_) .nil,hM,fun π' v H' _ _ hv=>?_⟩
  ·have:∀ b:List Int,IsDs (K w.params) (fun _=>0) ([]:Hm).length H (b.map V.int) (b.map D.int):=fun b=>by
    induction b with
    | nil=>exact .nil
    | cons n r ih=>exact .cons (.int n) ih
   exact this b
  ·cases hv
   rfl
end L3
namespace L3
open PySem L2
theorem lJ {a:Type}:∀ {l:List (Str×a)}{x:Str}{b:a},l.lookup x=some b->(x,b)∈l:=fun h=>U0 h
theorem O5 {S:Sig}{ds:List (Str×Stmt)}(h:(S.fn.all fun p=>match ds.lookup p.1 with|some st=>decide ((cJ st).length=p.2)|none=>false)=true):∀ x n,S.fn.lookup x=some n->∃ st,ds.lookup x=some st/\(cJ st).length=n:=by
 intro x n e
 have:=Vd.mp h (x,n) (lJ e)
 dsimp only at this
 split at this
 ·rename_i st a
  exact ⟨st,a,of_decide_eq_true this⟩
 ·cases this
theorem O6 {K:Ta}{mg:Str->Option Te}{ds:List (Str×Stmt)}(h:∀ p∈ds,DefAt K mg p.1 p.2/\iP p.2=true):∀ x st,ds.lookup x=some st->DefAt K mg x st/\iP st=true:=fun x st e=>h (x,st) (lJ e)
theorem O7 {K:Ta}{mg:Str->Option Te}{a:List (Str×D)}(h:∀ p∈a,∃ v u,mg p.1=some u/\RelV v u/\∀ π n H,IsD K π n H v p.2):∀ x d,a.lookup x=some d->∃ v u,mg x=some u/\RelV v u/\∀ π n H,IsD K π n H v d:=fun x d e=>h (x,d) (lJ e)
inductive EntsOf (w:Uk):List UH->List (aN×Te)->Prop where
 | nil:EntsOf w [] []
 | cons {e:UH}{k:aN}{v:Te}{es:List UH}{kvs:List (aN×Te)}(h:uH k e.key=true)(hh:e.hash=zW w k)(hv:e.val=v)(t:EntsOf w es kvs):EntsOf w (e::es) ((k,v)::kvs)
theorem EntsOf.keys {P:T3}{w:Uk}{c:List UH}{b:List (aN×Te)}(x:EntsOf w c b):∀ e∈c,∃ k,(l0 P w).is k e.key=true/\e.hash=(l0 P w).hash k:=by
 induction x with
 | nil=>intro e a;exact nomatch a
 | @cons e k v c b h g j _ i=>
  intro d a
  rcases T1.mp a with rfl|a
  ·exact ⟨k,h,g⟩
  ·exact i d a
theorem O8 {mg:Str->Option Te}{ns:List Str}(h:∀ x∈ns,mg x=none):∀ x,ns.contains x=true->mg x=none:=fun x e=>h x (by simpa using e)
noncomputable def oH:Nat->(Nat->Te)->List Te
 | 0,_=>[]
 | n+1,u=>u 0::oH n fun i=>u (i+1)
theorem yL:∀ us:List Te,∃ u,us=oH us.length u
 | []=>⟨fun _=>.none,rfl⟩
 | v::us=>let ⟨u,a⟩:=yL us;⟨fun i=>match i with|0=>v|i+1=>u i,congrArg (v::·) a⟩
noncomputable abbrev Dz:Type:=Te->Te->Te->Option Addr->Te->Te->(Nat->Te)->a1a (List (Str×Te))
noncomputable def O9 (x:Str)(st:Stmt)(m:Te)(c:Addr):Obj:=⟨Tu "function",none,.func (TQ x x (bS st) (bL st) (bA st) .none .none .none m none (.ref c) .none),#[]⟩
noncomputable def DA (K:Ta)(d:(Str×Stmt)×Te×Addr×Addr):Option (Option Te)×Option Obj×Bool×Bool×Bool×Dz:=(V6 K US d.1.1,K.lookup d.2.2.2,Xj K (.ref d.2.2.1) d.1.1,Va K (.ref d.2.2.2),iP d.1.2,fun kV b c an a ct u=>Z5 (TQ d.1.1 d.1.1 (bS d.1.2) (bL d.1.2) (bA d.1.2) .none kV b c an a ct) ⟨oH (cJ d.1.2).length u,[]⟩)
noncomputable def DB (d:(Str×Stmt)×Te×Addr×Addr):Option (Option Te)×Option Obj×Bool×Bool×Bool×Dz:=(some (some (.ref d.2.2.2)),some (O9 d.1.1 d.1.2 d.2.1 d.2.2.1),true,true,true,fun _ _ _ _ _ _ u=>pure ((cJ d.1.2).zip (oH (cJ d.1.2).length u)))
noncomputable def tB (K:Ta)(d:Str×Stmt):(Str×Stmt)×Te×Addr×Addr:=(d,match V6 K US d.1 with
 | some (some (.ref f))=>(match K.lookup f with
  | some ⟨_,_,.func fd,_⟩=>(match fd.code with
   | .ref c=>(fd.pyModule,c,f)
   | _=>(.none,0,0))
  | _=>(.none,0,0))
 | _=>(.none,0,0))
noncomputable def tD (K:Ta)(ds:List (Str×Stmt)):Prop:=ds.map (fun d=>DA K (tB K d))=ds.map fun d=>DB (tB K d)
theorem DC {K:Ta}{h:UW}{mg:Str->Option Te}(X:K.In h)(G:h.Ns US mg){ds:List (Str×Stmt)}(q:tD K ds):∀ p∈ds,(DefAt K mg p.1 p.2/\iP p.2=true)/\∃ f i,Fun K p.1 p.1 p.2 f i/\mg p.1=some (.ref f)/\∀ us:List Te,us.length=(cJ p.2).length->Z5 i ⟨us,[]⟩=pure ((cJ p.2).zip us):=by
 intro g o
 have t:=a1o.mp q g o
 have e:(tB K g).1=g:=rfl
 generalize tB K g=d at t e
 obtain ⟨p,m,c,f⟩:=d
 cases e
 unfold DA DB at t
 obtain ⟨a,t⟩:=X3 t
 obtain ⟨l,t⟩:=X3 t
 obtain ⟨c,t⟩:=X3 t
 obtain ⟨k,t⟩:=X3 t
 obtain ⟨s,b⟩:=X3 t
 have F:=AN (st:=p.2) l c k
 have D:=fun kV doc pm an cdv ct (us:List Te)(n:us.length=(cJ p.2).length)=>(by
  obtain ⟨u,j⟩:=yL us
  rw [n] at j
  rw [j]
  exact congrFun (congrFun (congrFun (congrFun (congrFun (congrFun (congrFun b kV) doc) pm) an) cdv) ct) u:Z5 (TQ p.1 p.1 (bS p.2) (bL p.2) (bA p.2) .none kV doc pm an cdv ct) ⟨us,[]⟩=pure ((cJ p.2).zip us))
 exact ⟨⟨⟨_,_,F,Yc X G a,Binds.all (D _ _ _ _ _ _)⟩,s⟩,_,_,F,Yc X G a,D _ _ _ _ _ _⟩
theorem Pa {K:Ta}{h:UW}{mg:Str->Option Te}(X:K.In h)(G:h.Ns US mg){ds:List (Str×Stmt)}(q:tD K ds){x y:Str}{st:Stmt}(c:ds.lookup x=some st)(d:cJ st=[y]):∃ f a,Fun K x x st f a/\mg x=some (.ref f)/\∀ (s:Th)(u:Te),Zg s a ⟨[u],[]⟩ [(y,u)]:=by
 obtain ⟨f,a,F,m,b⟩:=(DC X G q (x,st) (lJ c)).2
 dsimp only at b
 rw [d] at b
 exact ⟨f,a,F,m,fun s u=>.of_eq (b [u] rfl)⟩
theorem Pb {K:Ta}{h:UW}{mg:Str->Option Te}(X:K.In h)(G:h.Ns US mg){ns:List Str}(q:ns.map (V6 K US)=ns.map fun _=>some none):∀ x∈ns,mg x=none:=fun x a=>PySem.W.mg_none_of X G (a1o.mp q x a)
noncomputable def qD {c d:Type}(f:c->d->Bool):List c->List d->Bool
 | [],[]=>true
 | a::as,b::bs=>f a b&&qD f as bs
 | _,_=>false
noncomputable def qE (K:Ta):Nat->Te->D->Bool
 | 0,_,_=>false
 | k+1,u,d=>match d with
  | .non=>(match u with|.none=>true|_=>false)
  | .bl b=>(match u with|.bool c=>decide (b=c)|_=>false)
  | .int i=>(match u with|.int j _=>decide (i=j)|_=>false)
  | .str x=>(match u with|.str y _=>decide (x=y)|_=>false)
  | .tup ds=>(match u with
   | .ref p=>(match K.lookup p with
    | some ⟨.type t,none,.seq its _,_⟩=>decide (t = "tuple")&&decide (its.size<=1000)&&qD (qE K k) its.toList ds
    | _=>false)
   | _=>false)
  | .rol ds=>(match u with
   | .ref p=>(match K.lookup p with
    | some ⟨.type t,none,.seq its _,_⟩=>decide (t = "list")&&decide (its.size<=1000)&&qD (qE K k) its.toList ds
    | _=>false)
   | _=>false)
  | _=>false
theorem DD {K:Ta}{f:Te->D->Bool}(h:∀ u d,f u d=true->∃ v,RelV v u/\∀ π n H,IsD K π n H v d):∀ us ds,qD f us ds=true->∃ vs,Vals vs us/\∀ π n H,IsDs K π n H vs ds
 | [],[],_=>⟨[],.nil,fun _ _ _=>.nil⟩
 | u::us,d::ds,e=>by
  obtain ⟨a,b⟩:=Ws.mp e
  obtain ⟨v,r,q⟩:=h u d a
  obtain ⟨vs,g,c⟩:=DD h us ds b
  exact ⟨v::vs,.cons r g,fun _ _ _=>.cons (q _ _ _) (c _ _ _)⟩
 | [],_::_,e=>nomatch e
 | _::_,[],e=>nomatch e
theorem DE {K:Ta}:∀ (k:Nat)(u:Te)(d:D),qE K k u d=true->∃ v,RelV v u/\∀ π n H,IsD K π n H v d
 | 0,_,_,e=>nomatch e
 | k+1,u,d,e=>by
  have seq:∀ {p:Addr}{ds:List D}{c:String},(match K.lookup p with|some ⟨.type t,none,.seq g _,_⟩=>decide (t=c)&&decide (g.size<=1000)&&qD (qE K k) g.toList ds|_=>false)=true->∃ h g n l,K.lookup p=some ⟨.type c,none,.seq g n,l⟩/\g.size<=TC/\Vals h g.toList/\∀ π n H,IsDs K π n H h ds:=fun {p ds c} e=>by
   split at e
   ·rename_i t g n l j
    obtain ⟨e,q⟩:=Ws.mp e
    obtain ⟨a,b⟩:=Ws.mp e
    cases of_decide_eq_true a
    obtain ⟨h,r,i⟩:=DD (DE k) _ _ q
    exact ⟨h,g,n,l,j,UE (of_decide_eq_true b) (by decide),r,i⟩
   ·cases e
  cases d with
  | non=>cases u with
   | none=>exact ⟨.non,rfl,fun _ _ _=>.non⟩
   | _=>cases e
  | bl b=>cases u with
   | bool c=>cases of_decide_eq_true e;exact ⟨.bl b,rfl,fun _ _ _=>.bl _⟩
   | _=>cases e
  | int b=>cases u with
   | int c=>cases of_decide_eq_true e;exact ⟨.int b,⟨_,rfl⟩,fun _ _ _=>.int _⟩
   | _=>cases e
  | str b=>cases u with
   | str c=>cases of_decide_eq_true e;exact ⟨.str b,⟨_,rfl⟩,fun _ _ _=>.str _⟩
   | _=>cases e
  | tup ds=>cases u with
   | ref p=>
    obtain ⟨h,g,n,l,j,m,r,i⟩:=seq e
    exact ⟨.ref p,rfl,fun _ _ _=>.tup (vs:=h) (.inr ⟨_,g,n,j,rfl,rfl,rfl,m,r⟩) (i _ _ _)⟩
   | _=>cases e
  | rol ds=>cases u with
   | ref p=>
    obtain ⟨h,g,n,l,j,m,r,i⟩:=seq e
    exact ⟨.ref p,rfl,fun _ _ _=>.rol (vs:=h) (.inr ⟨_,g,n,j,rfl,rfl,rfl,m,r⟩) (i _ _ _)⟩
   | _=>cases e
  | _=>cases e
noncomputable def DF (K:Ta)(a:List (Str×D)):Bool:=a.all fun c=>match V6 K US c.1 with|some (some u)=>qE K 8 u c.2|_=>false
theorem Pc {K:Ta}{h:UW}{mg:Str->Option Te}(X:K.In h)(G:h.Ns US mg){a:List (Str×D)}(q:DF K a=true):∀ p∈a,∃ v u,mg p.1=some u/\RelV v u/\∀ π n H,IsD K π n H v p.2:=fun p b=>by
 have t:=Vd.mp q p b
 split at t
 ·rename_i u c
  obtain ⟨v,r,i⟩:=DE _ _ _ t
  exact ⟨v,u,Yc X G c,r,i⟩
 ·cases t
end L3
namespace L3
open PySem L2
noncomputable def gC (K:Ta)(x:Str):Addr:=match V6 K US x with
 | some (some (.ref C))=>C
 | _=>0
noncomputable def qF (K:Ta)(x:Str):Bool:=V6 K US x == some (some (.ref (gC K x)))&&WW K (gC K x) Str.empty&&Xv K (gC K x)&&Yr K (gC K x) &&
 U1 K (.ref (gC K x)) "__setattr__" == some (some (.builtin "object.__setattr__"))
theorem qG {K:Ta}{x:Str}(h:qF K x=true):CAt K x (gC K x)/\Cls K (gC K x):=by
 unfold qF at h
 rw [To,To,To,To,beq_iff_eq,beq_iff_eq] at h
 obtain ⟨⟨⟨⟨a,b⟩,c⟩,d⟩,e⟩:=h
 exact ⟨a,b,c,d,e⟩
theorem Pd {K:Ta}{L:List (Str×Str)}(h:(L.all fun p=>qF K p.2&&U1 K (.ref (gC K p.2)) p.1 == some none)=true):∀ f x,L.lookup f=some x->∃ C,CAt K x C/\Cls K C/\NoAttr K C f:=fun f x e=>by
 have:=Vd.mp h (f,x) (lJ e)
 rw [To,beq_iff_eq] at this
 exact ⟨_,(qG this.1).1,(qG this.1).2,this.2⟩
noncomputable def kJ (K:Ta)(x m:Str):Addr:=match U1 K (.ref (gC K x)) m with
 | some (some (.ref g))=>g
 | _=>0
noncomputable def yM (K:Ta)(g:Addr):Te×Te×Addr:=match K.lookup g with
 | some ⟨_,_,.func fd,_⟩=>(match fd.code with
  | .ref c=>(fd.defaults,fd.pyModule,c)
  | _=>(.none,.none,0))
 | _=>(.none,.none,0)
noncomputable def DG (x a:Str)(st:Stmt)(q:Te×Te×Addr):Vo:=TQ x a (bS st) (bL st) (bA st) q.1 .none .none q.2.1 none (.ref q.2.2) .none
noncomputable def DH (K:Ta)(x m a:Str)(st:Stmt)(n:Nat):Bool:=U1 K (.ref (gC K x)) m == some (some (.ref (kJ K x m)))&&Yt K (.ref (kJ K x m))&&Va K (.ref (kJ K x m)) &&
 Xj K (.ref (yM K (kJ K x m)).2.2) a&&decide ((cJ st).length=n+1)
noncomputable abbrev yN (K:Ta)(x m a:Str)(st:Stmt)(n:Nat):Prop:=DH K x m a st n=true/\K.lookup (kJ K x m)=some ⟨.type "function",none,.func (DG m a st (yM K (kJ K x m))),#[]⟩ /\
 (fun S u=>PySem.W.peek K S (Z5 (DG m a st (yM K (kJ K x m))) ⟨oH (n+1) u,[]⟩))=fun _ u=>some ((cJ st).zip (oH (n+1) u))
theorem DI {K:Ta}{x m a:Str}{st:Stmt}{n:Nat}(h:yN K x m a st n):Meth K (gC K x) m (kJ K x m)/\mQ K (some st) n (kJ K x m):=by
 obtain ⟨h,o,l⟩:=h
 unfold DH at h
 rw [To,To,To,To,beq_iff_eq,decide_eq_true_eq] at h
 obtain ⟨⟨⟨⟨g,i⟩,b⟩,j⟩,c⟩:=h
 refine ⟨⟨g,i,b⟩,_,m,a,st,rfl,AN (st:=st) o j b,fun s p X d=>?_,c⟩
 rw [UM] at d ⊢
 obtain ⟨u,e⟩:=yL p
 rw [d,c] at e
 rw [e]
 exact PySem.W.kp_binds X fun S=>congrFun (congrFun l S) u
theorem Pe {K:Ta}{S:Sig}{ds:List (Str×Stmt)}(h:∀ p∈S.mt,qF K p.2.1=true/\∃ a st,lk S ds p.2.2.1=some st/\yN K p.2.1 p.1 a st p.2.2.2):∀ m x y n,S.mt.lookup m=some (x,y,n)->∃ (C g:Addr),CAt K x C/\Cls K C/\Meth K C m g/\mQ K (lk S ds y) n g:=fun m x y n e=>by
 obtain ⟨b,a,st,c,d⟩:=h (m,x,y,n) (lJ e)
 dsimp only at b c d
 rw [c]
 exact ⟨_,_,(qG b).1,(qG b).2,DI d⟩
theorem Pf {K:Ta}{S:Sig}{ds:List (Str×Stmt)}(h:∀ p∈S.mc,qF K p.1=true/\lk S ds p.1=none/\(YJ K (gC K p.1)&&Va K (.ref (gC K p.1)))=true/\∃ b st,lk S ds p.2.1=some st/\yN K p.1 "__init__" b st p.2.2) :
  ∀ x y n,S.mc.lookup x=some (y,n)->lk S ds x=none/\∃ (C g:Addr),CAt K x C/\Mk K C g/\mQ K (lk S ds y) n g:=fun x y n e=>by
 obtain ⟨d,i,c,b,st,j,l⟩:=h (x,y,n) (lJ e)
 dsimp only at d i c j l
 rw [j]
 rw [To] at c
 obtain ⟨m,a⟩:=DI l
 exact ⟨i,_,_,(qG d).1,⟨c.1,m.at_,m.fn,c.2⟩,a⟩
theorem Pg {L:List (Str×Stmt)}(h:(L.all fun p=>iP p.2)=true):∀ y st,L.lookup y=some st->iP st=true:=fun y st e=>Vd.mp h (y,st) (lJ e)
end L3
namespace L3
open PySem L2
noncomputable def W {a:Type}(o:Option a)(Q:a->Prop):Prop:=∃ r,o=some r/\Q r
section
variable {α β:Type}{o:Option α}{Q:α->Prop}
theorem W_some {r:α}{Q:α->Prop}:W (some r) Q↔Q r:=⟨fun ⟨_,h,q⟩=>by cases h;exact q,fun q=>⟨r,rfl,q⟩⟩
theorem W_none {Q:α->Prop}:W none Q↔False:=⟨fun ⟨_,h,_⟩=>(by cases h),fun h=>h.elim⟩
theorem W_bind {g:α->Option β}{Q:β->Prop}:W (o.bind g) Q↔W o fun r=>W (g r) Q:=by
 cases o with
 | none=>exact ⟨fun ⟨_,h,_⟩=>(by cases h),fun ⟨_,h,_⟩=>(by cases h)⟩
 | some a=>simp [W_some]
theorem jH {g:α->β}{Q:β->Prop}:W (o.map g) Q↔W o fun r=>Q (g r):=by
 cases o with
 | none=>exact ⟨fun ⟨_,h,_⟩=>(by cases h),fun ⟨_,h,_⟩=>(by cases h)⟩
 | some a=>simp [W_some]
theorem bO {a:α->Prop}(h:W o Q)(k:∀ r,Q r->a r):W o a:=let ⟨r,e,q⟩:=h;⟨r,e,k r q⟩
theorem tE {c:Prop} [Decidable c] {a b:Option α}:W (if c then a else b) Q↔if c then W a Q else W b Q:=by split<;>rfl
end
noncomputable def aS:Option (Fl×aI×Hm)->Option (D×Hm):=fun o=>o.bind fun p=>match p.1 with|.rt d=>some (d,p.2.2)|.nx=>some (.non,p.2.2)|_=>none
theorem W_fin {o:Option (Fl×aI×Hm)}{Q:D×Hm->Prop}:W (aS o) Q↔W o fun p=>match p.1 with|.rt d=>Q (d,p.2.2)|.nx=>Q (.non,p.2.2)|_=>False:=by
 unfold aS
 rw [W_bind]
 constructor
 ·exact fun h=>bO h fun p q=>by
   obtain ⟨a,c,b⟩:=p
   cases a<;>simpa [W_some,W_none] using q
 ·exact fun h=>bO h fun p q=>by
   obtain ⟨a,c,b⟩:=p
   cases a<;>simpa [W_some,W_none] using q
theorem aP {b μ':Hm}(h:b <+: μ'){a:Nat}{c:C}(e:b[a]? = some c):μ'[a]? = some c:=by
 obtain ⟨t,rfl⟩:=h
 have d:=(Tf.mp e).1
 rw [TR d]
 exact e
theorem bD (a:Hm)(c:C):a <+: a++[c]:=⟨[c],rfl⟩
theorem fL {b μ':Hm}(h:b <+: μ'){a:Nat}(d:b.length<=a)(c:C):b <+: μ'.set a c:=by
 obtain ⟨t,rfl⟩:=h
 rw [W3 _ _ d]
 exact ⟨_,rfl⟩
theorem bH {a b:MS}{d:aI}{c:Hm} {Q}:W (aK a b d c) Q↔W (a d c) fun p=>match p.1 with|.nx=>W (b p.2.1 p.2.2) Q|_=>Q p:=by
 unfold aK
 rw [W_bind]
 constructor
 ·exact fun h=>bO h fun p q=>by
   obtain ⟨e,d,c⟩:=p
   cases e<;>simpa [W_some,W_none] using q
 ·exact fun h=>bO h fun p q=>by
   obtain ⟨e,d,c⟩:=p
   cases e<;>simpa [W_some,W_none] using q
theorem w_mRet {m:ME}{a:aI}{b:Hm} {Q}:W (bC m a b) Q↔W (m a b) fun p=>Q (.rt p.1,a,p.2):=jH
theorem mR {m:ME}{a:aI}{b:Hm} {Q}:W (eU m a b) Q↔W (m a b) fun p=>Q (.nx,a,p.2):=jH
theorem b7 {i:Nat}{m:ME}{a:aI}{b:Hm} {Q}:W (aQ i m a b) Q↔W (m a b) fun p=>Q (.nx,a.set i (some p.1),p.2):=jH
theorem dE {b:aI}{a:Hm} {Q}:W (bM b a) Q↔Q (.nx,b,a):=W_some
theorem c7 {t:MT}{a b:MS}{c:aI}{d:Hm} {Q}:W (bN t a b c d) Q↔W (t c d) fun p=>if p.1=true then W (a c p.2) Q else W (b c p.2) Q:=by
 unfold bN
 rw [W_bind]
 constructor<;>exact fun h=>bO h fun p q=>by
   obtain ⟨x,d⟩:=p
   cases x<;>simpa using q
theorem oI {t:MT}{a b:ME}{c:aI}{d:Hm} {Q}:W (gQ t a b c d) Q↔W (t c d) fun p=>if p.1=true then W (a c p.2) Q else W (b c p.2) Q:=by
 unfold gQ
 rw [W_bind]
 constructor<;>exact fun h=>bO h fun p q=>by
   obtain ⟨x,d⟩:=p
   cases x<;>simpa using q
theorem yO {a b:MT}{d:aI}{c:Hm} {Q}:W (gP a b d c) Q↔W (a d c) fun p=>if p.1=true then W (b d p.2) Q else Q (false,p.2):=by
 unfold gP
 rw [W_bind]
 constructor<;>exact fun h=>bO h fun p q=>by
   obtain ⟨x,c⟩:=p
   cases x<;>simpa [W_some] using q
theorem qH {a b:MT}{d:aI}{c:Hm} {Q}:W (eT a b d c) Q↔W (a d c) fun p=>if p.1=true then Q (true,p.2) else W (b d p.2) Q:=by
 unfold eT
 rw [W_bind]
 constructor<;>exact fun h=>bO h fun p q=>by
   obtain ⟨x,c⟩:=p
   cases x<;>simpa [W_some] using q
theorem tF {a:MT}{c:aI}{b:Hm} {Q}:W (iX a c b) Q↔W (a c b) fun p=>Q (!p.1,p.2):=jH
theorem a9 {f:D->D->Hm->Option (D×Hm)}{a b:ME}{c:aI}{d:Hm} {Q}:W (aB f a b c d) Q↔W (a c d) fun p=>W (b c p.2) fun q=>W (f p.1 q.1 q.2) Q:=by
 unfold aB
 rw [W_bind]
 simp only [W_bind]
theorem bB {d:D}{b:aI}{a:Hm} {Q}:W (mC d b a) Q↔Q (d,a):=W_some
theorem aF {d:D}{b:aI}{a:Hm} {Q}:W (aA 0 (some d::b) a) Q↔Q (d,a):=by
 show W (some (d,a)) Q↔_
 exact W_some
theorem aJ {i:Nat}{x:Option D}{b:aI}{a:Hm} {Q}:W (aA (i+1) (x::b) a) Q↔W (aA i b a) Q:=by
 unfold aA
 rw [ZO]
theorem aR {b:aI}{a:Hm} {Q}:W (aD b a) Q↔Q ([],a):=W_some
theorem aU {a:ME}{r:MA}{b:aI}{c:Hm} {Q}:W (aC a r b c) Q↔W (a b c) fun p=>W (r b p.2) fun q=>Q (p.1::q.1,q.2):=by
 unfold aC
 simp only [W_bind,W_some]
theorem eM {ms:MA}{b:aI}{a:Hm} {Q}:W (bW ms b a) Q↔W (ms b a) fun p=>p.1.length<=TC/\Q (.tup p.1,p.2):=by
 unfold bW
 rw [W_bind]
 constructor<;>exact fun h=>bO h fun p q=>by
  first
  | (rw [tE] at q;split at q
     ·exact ⟨by assumption,W_some.mp q⟩
     ·exact (W_none.mp q).elim)
  | (rw [if_pos q.1];exact W_some.mpr q.2)
theorem gD {ms:MA}{b:aI}{a:Hm} {Q}:W (cU ms b a) Q↔W (ms b a) fun p=>p.1.length<=TC/\Q (.loc p.2.length,p.2++[.lst p.1]):=by
 unfold cU
 rw [W_bind]
 constructor<;>exact fun h=>bO h fun p q=>by
  first
  | (rw [tE] at q;split at q
     ·exact ⟨by assumption,W_some.mp q⟩
     ·exact (W_none.mp q).elim)
  | (rw [if_pos q.1];exact W_some.mpr q.2)
theorem bE {f:MF}{ms:MA}{b:aI}{a:Hm} {Q}:W (aG f ms b a) Q↔W (ms b a) fun p=>W (f p.1 p.2) Q:=W_bind
theorem dG {m:ME}{c:aI}{a:Hm} {Q}:W (aT m c a) Q↔W (m c a) fun p=>match p.1 with|.bl b=>Q (b,p.2)|_=>False:=by
 unfold aT
 rw [W_bind]
 constructor<;>exact fun h=>bO h fun p q=>by
  obtain ⟨d,a⟩:=p
  cases d<;>simpa [W_some,W_none] using q
theorem lK {m:ME}{c:aI}{a:Hm} {Q}:W (eY m c a) Q↔W (m c a) fun p=>W (nT p.2 p.1) fun b=>Q (b,p.2):=by
 unfold eY
 simp only [W_bind,jH]
theorem yP {a:ME}{c:aI}{b:Hm} {Q}:W (c6 a c b) Q↔W (a c b) fun p=>match p.1 with|.int i=>Q (.int (-i),p.2)|_=>False:=by
 unfold c6
 rw [W_bind]
 constructor<;>exact fun h=>bO h fun p q=>by
  obtain ⟨d,b⟩:=p
  cases d<;>simpa [W_some,W_none,jH,vO] using q
theorem Ph {a:ME}{e:aI}{c:Hm} {Q}:W (nF a e c) Q↔W (a e c) fun p=>match p.1 with|.bl b=>Q (.bl (!b),p.2)|_=>False:=by
 unfold nF
 rw [W_bind]
 constructor<;>exact fun h=>bO h fun p q=>by
  obtain ⟨d,c⟩:=p
  cases d<;>simpa [W_some,W_none] using q
theorem tG {a b:ME}{g:aI}{e:Hm} {Q}:W (iY a b g e) Q↔W (a g e) fun p=>match p.1 with|.bl c=>if c=true then W (b g p.2) Q else Q (.bl false,p.2)|_=>False:=by
 unfold iY
 rw [W_bind]
 constructor<;>exact fun h=>bO h fun p q=>by
  obtain ⟨d,e⟩:=p
  cases d with
  | bl c=>cases c<;>simpa [W_some] using q
  | _=>simpa [W_none] using q
theorem yQ {m:ME}{g:MG}{a:aI}{c:Hm} {Q}:W (iK m g a c) Q↔W (m a c) fun p=>W (g p.1 a p.2) fun b=>Q (.nx,b,p.2):=by
 unfold iK
 simp only [W_bind,jH]
section
variable {i j:Int}{μ:Hm}{Q:D×Hm->Prop}{a b c d e g:D}
theorem fM:W (bK (.int i) (.int j) μ) Q↔Q (.int (i+j),μ):=W_some
theorem qI:W (cQ (.int i) (.int j) μ) Q↔Q (.int (i - j),μ):=W_some
theorem dP (h:0<j):W (bJ (.int i) (.int j) μ) Q↔Q (.int (i % j),μ):=by
 show W ((if 0<j then some (i % j) else none).map fun z=>(D.int z,μ)) Q↔_
 rw [if_pos h]
 exact W_some
theorem Pj:(1073741824:Int)<2 ^ 4000:=by decide +kernel
theorem Pk (h:0<j)(l:j<2 ^ 4000):W (dS (.int i) (.int j) μ) Q↔Q (.int (i / j),μ):=by
 show W ((if 0<j/\j<2 ^ 4000 then some (i / j) else none).map fun z=>(D.int z,μ)) Q↔_
 rw [if_pos ⟨h,l⟩]
 exact W_some
theorem jI (h:0<j)(l:j<1073741824):W (dS (.int i) (.int j) μ) Q↔Q (.int (i / j),μ):=Pk h (Int.lt_trans l Pj)
theorem jJ (h:(-(2 ^ 64)<i/\i<2 ^ 64)\/(-(2 ^ 64)<j/\j<2 ^ 64)):W (bX (.int i) (.int j) μ) Q↔Q (.int (i * j),μ):=by
 show W ((if ((-(2 ^ 64)<i/\i<2 ^ 64)\/(-(2 ^ 64)<j/\j<2 ^ 64))\/(i.natAbs<2 ^ 4000/\j.natAbs<2 ^ 4000)\/Uj i+Uj j<=134217728 then some (i * j) else none).map fun z=>(D.int z,μ)) Q↔_
 rw [if_pos (.inl h)]
 exact W_some
theorem DJ (h:0<=j/\j<=1000000/\i.natAbs<2 ^ 64):W (gT (.int i) (.int j) μ) Q↔Q (.int (i ^ j.toNat),μ):=by
 show W ((if (0<=j/\j<=1000000/\i.natAbs<2 ^ 64)\/(0<=j/\j<=100/\i.natAbs<2 ^ 4000) then some (i ^ j.toNat) else none).map fun z=>(D.int z,μ)) Q↔_
 rw [if_pos (.inl h)]
 exact W_some
theorem w_eqI:W (a8 false (.int i) (.int j) μ) Q↔Q (.bl (i == j),μ):=W_some
theorem Pl:W (a8 true (.int i) (.int j) μ) Q↔Q (.bl (!(i == j)),μ):=W_some
theorem Pm {x y:Str}:W (a8 false (.str x) (.str y) μ) Q↔Q (.bl (x == y),μ):=W_some
theorem DK {x y:Str}:W (a8 true (.str x) (.str y) μ) Q↔Q (.bl (!(x == y)),μ):=W_some
theorem DL:W (nJ (.int i) (.int j) μ) Q↔Q (.bl (decide (i<j)),μ):=W_some
theorem Pn:W (kW (.int i) (.int j) μ) Q↔Q (.bl (decide (i<=j)),μ):=W_some
theorem DM:W (kX (.int i) (.int j) μ) Q↔Q (.bl (decide (j<i)),μ):=W_some
theorem lL:W (aH (.tup [a,b]) (.int 0) μ) Q↔Q (a,μ):=W_some
theorem hW:W (aH (.tup [a,b]) (.int 1) μ) Q↔Q (b,μ):=W_some
theorem Po:W (aH (.tup [a,b,c,d,e,g]) (.int 0) μ) Q↔Q (a,μ):=W_some
theorem Pp:W (aH (.tup [a,b,c,d,e,g]) (.int 1) μ) Q↔Q (b,μ):=W_some
theorem Pq:W (aH (.tup [a,b,c,d,e,g]) (.int 2) μ) Q↔Q (c,μ):=W_some
theorem Pr:W (aH (.tup [a,b,c,d,e,g]) (.int 3) μ) Q↔Q (d,μ):=W_some
theorem Pt:W (aH (.tup [a,b,c,d,e,g]) (.int 4) μ) Q↔Q (e,μ):=W_some
theorem Pu:W (aH (.tup [a,b,c,d,e,g]) (.int 5) μ) Q↔Q (g,μ):=W_some
theorem kK {b:Bool}{Q:Bool->Prop}:W (nT μ (.bl b)) Q↔Q b:=W_some
end
theorem tH {b:Hm}{a:Nat}{xs:List D}{i:Int}{d:D}{Q:D×Hm->Prop}(h:b[a]? = some (.lst xs))(c:atI xs i=some d):W (aH (.loc a) (.int i) b) Q↔Q (d,b):=by
 have:aH (.loc a) (.int i) b=some (d,b):=by
  simp only [aH,fE,bP,h,TZ,c,Ub]
 rw [this]
 exact W_some
end L3
namespace L3
open PySem L2
theorem mS {m:ME}{b:aI}{a:Hm}{Q:i8×Nat×Hm->Prop}:W (cR m b a) Q↔W (m b a) fun p=>W (jV p.2 p.1) fun xs=>Q (dO p.1,xs.length+1,p.2):=by
 unfold cR
 simp only [W_bind,jH]
theorem gE {c:MI}{g:MG}{b:MS}{a:aI}{d:Hm} {Q}:W (cD c g b a d) Q↔W (c a d) fun p=>W (eE p.1 g b p.2.1 0 a p.2.2) Q:=W_bind
theorem DN {j:Int}{ms:MA}{e:aI}{c:Hm}{Q:i8×Nat×Hm->Prop}:W (mG ms e c) Q↔W (ms e c) fun p=>match p.1 with|[.int j]=>(-(2 ^ 62)<=j/\j<2 ^ 62)/\Q (fU 0 j.toNat,j.toNat+1,p.2)|_=>False:=by
 unfold mG
 rw [W_bind]
 constructor<;>exact fun h=>bO h fun p q=>by
  obtain ⟨l,c⟩:=p
  match l,q with
  | [],q=>simpa [W_none] using q
  | [d],q=>
   cases d with
   | int j=>
    first
    | (dsimp only at q;rw [tE] at q;split at q
       ·rename_i g;exact ⟨g,W_some.mp q⟩
       ·exact (W_none.mp q).elim)
    | (dsimp only;rw [if_pos q.1];exact W_some.mpr q.2)
   | _=>simpa [W_none] using q
  | a::b::l,q=>simpa [W_none] using q
theorem oJ {ms:MA}{b:aI}{a:Hm}{Q:i8×Nat×Hm->Prop}:W (gY ms b a) Q↔W (ms b a) fun p=>match p.1 with|[.int i,.int j]=>(-(2 ^ 62)<=i/\i<2 ^ 62/\-(2 ^ 62)<=j/\j<2 ^ 62)/\Q (fU i (j - i).toNat,(j - i).toNat+1,p.2)|_=>False:=by
 unfold gY
 rw [W_bind]
 constructor<;>exact fun h=>bO h fun p q=>by
  split at q
  ·rename_i e
   try rw [e]
   first
   | (rw [tE] at q;split at q
      ·rename_i c;exact ⟨c,W_some.mp q⟩
      ·exact (W_none.mp q).elim)
   | ((try dsimp only);rw [if_pos q.1];exact W_some.mpr q.2)
  ·first
   | exact (W_none.mp q).elim
   | exact q.elim
theorem oK {j:i8}{g:MG}{b:MS}{N:Nat}{Q:Fl×aI×Hm->Prop}(I:Nat->aI->Hm->Prop)
  (go:∀ i c a,i<N->I i c a->∃ d l,j a i=some (some d)/\g d c a=some l/\W (b l a) fun p=>match p.1 with|.nx=>I (i+1) p.2.1 p.2.2|.ct=>I (i+1) p.2.1 p.2.2|.bk=>Q (.nx,p.2.1,p.2.2)|.rt d=>Q (.rt d,p.2.1,p.2.2))
  (e:∀ c a,I N c a->j a N=some none/\Q (.nx,c,a)):∀ (m i:Nat)(c:aI)(a:Hm),i+m=N->I i c a->W (eE j g b (m+1) i c a) Q
 | 0,i,c,a,h,hI=>by
  have:i=N:=by omega
  subst this
  obtain ⟨r,s⟩:=e c a hI
  unfold eE
  rw [r]
  exact W_some.mpr s
 | m+1,i,c,a,h,hI=>by
  obtain ⟨d,l,r,s,v⟩:=go i c a (by omega) hI
  unfold eE
  rw [r]
  simp only [TZ,s]
  rw [W_bind]
  refine bO v fun p q=>?_
  obtain ⟨u,o,n⟩:=p
  cases u with
  | nx=>exact oK I go e m (i+1) o n (by omega) q
  | ct=>exact oK I go e m (i+1) o n (by omega) q
  | bk=>exact W_some.mpr q
  | rt d=>exact W_some.mpr q
theorem tI {a:Nat}{xs:List D}{g:MG}{b:MS}{h:aI}{c:Hm}{Q:Fl×aI×Hm->Prop}(I:Nat->aI->Hm->Prop)(o:I 0 h c)(n:∀ i h c,I i h c->c[a]? = some (.lst xs))
  (go:∀ i d h c,xs[i]? = some d->I i h c->∃ j,g d h c=some j/\W (b j c) fun p=>match p.1 with|.nx=>I (i+1) p.2.1 p.2.2|.ct=>I (i+1) p.2.1 p.2.2|.bk=>Q (.nx,p.2.1,p.2.2)|.rt d=>Q (.rt d,p.2.1,p.2.2))
  (m:∀ h c,I xs.length h c->Q (.nx,h,c)):W (eE (dO (.loc a)) g b (xs.length+1) 0 h c) Q:=by
 refine oK (N:=xs.length) I (fun i h c s l=>?_) (fun h c l=>⟨?_,m h c l⟩) xs.length 0 h c (by omega) o
 ·have e:xs[i]? = some xs[i]:=TV s
  obtain ⟨j,q,r⟩:=go i xs[i] h c e l
  refine ⟨xs[i],j,?_,q,r⟩
  simp only [dO,jV,bP,n i h c l,Ub,e]
 ·simp only [dO,jV,bP,n _ h c l,Ub]
  simp
theorem Pw {x:D}{xs:List D}(m:∀ a,jV a x=some xs){g:MG}{b:MS}{c:aI}{a:Hm}{Q:Fl×aI×Hm->Prop}(I:Nat->aI->Hm->Prop)(n:I 0 c a)
  (go:∀ i d c a,xs[i]? = some d->I i c a->∃ h,g d c a=some h/\W (b h a) fun p=>match p.1 with|.nx=>I (i+1) p.2.1 p.2.2|.ct=>I (i+1) p.2.1 p.2.2|.bk=>Q (.nx,p.2.1,p.2.2)|.rt d=>Q (.rt d,p.2.1,p.2.2))
  (j:∀ c a,I xs.length c a->Q (.nx,c,a)):W (eE (dO x) g b (xs.length+1) 0 c a) Q:=by
 refine oK (N:=xs.length) I (fun i c a r l=>?_) (fun c a l=>⟨?_,j c a l⟩) xs.length 0 c a (by omega) n
 ·have e:xs[i]? = some xs[i]:=TV r
  obtain ⟨h,o,q⟩:=go i xs[i] c a e l
  refine ⟨xs[i],h,?_,o,q⟩
  simp only [dO,m,Ub,e]
 ·simp only [dO,m,Ub]
  simp
theorem oM {lo:Int}{n:Nat}{g:MG}{b:MS}{c:aI}{a:Hm}{Q:Fl×aI×Hm->Prop}(I:Nat->aI->Hm->Prop)(m:I 0 c a)
  (go:∀ (i:Nat) c a,i<n->I i c a->∃ e,g (.int (lo+i)) c a=some e/\W (b e a) fun p=>match p.1 with|.nx=>I (i+1) p.2.1 p.2.2|.ct=>I (i+1) p.2.1 p.2.2|.bk=>Q (.nx,p.2.1,p.2.2)|.rt d=>Q (.rt d,p.2.1,p.2.2))
  (h:∀ c a,I n c a->Q (.nx,c,a)):W (eE (fU lo n) g b (n+1) 0 c a) Q:=by
 refine oK (N:=n) I (fun i c a l j=>?_) (fun c a j=>⟨?_,h c a j⟩) n 0 c a (by omega) m
 ·obtain ⟨e,o,q⟩:=go i c a l j
  exact ⟨_,e,by simp only [fU,if_pos l],o,q⟩
 ·simp only [fU,VA,if_false]
theorem DO {c:Hm}{a:Nat}{b:List D}{y:D}(h:c[a]? = some (.lst b))(d:b.length<TC):nL c a y=some (c.set a (.lst (b++[y]))):=by
 unfold nL
 rw [h]
 exact if_pos d
theorem yR {w:i8}{c:MT}{e:ME}{H:aI}{μ0:Hm}{xs:List D}{p:D->Bool}{v:D->D}{Q:Hm->Prop}(z:∀ a i,μ0 <+: a->w a i=some xs[i]?)(I:xs.length<=TC)
  (hc:∀ d a,d∈xs->μ0 <+: a->W (c (H++[some d]) a) fun r=>r.1=p d/\a <+: r.2)
  (A:∀ d a,d∈xs->p d=true->μ0 <+: a->W (e (H++[some d]) a) fun r=>r.1=v d/\a <+: r.2)
  (aS:∀ a,μ0 <+: a->a[μ0.length]? = some (.lst ((xs.filter p).map v))->Q a) :
  ∀ (m i:Nat)(a:Hm),i+m=xs.length->μ0 <+: a->a[μ0.length]? = some (.lst (((xs.take i).filter p).map v))->W (jU w nM c e H μ0.length (m+1) i a) Q
 | 0,i,a,hi,hp,ha=>by
  have:i=xs.length:=by omega
  subst this
  unfold jU
  rw [z a _ hp]
  rw [Wh (Tt _)]
  simp only [TZ]
  refine W_some.mpr (aS a hp ?_)
  simpa using ha
 | m+1,i,a,hi,hp,ha=>by
  have s:i<xs.length:=by omega
  have J:xs[i]? = some xs[i]:=TV s
  have h:xs[i]∈xs:=a1y s
  unfold jU
  rw [z a _ hp,J]
  simp only [TZ,nM]
  rw [W_bind]
  refine bO (hc _ a h hp) fun r q=>?_
  obtain ⟨b,x⟩:=r
  obtain ⟨K,u⟩:=q
  dsimp only at K u ⊢
  subst K
  have g:xs.take (i+1)=xs.take i++[xs[i]]:=by rw [List.take_succ,J];rfl
  have l:=aP u ha
  cases j:p xs[i] with
  | false=>
   refine yR z I hc A aS m (i+1) x (by omega) (hp.trans u) ?_
   rw [l,g,Vz]
   simp [j]
  | true=>
   dsimp only
   rw [W_bind]
   refine bO (A _ x h j (hp.trans u)) fun r q=>?_
   obtain ⟨y,G⟩:=r
   obtain ⟨L,E⟩:=q
   dsimp only at L E ⊢
   subst L
   have n:=aP E l
   have o:(((xs.take i).filter p).map v).length<TC:=by
    have M:=U3 p (xs.take i)
    rw [Tc]
    rw [Uv] at M
    omega
   rw [DO n o,TZ]
   have B:μ0 <+: G:=(hp.trans u).trans E
   refine yR z I hc A aS m (i+1) _ (by omega) (fL B (Tt _) _) ?_
   rw [TU (Tf.mp n).1,g,Vz]
   simp [j]
theorem mT {w:MI}{c:MT}{e:ME}{b:aI}{x:Hm}{xs:List D}{p:D->Bool}{v:D->D}{Q:D×Hm->Prop}
  (hit:W (w b x) fun r=>(∀ a i,r.2.2 <+: a->r.1 a i=some xs[i]?)/\r.2.1=xs.length+1/\xs.length<=TC /\
   (∀ d a,d∈xs->r.2.2 <+: a->W (c (b++[some d]) a) fun s=>s.1=p d/\a <+: s.2)/\(∀ d a,d∈xs->p d=true->r.2.2 <+: a->W (e (b++[some d]) a) fun s=>s.1=v d/\a <+: s.2) /\
   ∀ a,r.2.2 <+: a->a[r.2.2.length]? = some (.lst ((xs.filter p).map v))->Q (.loc r.2.2.length,a)):W (c4 w c e b x) Q:=by
 unfold c4 mH
 rw [W_bind]
 refine bO hit fun r q=>?_
 obtain ⟨y,n,g⟩:=r
 obtain ⟨h,j,l,m,o,u⟩:=q
 dsimp only at h j l m o u ⊢
 subst j
 rw [jH]
 exact yR h l m o u xs.length 0 (g++[.lst []]) (by omega) (bD _ _) (by simp)
theorem DP {b:Hm}{a:Nat}{xs:List D}(h:b[a]? = some (.lst xs)):∀ μ' i,b <+: μ'->dO (.loc a) μ' i=some xs[i]?:=fun μ' i c=>by
 simp only [dO,jV,bP,aP c h,Ub]
theorem yS {xs:List D}{a:Hm}:∀ μ' i,a <+: μ'->dO (.tup xs) μ' i=some xs[i]?:=fun μ' i b=>rfl
noncomputable def fN (lo:Int)(n:Nat):List D:=(Ui n).map fun (i:Nat)=>.int (lo+(i:Int))
theorem DQ {lo:Int}{n:Nat}{a:Hm}:∀ μ' i,a <+: μ'->fU lo n μ' i=some (fN lo n)[i]?:=fun μ' i _=>by
 unfold fU fN
 rw [TH]
 by_cases h:i<n
 ·rw [if_pos h,List.getElem?_range h];rfl
 ·rw [if_neg h,Wh (by simpa using W8.mp h)];rfl
noncomputable abbrev P (x y:Int):D:=.tup [.int x,.int y]
noncomputable abbrev PP (p:Int×Int):D:=P p.1 p.2
theorem DR (n:Nat)(e:Hm)(p q:Int×Int):cZ (n+2) e (PP p) (PP q)=some (p == q):=by
 obtain ⟨a,b⟩:=p
 obtain ⟨c,d⟩:=q
 show some (a == c&&(b == d&&true))=some ((a,b) == (c,d))
 rw [a2h]
 rfl
theorem DS (n:Nat)(a:Hm):∀ ps qs:List (Int×Int),fT (iI (n+2) a) (ps.map PP) (qs.map PP)=some (ps == qs)
 | [],[]=>rfl
 | [],_::_=>rfl
 | _::_,[]=>rfl
 | p::ps,q::qs=>by
  rw [Tq,Tq]
  show (cZ (n+2) a (PP p) (PP q)).bind (fun b=>(fT (iI (n+2) a) (ps.map PP) (qs.map PP)).map fun c=>b&&c)=_
  rw [DR,DS n a ps qs]
  rfl
theorem Px {c:Hm}{a b:Nat}{ps qs:List (Int×Int)}(g:c[a]? = some (.lst (ps.map PP)))(h:c[b]? = some (.lst (qs.map PP))):cZ 8 c (.loc a) (.loc b)=some (ps == qs):=by
 have d:dR c (.loc a)=some (.lst (ps.map PP)):=by simp only [dR,g]
 have e:dR c (.loc b)=some (.lst (qs.map PP)):=by simp only [dR,h]
 show (dR c (.loc a)).bind (fun x=>(dR c (.loc b)).bind fun y=>iH (iI 7 c) x y)=_
 rw [d,e]
 exact DS 5 c ps qs
theorem DT (n:Nat)(a:Hm):∀ ps qs:List Int,fT (iI (n+1) a) (ps.map D.int) (qs.map D.int)=some (ps == qs)
 | [],[]=>rfl
 | [],_::_=>rfl
 | _::_,[]=>rfl
 | p::ps,q::qs=>by
  rw [Tq,Tq]
  show (cZ (n+1) a (.int p) (.int q)).bind (fun b=>(fT (iI (n+1) a) (ps.map D.int) (qs.map D.int)).map fun c=>b&&c)=_
  rw [DT n a ps qs]
  rfl
theorem qJ {c:Hm}{a b:Nat}{xs d:List D}{Q:D×Hm->Prop}(e:c[a]? = some (.lst xs))(g:c[b]? = some (.lst d))(h:xs.length+d.length<=TC):W (bK (.loc a) (.loc b) c) Q↔Q (.loc c.length,c++[.lst (xs++d)]):=by
 simp only [bK,e,g,if_pos h]
 exact W_some
theorem qK {f:D->List D->Hm->Option (D×Hm)}{b:ME}{ms:MA}{a:aI}{c:Hm}{Q:D×Hm->Prop}(h:W (b a c) fun p=>jX p.2 p.1=true/\W (ms a p.2) fun q=>W (f p.1 q.1 q.2) Q):W (gZ f b ms a c) Q:=by
 unfold gZ
 rw [W_bind]
 refine bO h fun p q=>?_
 rw [q.1]
 exact W_bind.mpr q.2
theorem DU {b:Hm}{a:Nat}{xs:List D}(h:b[a]? = some (.lst xs)):jX b (.loc a)=true:=by
 simp only [jX,h]
theorem tJ {b:Hm}{a:Nat}{xs:List D}{y:D}{Q:D×Hm->Prop}(h:b[a]? = some (.lst xs))(c:xs.length<TC):W (iN (.loc a) [y] b) Q↔Q (.non,b.set a (.lst (xs++[y]))):=by
 simp only [iN,DO h c,Ub]
 exact W_some
theorem Py {c:Hm}{a b:Nat}{xs d:List D}{Q:D×Hm->Prop}(h:c[a]? = some (.lst xs))(e:c[b]? = some (.lst d))(g:xs.length+d.length<=TC):W (nS (.loc a) [.loc b] c) Q↔Q (.non,c.set a (.lst (xs++d))):=by
 simp only [nS,h,e,if_pos g]
 exact W_some
theorem PB {a:Hm}{i:Int}{Q:D×Hm->Prop}:W (i7 [.int i,.ty "bool"] a) Q↔Q (.bl false,a):=W_some
theorem PC {a:Hm}{i:Int}{Q:D×Hm->Prop}:W (i7 [.int i,.ty "int"] a) Q↔Q (.bl true,a):=W_some
theorem PD {a:Hm}{b:Str}{Q:D×Hm->Prop}:W (i7 [.str b,.ty "str"] a) Q↔Q (.bl true,a):=W_some
theorem tK {b:Hm}{a:Nat}{xs:List D}{Q:D×Hm->Prop}(h:b[a]? = some (.lst xs)):W (eI [.loc a] b) Q↔Q (.int xs.length,b):=by
 simp only [eI,pI,bP,h,Ub]
 exact W_some
theorem DV {a:Hm}{xs:List D}{Q:D×Hm->Prop}:W (eI [.rol xs] a) Q↔Q (.int xs.length,a):=W_some
theorem mU {b:Hm}{a:Nat}{xs:List D}{Q:List D->Prop}(h:b[a]? = some (.lst xs)):W (jV b (.loc a)) Q↔Q xs:=by
 simp only [jV,bP,h]
 exact W_some
theorem DW {b:aI}{a:Hm}{Q:Option Int×Hm->Prop}:W (gR b a) Q↔Q (none,a):=W_some
theorem DX {m:ME}{b:aI}{a:Hm}{Q:Option Int×Hm->Prop}:W (i0 m b a) Q↔W (m b a) fun p=>match p.1 with|.int i=>Q (some i,p.2)|_=>False:=by
 unfold i0
 rw [W_bind]
 constructor<;>exact fun h=>bO h fun p q=>by
  obtain ⟨d,a⟩:=p
  cases d<;>simpa [W_some,W_none] using q
theorem DY {a:ME}{lo c:MO}{b:aI}{i:Hm}{Q:D×Hm->Prop}(h:W (a b i) fun p=>∃ l,p.1=.loc l/\W (lo b p.2) fun q=>W (c b q.2) fun r=>∃ xs,r.2[l]? = some (.lst xs)/\Q (.loc r.2.length,r.2++[.lst (iZ xs q.1 r.1)])):W (mB a lo c b i) Q:=by
 unfold mB
 rw [W_bind]
 refine bO h fun p q=>?_
 obtain ⟨d,n⟩:=p
 obtain ⟨l,e,g⟩:=q
 dsimp only at e g ⊢
 subst e
 rw [W_bind]
 refine bO g fun s q=>?_
 rw [W_bind]
 refine bO q fun r q=>?_
 obtain ⟨xs,j,m⟩:=q
 simp only [bP,j,TZ]
 exact W_some.mpr m
theorem cA (a:Hm)(c:C):(a++[c])[a.length]? = some c:=by simp
end L3
namespace L3
open PySem L2
theorem PF {f g:D->D->Hm->Option (D×Hm)}{a b c:ME}{e:aI}{i:Hm} {Q}:W (k9 f g a b c e i) Q↔W (a e i) fun p=>W (b e p.2) fun q=>W (f p.1 q.1 q.2) fun r=>match r.1 with|.bl k=>if k=true then W (c e r.2) fun t=>W (g q.1 t.1 t.2) Q else Q (.bl false,r.2)|_=>False:=by
 unfold k9
 simp only [W_bind]
 constructor<;>exact fun h=>bO h fun p q=>bO q fun m l=>bO l fun r j=>by
  obtain ⟨d,i⟩:=r
  cases d with
  | bl k=>cases k<;>simpa [W_some,W_bind] using j
  | _=>simpa [W_none] using j
section
variable {i j:Int}{μ:Hm}{Q:D×Hm->Prop}
theorem PH:W (hU true .non .non μ) Q↔Q (.bl false,μ):=W_some
theorem PK {xs:List D}:W (hU true (.tup xs) .non μ) Q↔Q (.bl true,μ):=W_some
theorem PL:W (fI [.int i,.int j] μ) Q↔Q (.int (min i j),μ):=by
 have:(if j<i then j else i)=min i j:=by split<;>omega
 show W (some (D.int (if j<i then j else i),μ)) Q↔_
 rw [this]
 exact W_some
theorem yT:∀ a:List Int,mK (a.map D.int)=some a
 | []=>rfl
 | i::a=>by
  show (mK (a.map D.int)).map (i::·)=_
  rw [yT a];rfl
end
theorem PM {a:ME}{lo c st:MO}{b:aI}{i:Hm}{Q:D×Hm->Prop}(h:W (a b i) fun p=>∃ l,p.1=.loc l/\W (lo b p.2) fun q=>W (c b q.2) fun r=>W (st b r.2) fun t=>t.1≠some 0/\∃ xs,t.2[l]? = some (.lst xs)/\(dD xs q.1 r.1 t.1).length<=TC/\Q (.loc t.2.length,t.2++[.lst (dD xs q.1 r.1 t.1)])):W (mL a lo c st b i) Q:=by
 unfold mL
 rw [W_bind]
 refine bO h fun p q=>?_
 obtain ⟨d,u⟩:=p
 obtain ⟨l,e,g⟩:=q
 dsimp only at e g ⊢
 subst e
 rw [W_bind]
 refine bO g fun s q=>?_
 rw [W_bind]
 refine bO q fun r q=>?_
 rw [W_bind]
 refine bO q fun t q=>?_
 obtain ⟨j,xs,m,n,o⟩:=q
 rw [if_pos j]
 simp only [fY,m,TZ]
 rw [if_pos n]
 exact W_some.mpr o
theorem w_mTrue {b:aI}{a:Hm}{Q:Bool×Hm->Prop}:W (dA b a) Q↔Q (true,a):=W_some
theorem jK {o i v:ME}{a:aI}{b:Hm} {Q}:W (cM o i v a b) Q↔W (v a b) fun p=>W (o a p.2) fun q=>W (i a q.2) fun r=>W (j4 q.1 r.1 p.1 r.2) fun μ'=>Q (.nx,a,μ'):=by
 unfold cM wO
 simp only [W_bind,jH]
section
variable {μ:Hm}{a:Nat}{kvs:List (List Int×D)}{k:List Int}{d y:D}{ρ:aI}{Q:D×Hm->Prop}
theorem mV:W (f6 ρ μ) Q↔Q (.loc μ.length,μ++[.dT []]):=W_some
theorem DZ (h:μ[a]? = some (.dT kvs))(b:eA y=some k)(c:b9 kvs k=some d):W (aH (.loc a) y μ) Q↔Q (d,μ):=by
 simp only [aH,h,b,TZ,c,Ub]
 exact W_some
theorem oN {Q:Hm->Prop}(h:μ[a]? = some (.dT kvs))(b:eA y=some k)(c:kvs.length<TC):W (j4 (.loc a) y d μ) Q↔Q (μ.set a (.dT (eB kvs k d))):=by
 simp only [j4,pM,h,b,TZ,if_pos c]
 exact W_some
theorem PN (h:μ[a]? = some (.dT kvs)):W (eI [.loc a] μ) Q↔Q (.int kvs.length,μ):=by
 simp only [eI,h]
 exact W_some
theorem yU (h:μ[a]? = some (.dT kvs)):W (eJ [.loc a] μ) Q↔Q (.loc μ.length,μ++[.lst (kvs.map fun k=>D.tup (k.1.map D.int))]):=by
 simp only [eJ,h]
 exact W_some
theorem yV {xs:List D}(h:μ[a]? = some (.lst xs)):W (eJ [.loc a] μ) Q↔Q (.loc μ.length,μ++[.lst xs]):=by
 simp only [eJ,h,pJ,bP,Ub]
 exact W_some
end
theorem yW {f:D->List D->Hm->Option (D×Hm)}{g:ME}{ms:MA}{a:aI}{i:Hm}{Q:D×Hm->Prop}(h:W (g a i) fun p=>∃ x,p.1=.str x/\W (ms a p.2) fun q=>W (f (.str x) q.1 q.2) Q):W (j5 f g ms a i) Q:=by
 obtain ⟨⟨d,n⟩,j,x,b,⟨s,o⟩,c,e⟩:=h
 dsimp only at b c e
 subst b
 obtain ⟨r,l,m⟩:=e
 refine ⟨r,?_,m⟩
 simp only [j5,j,TZ,c]
 exact l
theorem D0:∀ ss:List Str,pN (ss.map D.str)=some ss
 | []=>rfl
 | x::ss=>by
  rw [Tq]
  simp only [pN,D0 ss,Ub]
theorem PQ {c:Hm}{a:Nat}{b:Str}{ss:List Str}{Q:D×Hm->Prop}(h:c[a]? = some (.lst (ss.map D.str)))(d:W2 (ss.toArray.foldl (·+·.length+b.length) 0)=false)(e:(Uq b ss).length<=TC) :
  W (jE (.str b) [.loc a] c) Q↔Q (.str (Uq b ss),c):=by
 simp only [jE,fY,h,TZ,D0]
 rw [if_pos ⟨d,e⟩]
 exact W_some
theorem D1 {b:Hm}{a:Nat}{xs:List D}{Q:D×Hm->Prop}(h:b[a]? = some (.lst xs)):W (j6 [.loc a] b) Q↔Q (.loc b.length,b++[.lst xs.reverse]):=by
 simp only [j6,h]
 exact W_some
theorem PR {z:Str}{i:Int}{c:Nat}{a:Hm}{Q:D×Hm->Prop}(b:z.length<=TC)(h:atI z.cps.toList i=some c):W (aH (.str z) (.int i) a) Q↔Q (.str ⟨#[c]⟩,a):=by
 have:aH (.str z) (.int i) a=some (.str ⟨#[c]⟩,a):=by
  simp only [aH,fE]
  rw [if_pos b,h];rfl
 rw [this]
 exact W_some
theorem PU {x y:Str}{a:Hm}{Q:D×Hm->Prop}(h:x.length+y.length<=TC):W (bK (.str x) (.str y) a) Q↔Q (.str (x++y),a):=by
 have:bK (.str x) (.str y) a=some (.str (x++y),a):=by
  simp only [bK];rw [if_pos h]
 rw [this]
 exact W_some
theorem PV {ms:MA}{b:aI}{a:Hm}{Q:i8×Nat×Hm->Prop}(h:W (ms b a) fun p=>∃ i j c,p.1=[.int i,.int j,.int c]/\pO i j c=true/\Q (nX i c (Ut i j c).toNat,(Ut i j c).toNat+1,p.2)):W (pP ms b a) Q:=by
 unfold pP
 rw [W_bind]
 refine bO h fun p q=>?_
 obtain ⟨i,j,c,d,e,g⟩:=q
 rw [d]
 dsimp only
 rw [if_pos e]
 exact W_some.mpr g
theorem PX {lo c:Int}{n:Nat}{g:MG}{b:MS}{e:aI}{a:Hm}{Q:Fl×aI×Hm->Prop}(I:Nat->aI->Hm->Prop)(o:I 0 e a)
  (go:∀ (i:Nat) e a,i<n->I i e a->∃ h,g (.int (lo+(i:Nat) * c)) e a=some h/\W (b h a) fun p=>match p.1 with|.nx=>I (i+1) p.2.1 p.2.2|.ct=>I (i+1) p.2.1 p.2.2|.bk=>Q (.nx,p.2.1,p.2.2)|.rt d=>Q (.rt d,p.2.1,p.2.2))
  (j:∀ e a,I n e a->Q (.nx,e,a)):W (eE (nX lo c n) g b (n+1) 0 e a) Q:=by
 refine oK (N:=n) I (fun i e a m l=>?_) (fun e a l=>⟨?_,j e a l⟩) n 0 e a (by omega) o
 ·obtain ⟨h,q,r⟩:=go i e a m l
  refine ⟨_,h,?_,q,r⟩
  simp only [nX,m,if_true]
 ·simp [nX]
end L3
namespace Lw
open PySem L2 L3
noncomputable def ds:List (Str×Stmt):=(("is_whole",aE 2)::("is_quarter",aE 4)::("line_of",aE 5)::("number_by",aE 8)::("hand_of",aE 9)::("mirrored",aE 10)::("sign_for",aE 12)::("outline",aE 13)::("laying_by",aE 20)::("mirror_in",aE 21)::("led",aE 22)::("then",aE 23)::("is_size",aE 26)::("check_size",aE 27)::("places_within",aE 28)::("quarters_in",aE 29)::("copied_piles",aE 38)::("folded_layings",aE 39)::("folded_piles",aE 40)::("check_fold",aE 41)::("unfolded",aE 43)::("_law_cell",aE 46)::("_law_quarters",aE 47)::("_law_led",aE 48)::("_law_over",aE 49)::("_law_value",aE 50)::("_law_begun",aE 51)::("_law_folded",aE 52)::("_law_plan",aE 53)::("_law_go",aE 54)::("_law_sign",aE 55)::("_law_due",aE 56)::("law",aE 57)::[])
noncomputable def yX:D:=(.tup [(.int 1),(.int 0),(.int 0),(.int 1),(.int 0),(.int 0)])
noncomputable def S:Sig:={ fn:=(("is_whole",1)::("is_quarter",1)::("line_of",1)::("number_by",2)::("hand_of",2)::("mirrored",2)::("sign_for",2)::("outline",1)::("laying_by",3)::("mirror_in",1)::("led",2)::("then",2)::("is_size",1)::("check_size",2)::("places_within",2)::("quarters_in",2)::("copied_piles",1)::("folded_layings",3)::("folded_piles",4)::("check_fold",2)::("unfolded",2)::("_law_cell",2)::("_law_quarters",2)::("_law_led",2)::("_law_over",2)::("_law_value",2)::("_law_begun",2)::("_law_folded",4)::("_law_plan",3)::("_law_go",3)::("_law_sign",3)::("_law_due",1)::("law",1)::[]),con:=[("STILL",yX)],tab:=[],no:=["bool","dict","int","isinstance","len","list","max","min","range","reversed","sorted","str"],dIt:=["piles","layings","_law_state"],dEq:=["_law_piles"],dMe:=["_law_piles","[]"],ob:=[("wide","Folding"),("high","Folding"),("states","Folding")],mt:=[("fold","Folding","Folding.fold",3),("piles","Folding","Folding.piles",0)],mc:=[("Folding","Folding.__init__",2)],ms:=[("Folding.__init__",cL 44 0),("Folding.fold",cL 44 1),("Folding.piles",cL 44 5)] }
@[irreducible] noncomputable def f (k:Nat)(x:Str):MF:=fA S ds k x
end Lw
namespace Lw
open PySem L2 L3
theorem PY (k:Nat)(a:D)(b:Hm):f (k+1) "is_whole" [a] b=aS ((bC (iY (aG i7 (aC (aA 0) (aC (mC (.ty "int")) aD))) (nF (aG i7 (aC (aA 0) (aC (mC (.ty "bool")) aD)))))) [some a] b):=by
 kernel_rfl
theorem PZ (k:Nat)(a:D)(b:Hm):f (k+1) "is_quarter" [a] b=aS ((aK (bN (aT (aB (a8 false) (aB bJ (aB aH (aA 0) (mC (.int 0))) (mC (.int 2))) (mC (.int 1)))) (bC (aB (a8 false) (aB bJ (aB aH (aA 0) (mC (.int 1))) (mC (.int 4))) (mC (.int 2)))) bM) (bC (iY (aB (a8 false) (aB bJ (aB aH (aA 0) (mC (.int 0))) (mC (.int 4))) (mC (.int 2))) (aB (a8 false) (aB bJ (aB aH (aA 0) (mC (.int 1))) (mC (.int 2))) (mC (.int 1)))))) [some a] b):=by
 kernel_rfl
theorem P0 (k:Nat)(a:D)(b:Hm):f (k+1) "line_of" [a] b=aS ((aK (bN (aT (aB (a8 false) (aB bJ (aB aH (aA 0) (mC (.int 0))) (mC (.int 2))) (mC (.int 1)))) (bC (gQ (aT (aB (a8 false) (aB bJ (aB aH (aA 0) (mC (.int 0))) (mC (.int 4))) (aB bJ (aB aH (aA 0) (mC (.int 1))) (mC (.int 4))))) (mC (.str "falling")) (mC (.str "rising")))) bM) (bC (gQ (aT (aB (a8 false) (aB bJ (aB aH (aA 0) (mC (.int 1))) (mC (.int 4))) (mC (.int 0)))) (mC (.str "level")) (mC (.str "upright"))))) [some a] b):=by
 kernel_rfl
theorem P1 (k:Nat)(a b:D)(c:Hm):f (k+1) "number_by" [a,b] c=aS ((aK (bN (aT (aB (a8 false) (aA 0) (mC (.str "level")))) (bC (aB aH (aA 1) (mC (.int 1)))) bM) (aK (bN (aT (aB (a8 false) (aA 0) (mC (.str "upright")))) (bC (aB aH (aA 1) (mC (.int 0)))) bM) (aK (bN (aT (aB (a8 false) (aA 0) (mC (.str "falling")))) (bC (aB cQ (aB aH (aA 1) (mC (.int 0))) (aB aH (aA 1) (mC (.int 1))))) bM) (bC (aB bK (aB aH (aA 1) (mC (.int 0))) (aB aH (aA 1) (mC (.int 1)))))))) [some a,some b] c):=by
 kernel_rfl
theorem P2 (k:Nat)(a b:D)(c:Hm):f (k+1) "hand_of" [a,b] c=aS ((aK (aQ 2 (aG (f k "line_of") (aC (aA 1) aD))) (aK (aQ 3 (aB cQ (aG (f k "number_by") (aC (aA 2) (aC (aA 0) aD))) (aG (f k "number_by") (aC (aA 2) (aC (aA 1) aD))))) (aK (bN (aT (aB kX (aA 3) (mC (.int 0)))) (bC (mC (.int 1))) bM) (bC (gQ (aT (aB nJ (aA 3) (mC (.int 0)))) (c6 (mC (.int 1))) (mC (.int 0))))))) [some a,some b,none,none] c):=by
 kernel_rfl
theorem P4 (k:Nat)(a b:D)(c:Hm):f (k+1) "mirrored" [a,b] c=aS ((aK (aQ 2 (aB aH (aA 0) (mC (.int 0)))) (aK (aQ 3 (aB aH (aA 0) (mC (.int 1)))) (aK (aQ 4 (aG (f k "line_of") (aC (aA 1) aD))) (aK (aQ 5 (aG (f k "number_by") (aC (aA 4) (aC (aA 1) aD)))) (aK (bN (aT (aB (a8 false) (aA 4) (mC (.str "level")))) (bC (bW (aC (aA 2) (aC (aB cQ (aB bX (mC (.int 2)) (aA 5)) (aA 3)) aD)))) bM) (aK (bN (aT (aB (a8 false) (aA 4) (mC (.str "upright")))) (bC (bW (aC (aB cQ (aB bX (mC (.int 2)) (aA 5)) (aA 2)) (aC (aA 3) aD)))) bM) (aK (bN (aT (aB (a8 false) (aA 4) (mC (.str "falling")))) (bC (bW (aC (aB bK (aA 3) (aA 5)) (aC (aB cQ (aA 2) (aA 5)) aD)))) bM) (bC (bW (aC (aB cQ (aA 5) (aA 3)) (aC (aB cQ (aA 5) (aA 2)) aD))))))))))) [some a,some b,none,none,none,none] c):=by
 kernel_rfl
theorem P5 (k:Nat)(a b:D)(c:Hm):f (k+1) "sign_for" [a,b] c=aS ((aK (bN (iX (eY (aG (f k "is_quarter") (aC (aA 1) aD)))) (bC (mC (.str " "))) bM) (aK (aQ 2 (aG eI (aC (f7 fJ (aA 0) (aC (aA 1) (aC (cU aD) aD))) aD))) (aK (bN (aT (aB (a8 false) (aA 2) (mC (.int 0)))) (bC (mC (.str "."))) bM) (bC (gQ (aT (aB kW (aA 2) (mC (.int 9)))) (aG mP (aC (aA 2) aD)) (mC (.str "#"))))))) [some a,some b,none] c):=by
 kernel_rfl
theorem P6 (k:Nat)(a:D)(b:Hm):f (k+1) "outline" [a] b=aS ((aK (dB 0 (aQ 1 (c4 (e8 (aA 0)) dA (aB aH (aA 5) (mC (.int 0))))) (aQ 1 (c4 (cR (aA 0)) dA (aB aH (aA 5) (mC (.int 0)))))) (aK (dB 0 (aQ 2 (c4 (e8 (aA 0)) dA (aB aH (aA 5) (mC (.int 1))))) (aQ 2 (c4 (cR (aA 0)) dA (aB aH (aA 5) (mC (.int 1)))))) (aK (aQ 3 (cU aD)) (aK (cD (gY (aC (aG fI (aC (aA 2) aD)) (aC (aB bK (aG hV (aC (aA 2) aD)) (mC (.int 1))) aD))) (cI 4) (eU (gZ iN (aA 3) (aC (j5 jE (mC (.str "")) (aC (c4 (gY (aC (aG fI (aC (aA 1) aD)) (aC (aB bK (aG hV (aC (aA 1) aD)) (mC (.int 1))) aD))) dA (aG (f k "sign_for") (aC (aA 0) (aC (bW (aC (aA 5) (aC (aA 4) aD))) aD)))) aD)) aD)))) (bC (j5 jE (mC (.str "\n")) (aC (aA 3) aD))))))) [some a,none,none,none,none] b):=by
 kernel_rfl
theorem P7 (k:Nat)(a b c:D)(d:Hm):f (k+1) "laying_by" [a,b,c] d=aS ((bC (bW (aC (aB cQ (aB aH (aA 1) (mC (.int 0))) (aB aH (aA 0) (mC (.int 0)))) (aC (aB cQ (aB aH (aA 2) (mC (.int 0))) (aB aH (aA 0) (mC (.int 0)))) (aC (aB cQ (aB aH (aA 1) (mC (.int 1))) (aB aH (aA 0) (mC (.int 1)))) (aC (aB cQ (aB aH (aA 2) (mC (.int 1))) (aB aH (aA 0) (mC (.int 1)))) (aC (aB aH (aA 0) (mC (.int 0))) (aC (aB aH (aA 0) (mC (.int 1))) aD)))))))) [some a,some b,some c] d):=by
 kernel_rfl
theorem P8 (k:Nat)(a:D)(b:Hm):f (k+1) "mirror_in" [a] b=aS ((bC (aG (f k "laying_by") (aC (aG (f k "mirrored") (aC (bW (aC (mC (.int 0)) (aC (mC (.int 0)) aD))) (aC (aA 0) aD))) (aC (aG (f k "mirrored") (aC (bW (aC (mC (.int 1)) (aC (mC (.int 0)) aD))) (aC (aA 0) aD))) (aC (aG (f k "mirrored") (aC (bW (aC (mC (.int 0)) (aC (mC (.int 1)) aD))) (aC (aA 0) aD))) aD))))) [some a] b):=by
 kernel_rfl
theorem P9 (k:Nat)(a b:D)(c:Hm):f (k+1) "led" [a,b] c=aS ((aK (aQ 2 (aB aH (aA 1) (mC (.int 0)))) (aK (aQ 3 (aB aH (aA 1) (mC (.int 1)))) (bC (bW (aC (aB bK (aB bK (aB bX (aB aH (aA 0) (mC (.int 0))) (aA 2)) (aB bX (aB aH (aA 0) (mC (.int 1))) (aA 3))) (aB aH (aA 0) (mC (.int 4)))) (aC (aB bK (aB bK (aB bX (aB aH (aA 0) (mC (.int 2))) (aA 2)) (aB bX (aB aH (aA 0) (mC (.int 3))) (aA 3))) (aB aH (aA 0) (mC (.int 5)))) aD)))))) [some a,some b,none,none] c):=by
 kernel_rfl
theorem Qa (k:Nat)(a b:D)(c:Hm):f (k+1) "then" [a,b] c=aS ((bC (aG (f k "laying_by") (aC (aG (f k "led") (aC (aA 1) (aC (aG (f k "led") (aC (aA 0) (aC (bW (aC (mC (.int 0)) (aC (mC (.int 0)) aD))) aD))) aD))) (aC (aG (f k "led") (aC (aA 1) (aC (aG (f k "led") (aC (aA 0) (aC (bW (aC (mC (.int 1)) (aC (mC (.int 0)) aD))) aD))) aD))) (aC (aG (f k "led") (aC (aA 1) (aC (aG (f k "led") (aC (aA 0) (aC (bW (aC (mC (.int 0)) (aC (mC (.int 1)) aD))) aD))) aD))) aD))))) [some a,some b] c):=by
 kernel_rfl
theorem Qb (k:Nat)(a:D)(b:Hm):f (k+1) "is_size" [a] b=aS ((bC (iY (aG (f k "is_whole") (aC (aA 0) aD)) (k9 kW kW (mC (.int 1)) (aA 0) (mC (.int 6))))) [some a] b):=by
 kernel_rfl
theorem Qd (k:Nat)(a b:D)(c:Hm):f (k+1) "check_size" [a,b] c=aS ((bN (iX (gP (eY (aG (f k "is_size") (aC (aA 0) aD))) (eY (aG (f k "is_size") (aC (aA 1) aD))))) cV bM) [some a,some b] c):=by
 kernel_rfl
theorem Qe (k:Nat)(a b:D)(c:Hm):f (k+1) "places_within" [a,b] c=aS ((aK (aQ 2 (cU aD)) (aK (cD (gY (aC (mC (.int 1)) (aC (aB bX (mC (.int 4)) (aA 0)) aD))) (cI 3) (eU (gZ nS (aA 2) (aC (c4 (gY (aC (mC (.int 1)) (aC (aB bX (mC (.int 4)) (aA 1)) aD))) dA (bW (aC (aA 3) (aC (aA 4) aD)))) aD)))) (bC (aA 2)))) [some a,some b,none,none] c):=by
 kernel_rfl
theorem Qf (k:Nat)(a b:D)(c:Hm):f (k+1) "quarters_in" [a,b] c=aS ((bC (c4 (cR (aG (f k "places_within") (aC (aA 0) (aC (aA 1) aD)))) (eY (aG (f k "is_quarter") (aC (aA 2) aD))) (aA 2))) [some a,some b] c):=by
 kernel_rfl
theorem Qg (k:Nat)(a:D)(b:Hm):f (k+1) "copied_piles" [a] b=aS ((aK (aQ 1 f6) (aK (dB 0 (cD (kD (aA 0)) (dM [2,3]) (cM (aA 1) (aA 2) (aG eJ (aC (aA 3) aD)))) cV) (bC (aA 1)))) [some a,none,none,none] b):=by
 kernel_rfl
theorem Qh (k:Nat)(a b c:D)(d:Hm):f (k+1) "folded_layings" [a,b,c] d=aS ((aK (aQ 3 (aG (f k "mirror_in") (aC (aA 1) aD))) (aK (aQ 4 f6) (aK (dB 0 (cD (kD (aA 0)) (dM [5,6]) (aK (aQ 7 (aB (a8 false) (aG (f k "hand_of") (aC (aG (f k "led") (aC (aA 6) (aC (aA 5) aD))) (aC (aA 1) aD))) (aA 2))) (cM (aA 4) (aA 5) (gQ (eY (aA 7)) (aG (f k "then") (aC (aA 6) (aC (aA 3) aD))) (aA 6))))) cV) (bC (aA 4))))) [some a,some b,some c,none,none,none,none,none] d):=by
 kernel_rfl
theorem Qi (k:Nat)(a b c d:D)(e:Hm):f (k+1) "folded_piles" [a,b,c,d] e=aS ((aK (aQ 4 f6) (aK (dB 0 (cD (kD (aA 0)) (dM [5,6]) (bN (aT (aB (a8 true) (aG (f k "hand_of") (aC (aA 5) (aC (aA 1) aD))) (aA 2))) (cM (aA 4) (aA 5) (aG eJ (aC (aA 6) aD))) bM)) cV) (aK (dB 0 (cD (kD (aA 0)) (dM [5,6]) (bN (aT (aB (a8 false) (aG (f k "hand_of") (aC (aA 5) (aC (aA 1) aD))) (aA 2))) (aK (aQ 7 (aG (f k "mirrored") (aC (aA 5) (aC (aA 1) aD)))) (aK (aQ 8 (aG j6 (aC (aA 6) aD))) (aK (aQ 9 (f7 fJ (aA 4) (aC (aA 7) (aC (cU aD) aD)))) (cM (aA 4) (aA 7) (gQ (eY (aA 3)) (aB bK (aA 9) (aA 8)) (aB bK (aA 8) (aA 9))))))) bM)) cV) (bC (aA 4))))) [some a,some b,some c,some d,none,none,none,none,none,none] e):=by
 kernel_rfl
theorem Qj (k:Nat)(a b:D)(c:Hm):f (k+1) "check_fold" [a,b] c=aS ((aK (dB 0 (aQ 2 (c4 (e8 (aA 0)) dA (aG (f k "hand_of") (aC (aA 3) (aC (aA 1) aD))))) (aQ 2 (c4 (cR (aA 0)) dA (aG (f k "hand_of") (aC (aA 3) (aC (aA 1) aD)))))) (bN (eT (aT (aB (cW true) (mC (.int 1)) (aA 2))) (aT (aB (cW true) (c6 (mC (.int 1))) (aA 2)))) cV bM)) [some a,some b,none] c):=by
 kernel_rfl
theorem Qk (k:Nat)(a b:D)(c:Hm):f (k+1) "unfolded" [a,b] c=aS ((aK (aQ 2 f6) (aK (aQ 3 f6) (aK (cD (cR (aG (f k "quarters_in") (aC (aA 0) (aC (aA 1) aD)))) (cI 4) (aK (cM (aA 2) (aA 4) (mC yX)) (cM (aA 3) (aA 4) (cU (aC (aA 4) aD))))) (bC (bW (aC (aA 2) (aC (aA 3) aD))))))) [some a,some b,none,none,none] c):=by
 kernel_rfl
theorem Ql (k:Nat)(a b:D)(c:Hm):f (k+1) "_law_cell" [a,b] c=aS ((aK (bN (aT (aB nJ (aA 1) (aG eI (aC (aA 0) aD)))) (bC (aB aH (aA 0) (aA 1))) bM) (aK (bN (aT (aB (a8 false) (aA 0) (cU aD))) (bC (aB bJ (aB bX (aB bX (aA 1) (aA 1)) (mC (.int 48271))) (mC (.int 2147483647)))) bM) (aK (aQ 2 (aB bJ (aB bX (aB bK (aB bJ (aB aH (aA 0) (aB bJ (aA 1) (aG eI (aC (aA 0) aD)))) (mC (.int 2147483629))) (aB bX (aB bX (aA 1) (aA 1)) (mC (.int 69623)))) (mC (.int 48271))) (mC (.int 2147483647)))) (bC (aB bJ (aB bX (aA 2) (aA 2)) (mC (.int 2147483629))))))) [some a,some b,none] c):=by
 kernel_rfl
theorem Qm (k:Nat)(a b:D)(c:Hm):f (k+1) "_law_quarters" [a,b] c=aS ((aK (aQ 2 (cU aD)) (aK (cD (mG (aC (aB bX (mC (.int 4)) (aA 0)) aD)) (cI 3) (cD (mG (aC (aB bX (mC (.int 4)) (aA 1)) aD)) (cI 4) (bN (eT (gP (aT (aB (a8 false) (aB bJ (aA 3) (mC (.int 4))) (mC (.int 2)))) (aT (aB (a8 false) (aB bJ (aA 4) (mC (.int 2))) (mC (.int 1))))) (gP (aT (aB (a8 false) (aB bJ (aA 3) (mC (.int 2))) (mC (.int 1)))) (aT (aB (a8 false) (aB bJ (aA 4) (mC (.int 4))) (mC (.int 2)))))) (eU (gZ iN (aA 2) (aC (bW (aC (aA 3) (aC (aA 4) aD))) aD))) bM))) (bC (aA 2)))) [some a,some b,none,none,none] c):=by
 kernel_rfl
theorem Qn (k:Nat)(a b:D)(c:Hm):f (k+1) "_law_led" [a,b] c=aS ((aK (iK (aA 0) (dM [2,3,4,5,6,7])) (bC (bW (aC (aB bK (aB bK (aB bX (aA 2) (aB aH (aA 1) (mC (.int 0)))) (aB bX (aA 3) (aB aH (aA 1) (mC (.int 1))))) (aA 6)) (aC (aB bK (aB bK (aB bX (aA 4) (aB aH (aA 1) (mC (.int 0)))) (aB bX (aA 5) (aB aH (aA 1) (mC (.int 1))))) (aA 7)) aD))))) [some a,some b,none,none,none,none,none,none] c):=by
 kernel_rfl
theorem Qo (k:Nat)(a b:D)(c:Hm):f (k+1) "_law_over" [a,b] c=aS ((aK (iK (aA 0) (dM [2,3,4,5,6,7])) (aK (iK (aA 1) (dM [8,9])) (aK (bN (aT (aB (a8 false) (aA 8) (mC (.int 0)))) (bC (bW (aC (aA 2) (aC (aA 3) (aC (c6 (aA 4)) (aC (c6 (aA 5)) (aC (aA 6) (aC (aB cQ (aB bX (mC (.int 2)) (aA 9)) (aA 7)) aD)))))))) bM) (aK (bN (aT (aB (a8 false) (aA 8) (mC (.int 1)))) (bC (bW (aC (c6 (aA 2)) (aC (c6 (aA 3)) (aC (aA 4) (aC (aA 5) (aC (aB cQ (aB bX (mC (.int 2)) (aA 9)) (aA 6)) (aC (aA 7) aD)))))))) bM) (aK (bN (aT (aB (a8 false) (aA 8) (mC (.int 2)))) (bC (bW (aC (aA 4) (aC (aA 5) (aC (aA 2) (aC (aA 3) (aC (aB bK (aA 7) (aA 9)) (aC (aB cQ (aA 6) (aA 9)) aD)))))))) bM) (bC (bW (aC (c6 (aA 4)) (aC (c6 (aA 5)) (aC (c6 (aA 2)) (aC (c6 (aA 3)) (aC (aB cQ (aA 9) (aA 7)) (aC (aB cQ (aA 9) (aA 6)) aD))))))))))))) [some a,some b,none,none,none,none,none,none,none,none] c):=by
 kernel_rfl
theorem Qp (k:Nat)(a b:D)(c:Hm):f (k+1) "_law_value" [a,b] c=aS ((bC (aB aH (cU (aC (aB aH (aA 0) (mC (.int 1))) (aC (aB aH (aA 0) (mC (.int 0))) (aC (aB cQ (aB aH (aA 0) (mC (.int 0))) (aB aH (aA 0) (mC (.int 1)))) (aC (aB bK (aB aH (aA 0) (mC (.int 0))) (aB aH (aA 0) (mC (.int 1)))) aD))))) (aA 1))) [some a,some b] c):=by
 kernel_rfl
theorem Qq (k:Nat)(a b:D)(c:Hm):f (k+1) "_law_begun" [a,b] c=aS ((aK (aQ 2 f6) (aK (aQ 3 f6) (aK (cD (cR (aG (f k "_law_quarters") (aC (aA 0) (aC (aA 1) aD)))) (cI 4) (aK (cM (aA 2) (aA 4) (bW (aC (mC (.int 1)) (aC (mC (.int 0)) (aC (mC (.int 0)) (aC (mC (.int 1)) (aC (mC (.int 0)) (aC (mC (.int 0)) aD)))))))) (cM (aA 3) (aA 4) (cU (aC (aA 4) aD))))) (bC (bW (aC (aA 2) (aC (aA 3) aD))))))) [some a,some b,none,none,none] c):=by
 kernel_rfl
theorem Qr (k:Nat)(a b c d:D)(e:Hm):f (k+1) "_law_folded" [a,b,c,d] e=aS ((aK (aQ 4 (aG oB (aC (aB aH (aA 0) (mC (.int 0))) aD))) (aK (dB 1001 (aQ 6 (c4 (e8 (aB aH (aA 0) (mC (.int 1)))) (aT (aB (a8 false) (aB kX (aG (f k "_law_value") (aC (aA 11) (aC (aB aH (aA 1) (mC (.int 0))) aD))) (aB aH (aA 1) (mC (.int 1)))) (aA 2))) (aA 11))) (aQ 6 (c4 (cR (aB aH (aA 0) (mC (.int 1)))) (aT (aB (a8 false) (aB kX (aG (f k "_law_value") (aC (aA 11) (aC (aB aH (aA 1) (mC (.int 0))) aD))) (aB aH (aA 1) (mC (.int 1)))) (aA 2))) (aA 11)))) (aK (bN (eT (aT (aB (a8 false) (aA 6) (cU aD))) (aT (aB (a8 false) (aG eI (aC (aA 6) aD)) (aG eI (aC (aB aH (aA 0) (mC (.int 1))) aD))))) (bC (mC .non)) bM) (aK (cD (cR (aG eJ (aC (aA 4) aD))) (cI 7) (bN (aT (aB (cW false) (aG (f k "_law_led") (aC (aB aH (aA 4) (aA 7)) (aC (aA 7) aD))) (aA 6))) (cM (aA 4) (aA 7) (aG (f k "_law_over") (aC (aB aH (aA 4) (aA 7)) (aC (aA 1) aD)))) bM)) (aK (aQ 8 f6) (aK (dB 1001 (cD (e8 (aB aH (aA 0) (mC (.int 1)))) (cI 5) (bN (aT (aB (cW true) (aA 5) (aA 6))) (cM (aA 8) (aA 5) (aG eJ (aC (aB aH (aB aH (aA 0) (mC (.int 1))) (aA 5)) aD))) bM)) (cD (cR (aB aH (aA 0) (mC (.int 1)))) (cI 5) (bN (aT (aB (cW true) (aA 5) (aA 6))) (cM (aA 8) (aA 5) (aG eJ (aC (aB aH (aB aH (aA 0) (mC (.int 1))) (aA 5)) aD))) bM))) (aK (cD (cR (aA 6)) (cI 5) (aK (aQ 9 (aG (f k "_law_led") (aC (aG (f k "_law_over") (aC (bW (aC (mC (.int 1)) (aC (mC (.int 0)) (aC (mC (.int 0)) (aC (mC (.int 1)) (aC (mC (.int 0)) (aC (mC (.int 0)) aD))))))) (aC (aA 1) aD))) (aC (aA 5) aD)))) (aK (aQ 10 (mL (aB aH (aB aH (aA 0) (mC (.int 1))) (aA 5)) gR gR (i0 (c6 (mC (.int 1)))))) (bN (eY (aA 3)) (cM (aA 8) (aA 9) (aB bK (f7 fJ (aA 8) (aC (aA 9) (aC (cU aD) aD))) (aA 10))) (cM (aA 8) (aA 9) (aB bK (aA 10) (f7 fJ (aA 8) (aC (aA 9) (aC (cU aD) aD))))))))) (bC (bW (aC (aA 4) (aC (aA 8) aD))))))))))) [some a,some b,some c,some d,none,none,none,none,none,none,none] e):=by
 kernel_rfl
theorem Qs (k:Nat)(a b c:D)(d:Hm):f (k+1) "_law_plan" [a,b,c] d=aS ((aK (aQ 3 (aB bJ (aA 1) (mC (.int 4)))) (aK (aQ 4 (aG eJ (aC (aB aH (aA 0) (mC (.int 1))) aD))) (aK (aQ 5 (aB aH (aA 4) (aB bJ (aB dS (aA 1) (mC (.int 64))) (aG eI (aC (aA 4) aD))))) (aK (aQ 6 (aB bK (aB bX (aB dS (aG (f k "_law_value") (aC (aA 5) (aC (aA 3) aD))) (mC (.int 4))) (mC (.int 4))) (aB bX (aB bJ (aB dS (aA 1) (mC (.int 4))) (mC (.int 2))) (mC (.int 4))))) (aK (bN (aT (aB (a8 false) (aB bJ (aB dS (aA 1) (mC (.int 8))) (mC (.int 7))) (mC (.int 3)))) (aQ 6 (aB bX (mC (.int 4)) (aB cQ (aB bJ (aA 2) (aB bX (mC (.int 2)) (aB gT (mC (.int 10)) (mC (.int 58))))) (aB gT (mC (.int 10)) (mC (.int 58)))))) bM) (aK (aQ 7 (aB cQ (aB bJ (aB dS (aA 2) (mC (.int 3))) (mC (.int 9))) (mC (.int 4)))) (aK (bN (aT (aB (a8 false) (aB bJ (aB dS (aA 1) (mC (.int 56))) (mC (.int 5))) (mC (.int 2)))) (aQ 7 (aB bJ (aB dS (aA 2) (mC (.int 7))) (aB gT (mC (.int 10)) (mC (.int 57))))) bM) (aK (aQ 8 (aB aH (cU (aC (bW (aC (aB bK (mC (.int 2)) (aB bX (mC (.int 4)) (aA 7))) (aC (aA 6) aD))) (aC (bW (aC (aA 6) (aC (aB bK (mC (.int 2)) (aB bX (mC (.int 4)) (aA 7))) aD))) (aC (bW (aC (aB bK (aB bK (aA 6) (mC (.int 1))) (aB bX (mC (.int 2)) (aA 7))) (aC (aB bK (mC (.int 1)) (aB bX (mC (.int 2)) (aA 7))) aD))) (aC (bW (aC (aB bK (mC (.int 1)) (aB bX (mC (.int 2)) (aA 7))) (aC (aB cQ (aB cQ (aA 6) (mC (.int 1))) (aB bX (mC (.int 2)) (aA 7))) aD))) aD))))) (aA 3))) (bC (bW (aC (aA 8) (aC (bW (aC (aA 3) (aC (aA 6) aD))) (aC (aB (a8 false) (aB bJ (aB dS (aA 1) (mC (.int 280))) (mC (.int 2))) (mC (.int 1))) (aC (aB (a8 false) (aB bJ (aB dS (aA 1) (mC (.int 560))) (mC (.int 2))) (mC (.int 1))) aD)))))))))))))) [some a,some b,some c,none,none,none,none,none,none] d):=by
 kernel_rfl
theorem Qt (k:Nat)(a b c:D)(d:Hm):f (k+1) "_law_go" [a,b,c] d=aS ((aK (aQ 3 (aB bK (mC (.int 1)) (aB bJ (aG (f k "_law_cell") (aC (aA 0) (aC (mC (.int 0)) aD))) (aA 1)))) (aK (aQ 4 (aB bK (mC (.int 1)) (aB bJ (aB dS (aG (f k "_law_cell") (aC (aA 0) (aC (mC (.int 0)) aD))) (aA 1)) (aA 1)))) (aK (aQ 5 (k7 "Folding" (f k "Folding") (aC (aA 3) (aC (aA 4) aD)))) (aK (aQ 6 (aG (f k "_law_begun") (aC (aA 3) (aC (aA 4) aD)))) (aK (cD (pP (aC (mC (.int 1)) (aC (aB bK (aB bX (mC (.int 2)) (aA 2)) (mC (.int 1))) (aC (mC (.int 2)) aD)))) (cI 7) (aK (iK (aG (f k "_law_plan") (aC (aA 6) (aC (aG (f k "_law_cell") (aC (aA 0) (aC (aA 7) aD))) (aC (aG (f k "_law_cell") (aC (aA 0) (aC (aB bK (aA 7) (mC (.int 1))) aD))) aD)))) (dM [8,9,10,11])) (aK (aQ 12 (aG (f k "_law_folded") (aC (aA 6) (aC (aA 9) (aC (aA 10) (aC (aA 11) aD)))))) (bN (aT (aB (hU true) (aA 12) (mC .non))) (aK (eU (hJ "Folding" "fold" (f k "Folding.fold") (aA 5) (aC (aA 8) (aC (aA 10) (aC (aA 11) aD))))) (aQ 6 (aA 12))) bM)))) (bC (bW (aC (aA 3) (aC (aA 4) (aC (aA 5) aD)))))))))) [some a,some b,some c,none,none,none,none,none,none,none,none,none,none] d):=by
 kernel_rfl
theorem Qu (k:Nat)(a b c:D)(d:Hm):f (k+1) "_law_sign" [a,b,c] d=aS ((aK (bN (iX (eT (gP (aT (aB (a8 false) (aB bJ (aA 1) (mC (.int 4))) (mC (.int 2)))) (aT (aB (a8 false) (aB bJ (aA 2) (mC (.int 2))) (mC (.int 1))))) (gP (aT (aB (a8 false) (aB bJ (aA 1) (mC (.int 2))) (mC (.int 1)))) (aT (aB (a8 false) (aB bJ (aA 2) (mC (.int 4))) (mC (.int 2))))))) (bC (mC (.str " "))) bM) (aK (aQ 3 (aG eI (aC (f7 fJ (aA 0) (aC (bW (aC (aA 1) (aC (aA 2) aD))) (aC (cU aD) aD))) aD))) (bC (aB aH (mC (.str ".123456789#")) (aG fI (aC (aA 3) (aC (mC (.int 10)) aD))))))) [some a,some b,some c,none] d):=by
 kernel_rfl
theorem Qv (k:Nat)(a:D)(b:Hm):f (k+1) "_law_due" [a] b=aS ((aK (aQ 1 (aG eJ (aC (aA 0) aD))) (aK (aQ 2 (cU aD)) (aK (cD (gY (aC (aG fI (aC (c4 (cR (aA 1)) dA (aB aH (aA 6) (mC (.int 1)))) aD)) (aC (aB bK (aG hV (aC (c4 (cR (aA 1)) dA (aB aH (aA 6) (mC (.int 1)))) aD)) (mC (.int 1))) aD))) (cI 3) (aK (aQ 4 (mC (.str ""))) (aK (cD (gY (aC (aG fI (aC (c4 (cR (aA 1)) dA (aB aH (aA 6) (mC (.int 0)))) aD)) (aC (aB bK (aG hV (aC (c4 (cR (aA 1)) dA (aB aH (aA 6) (mC (.int 0)))) aD)) (mC (.int 1))) aD))) (cI 5) (aQ 4 (aB bK (aA 4) (aG (f k "_law_sign") (aC (aA 0) (aC (aA 5) (aC (aA 3) aD))))))) (eU (gZ iN (aA 2) (aC (aA 4) aD)))))) (bC (j5 jE (mC (.str "\n")) (aC (aA 2) aD)))))) [some a,none,none,none,none,none] b):=by
 kernel_rfl
theorem Qw (k:Nat)(a:D)(b:Hm):f (k+1) "law" [a] b=aS ((aK (iK (aG (f k "_law_go") (aC (aA 0) (aC (mC (.int 4)) (aC (aB bJ (aG (f k "_law_cell") (aC (aA 0) (aC (mC (.int 13)) aD))) (mC (.int 7))) aD)))) (dM [1,2,3])) (aK (aQ 4 (hJ "Folding" "piles" (f k "Folding.piles") (aA 3) aD)) (aK (aQ 5 (aG (f k "_law_due") (aC (aA 4) aD))) (aK (aQ 6 (aG (f k "outline") (aC (aA 4) aD))) (aK (aQ 7 (aG kH (aC (aA 4) aD))) (aK (aQ 8 (aB bJ (aB dS (aG (f k "_law_cell") (aC (aA 0) (aC (mC (.int 14)) aD))) (mC (.int 2))) (aG eI (aC (aA 7) aD)))) (aK (aQ 7 (aB bK (mB (aA 7) (i0 (aA 8)) gR) (mB (aA 7) gR (i0 (aA 8))))) (aK (bN (aT (aB (a8 false) (aB bJ (aG (f k "_law_cell") (aC (aA 0) (aC (mC (.int 14)) aD))) (mC (.int 2))) (mC (.int 1)))) (aQ 7 (aG j6 (aC (aA 7) aD))) bM) (aK (aQ 9 f6) (aK (cD (cR (aA 7)) (cI 10) (cM (aA 9) (aA 10) (aB aH (aA 4) (aA 10)))) (aK (bN (eT (iX (eY (aG i7 (aC (aA 6) (aC (mC (.ty "str")) aD))))) (eT (aT (aB (a8 true) (aA 6) (aA 5))) (aT (aB (a8 true) (aG (f k "outline") (aC (aA 9) aD)) (aA 5))))) (bC (mC (.bl false))) bM) (bC (iY (aB (a8 false) (aG (f k "outline") (aC (aA 4) aD)) (aA 5)) (aB (f9 false) (hJ "Folding" "piles" (f k "Folding.piles") (aA 3) aD) (aA 4))))))))))))))) [some a,none,none,none,none,none,none,none,none,none,none] b):=by
 kernel_rfl
theorem Qx (k:Nat)(a b c:D)(d:Hm):f (k+1) "Folding.__init__" [a,b,c] d=aS ((aK (eU (aG (f k "check_size") (aC (aA 1) (aC (aA 2) aD)))) (aK (k5 "Folding" "wide" (aA 0) (aA 1)) (aK (k5 "Folding" "high" (aA 0) (aA 2)) (k5 "Folding" "states" (aA 0) (cU (aC (aG (f k "unfolded") (aC (aA 1) (aC (aA 2) aD))) aD)))))) [some a,some b,some c] d):=by
 kernel_rfl
theorem Qy (k:Nat)(a b c d:D)(e:Hm):f (k+1) "Folding.fold" [a,b,c,d] e=aS ((aK (aQ 4 (aB aH (jC "Folding" "states" (aA 0)) (c6 (mC (.int 1))))) (aK (eU (aG (f k "check_fold") (aC (aB aH (aA 4) (mC (.int 1))) (aC (aA 1) aD)))) (aK (aQ 5 (gQ (eY (aA 2)) (mC (.int 1)) (c6 (mC (.int 1))))) (eU (gZ iN (jC "Folding" "states" (aA 0)) (aC (bW (aC (aG (f k "folded_layings") (aC (aB aH (aA 4) (mC (.int 0))) (aC (aA 1) (aC (aA 5) aD)))) (aC (aG (f k "folded_piles") (aC (aB aH (aA 4) (mC (.int 1))) (aC (aA 1) (aC (aA 5) (aC (aA 3) aD))))) aD))) aD)))))) [some a,some b,some c,some d,none,none] e):=by
 kernel_rfl
theorem Qz (k:Nat)(a:D)(b:Hm):f (k+1) "Folding.piles" [a] b=aS ((bC (aG (f k "copied_piles") (aC (aB aH (aB aH (jC "Folding" "states" (aA 0)) (c6 (mC (.int 1)))) (mC (.int 1))) aD))) [some a] b):=by
 kernel_rfl
theorem QC (k:Nat)(xs:List D)(a:Hm):f (k+1) "Folding" xs a=f k "Folding.__init__" xs a:=by
 kernel_rfl
end Lw
namespace Lw
open PySem L2 L3
theorem yY {z:Int}{a:Hm}{Q:D×Hm->Prop}:W (bX (.int 2) (.int z) a) Q↔Q (.int (2 * z),a):=jJ (.inl ⟨by decide,by decide⟩)
theorem oO {z:Int}{a:Hm}{Q:D×Hm->Prop}:W (bX (.int 4) (.int z) a) Q↔Q (.int (4 * z),a):=jJ (.inl ⟨by decide,by decide⟩)
theorem tL {z:Int}{a:Hm}{Q:D×Hm->Prop}:W (bJ (.int z) (.int 2) a) Q↔Q (.int (z % 2),a):=dP (by decide)
theorem qL {z:Int}{a:Hm}{Q:D×Hm->Prop}:W (bJ (.int z) (.int 4) a) Q↔Q (.int (z % 4),a):=dP (by decide)
theorem QD:(2:Nat)<=TC:=by decide
theorem eP {a b:D}:([a,b]:List D).length<=TC:=QD
theorem QF:(1:Nat)<=TC:=by decide
theorem D2 {a:D}:([a]:List D).length<=TC:=QF
theorem QH {z:Int}{a:Hm}{Q:D×Hm->Prop}:W (bX (.int z) (.int 4) a) Q↔Q (.int (z * 4),a):=jJ (.inr ⟨by decide,by decide⟩)
noncomputable def q0:D->Int
 | .int i=>i
 | _=>0
theorem QK {lo:Int}{n:Nat}{d:D}(h:d∈fN lo n):∃ j:Nat,j<n/\d=.int (lo+(j:Int)):=by
 unfold fN at h
 obtain ⟨j,a,rfl⟩:=Ts.mp h
 exact ⟨j,Vk.mp a,rfl⟩
theorem tN {a C:MS}{d b:aI}{c μ':Hm}{Q:D×Hm->Prop}(h:a d c=some (.nx,b,μ'))(k:W (aS (C b μ')) Q):W (aS (aK a C d c)) Q:=by
 unfold aK
 rw [h]
 exact k
theorem D3 {i:Nat}{m:ME}{a:aI}{b μ':Hm}{d:D}(h:m a b=some (d,μ')):aQ i m a b=some (.nx,a.set i (some d),μ'):=by
 unfold aQ
 rw [h]
 rfl
theorem yZ {a:Type}{o:Option a}{r:a}{Q:a->Prop}(h:W o fun x=>x=r):W o Q↔Q r:=by
 obtain ⟨_,h,rfl⟩:=h
 rw [h]
 exact W_some
theorem D4 {a:Type}{o:Option a}{r:a}(h:∀ Q:a->Prop,W o Q↔Q r):o=some r:=by
 obtain ⟨_,e,b⟩:=(h fun x=>x=r).mpr rfl
 rw [e,b]
theorem QL {g:D->D->Hm->Option (D×Hm)}{a b:ME}{e:aI}{h c d:Hm}{x y:D}{Q:D×Hm->Prop}(i:a e h=some (x,c))(j:b e c=some (y,d))(k:W (g x y d) Q):W (aB g a b e h) Q:=by
 unfold aB
 rw [i,TZ,j]
 exact k
theorem QM {m:ME}{b:aI}{a:Hm}{Q:D×Hm->Prop}(k:W (m b a) Q):W (aS (bC m b a)) Q:=W_fin.mpr (w_mRet.mpr (bO k fun _ q=>q))
noncomputable def qM (x y:Int):Str:=if x % 2=1 then (if x % 4=y % 4 then "falling" else "rising") else if y % 4=0 then "level" else "upright"
theorem D5 (k:Nat)(x y:Int)(a:Hm)(Q:D×Hm->Prop):W (f (k+1) "line_of" [P x y] a) Q↔Q (.str (qM x y),a):=by
 rw [P0,W_fin]
 simp only [bH,w_mRet,dE,c7,oI,a9,bB,aF,dG,lL,hW,w_eqI,dP (show (0:Int)<2 by decide),dP (show (0:Int)<4 by decide)]
 unfold qM
 split<;>split<;>simp_all
noncomputable def iA (x y:Int)(a b:Int):Int:=if x % 2=1 then (if x % 4=y % 4 then a - b else a+b) else if y % 4=0 then b else a
theorem D6 (k:Nat)(x y a b:Int)(c:Hm)(Q:D×Hm->Prop):W (f (k+1) "number_by" [.str (qM x y),P a b] c) Q↔Q (.int (iA x y a b),c):=by
 refine yZ ?_
 rw [P1]
 unfold qM iA
 split<;>split<;>exact ⟨_,rfl,rfl⟩
noncomputable def dC (p e:Int×Int):Int×Int:=
 if e.1 % 2=1 then (if e.1 % 4=e.2 % 4 then (p.2+(e.1 - e.2),p.1 - (e.1 - e.2)) else (e.1+e.2 - p.2,e.1+e.2 - p.1)) else if e.2 % 4=0 then (p.1,2 * e.2 - p.2) else (2 * e.1 - p.1,p.2)
theorem D7 (k:Nat)(x y a b:Int)(c:Hm)(Q:D×Hm->Prop):W (f (k+2) "mirrored" [P x y,P a b] c) Q↔Q (PP (dC (x,y) (a,b)),c):=by
 refine yZ ?_
 rw [P4]
 refine tN rfl (tN rfl (tN (D3 (D4 (D5 k a b c))) (tN (D3 (D4 (D6 k a b a b c))) ?_)))
 unfold qM iA dC
 split<;>split<;>exact ⟨_,rfl,rfl⟩
noncomputable def iB:D->Int×Int
 | .tup [.int x,.int y]=>(x,y)
 | _=>(0,0)
theorem D8 (p:Int×Int->Bool)(l:List (Int×Int)):((l.map PP).filter fun d=>p (iB d)).map (fun d=>d)=(l.filter p).map PP:=by
 rw [List.map_id']
 induction l with
 | nil=>rfl
 | cons a l b=>
  have e:(a1P PP (a::l)).filter (fun d=>p (iB d))=if p a then PP a::(l.map PP).filter (fun d=>p (iB d)) else (l.map PP).filter fun d=>p (iB d):=by
   rw [Tq,XQ];rfl
  rw [e,b,XQ]
  split<;>rfl
theorem QN {d:D}{l:List (Int×Int)}(h:d∈l.map PP):∃ x y,d=P x y:=by
 obtain ⟨p,_,rfl⟩:=Ts.mp h
 exact ⟨p.1,p.2,rfl⟩
theorem D9 {n:Nat}{i:Int}(a:0<=i)(h:i<n):kS n i=some i.toNat:=by
 unfold kS;rw [if_pos a,if_pos h]
theorem Ea {a:List Int}{i:Int}(b:0<=i)(h:i<a.length):atI (a.map D.int) i=some (.int (a.getD i.toNat 0)):=by
 unfold atI
 rw [Tc,D9 b h,TZ,TH]
 have c:i.toNat<a.length:=by omega
 simp [V1,c]
theorem Eb {xs:List D}{i:Int}{d:D}{a:Hm}{Q:D×Hm->Prop}(h:atI xs i=some d):W (aH (.rol xs) (.int i) a) Q↔Q (d,a):=by
 have:aH (.rol xs) (.int i) a=some (d,a):=by
  simp only [aH,fE,bP,TZ,h,Ub]
 rw [this]
 exact W_some
theorem QR {a:Hm}{b:Nat}{ns:List Int}{Q:D×Hm->Prop}(e:a[b]? = some (.lst [])):W (a8 false (.rol (ns.map D.int)) (.loc b) a) Q↔Q (.bl (ns == []),a):=by
 have c:dR a (.rol (ns.map D.int))=some (.lst (ns.map D.int)):=rfl
 have d:dR a (.loc b)=some (.lst (([]:List Int).map D.int)):=by simp only [dR,e];rfl
 have:cZ 8 a (.rol (ns.map D.int)) (.loc b)=some (ns == []):=by
  show (dR a (.rol (ns.map D.int))).bind (fun x=>(dR a (.loc b)).bind fun y=>iH (cZ 7 a) x y)=_
  rw [c,d]
  exact DT 6 a ns []
 unfold a8
 rw [this]
 exact W_some
noncomputable def iC (ns:List Int)(i:Int):Int:=if i<ns.length then ns.getD i.toNat 0 else if ns=[] then i * i * 48271 % 2147483647 else
 ((ns.getD (i % ns.length).toNat 0 % 2147483629+i * i * 69623) * 48271 % 2147483647) * ((ns.getD (i % ns.length).toNat 0 % 2147483629+i * i * 69623) * 48271 % 2147483647) % 2147483629
theorem QU {i:Int}(a:0<=i/\i<=100):0<=i * i/\i * i<=10000:=by
 refine ⟨Int.mul_nonneg a.1 a.1,?_⟩
 have:=a2e a.2 a.2 a.1 (by decide)
 omega
theorem mW (k:Nat)(ns:List Int)(i:Int)(b:0<=i/\i<=100)(d:Hm)(Q:D×Hm->Prop)(H:∀ μ',d <+: μ'->Q (.int (iC ns i),μ')):W (f (k+1) "_law_cell" [.rol (ns.map D.int),.int i] d) Q:=by
 rw [Ql,W_fin]
 have l:=QU b
 simp only [bH,c7,dG,a9,bE,aU,aR,aF,aJ,bB,DV,DL,Tc]
 by_cases h:i<ns.length
 ·simp only [h,decide_true,if_true,w_mRet,a9,aF,aJ]
  rw [Eb (Ea b.1 h)]
  have e:iC ns i=ns.getD i.toNat 0:=by unfold iC;rw [if_pos h]
  rw [<- e]
  exact H _ (UI _)
 ·simp only [h,decide_false,Tw,if_false,dE,bH,c7,dG,a9,aF,gD,aR]
  refine ⟨Uz _,?_⟩
  refine (QR (cA _ _)).mpr ?_
  by_cases a:ns=[]
  ·have e:(ns == [])=true:=by rw [a];rfl
   simp only [e,if_true,w_mRet,a9,aF,aJ,bB]
   refine (jJ (.inl (by omega))).mpr ((jJ (.inr (by omega))).mpr ((dP (by decide)).mpr ?_))
   have e:iC ns i=i * i * 48271 % 2147483647:=by unfold iC;rw [if_neg h,if_pos a]
   rw [<- e]
   exact H _ (bD _ _)
  ·have e:(ns == [])=false:=by
    cases ns with
    | nil=>exact absurd rfl a
    | cons=>rfl
   have j:0<ns.length:=VM.mpr a
   simp only [e,Tw,if_false,dE,bH,b7,w_mRet,a9,aF,aJ,bB,bE,aU,aR,DV,Tc]
   refine (dP (by omega)).mpr ?_
   have c:0<=i % (ns.length:Int)/\i % (ns.length:Int)<ns.length:=⟨WK _ (by omega),We _ (by omega)⟩
   rw [Eb (Ea c.1 c.2)]
   have e:iC ns i=((ns.getD (i % ns.length).toNat 0 % 2147483629+i * i * 69623) * 48271 % 2147483647) * ((ns.getD (i % ns.length).toNat 0 % 2147483629+i * i * 69623) * 48271 % 2147483647) % 2147483629:=by
    unfold iC;rw [if_neg h,if_neg a]
   refine (dP (by decide)).mpr ((jJ (.inl (by omega))).mpr ((jJ (.inr (by omega))).mpr ?_))
   simp only [fM]
   refine (jJ (.inr (by omega))).mpr ((dP (by decide)).mpr ?_)
   simp only [Tj,Tn,aF,aJ]
   generalize hy:(ns.getD (i % ns.length).toNat 0 % 2147483629+i * i * 69623) * 48271 % 2147483647=y at e
   have g:0<=y/\y<2147483647:=by
    rw [<- hy];exact ⟨WK _ (by decide),We _ (by decide)⟩
   refine (jJ (.inl (by omega))).mpr ((dP (by decide)).mpr ?_)
   rw [<- e]
   exact H _ (bD _ _)
structure Ly where
 a:Int
 b:Int
 c:Int
 d:Int
 e:Int
 g:Int
 deriving DecidableEq
noncomputable abbrev LD (A:Ly):D:=.tup [.int A.a,.int A.b,.int A.c,.int A.d,.int A.e,.int A.g]
noncomputable def Dih (A:Ly):Prop:=(A.b=0/\A.c=0/\(A.a=1\/A.a = -1)/\(A.d=1\/A.d = -1))\/(A.a=0/\A.d=0/\(A.b=1\/A.b = -1)/\(A.c=1\/A.c = -1))
theorem Dih.sm {A:Ly}(h:Dih A):(-1<=A.a/\A.a<=1)/\(-1<=A.b/\A.b<=1)/\(-1<=A.c/\A.c<=1)/\(-1<=A.d/\A.d<=1):=by
 unfold Dih at h
 omega
noncomputable def aL (A:Ly)(p:Int×Int):Int×Int:=(A.a * p.1+A.b * p.2+A.e,A.c * p.1+A.d * p.2+A.g)
noncomputable def eQ (A B:Ly):Ly:=⟨B.a * A.a+B.b * A.c,B.a * A.b+B.b * A.d,B.c * A.a+B.d * A.c,B.c * A.b+B.d * A.d,B.a * A.e+B.b * A.g+B.e,B.c * A.e+B.d * A.g+B.g⟩
noncomputable def cX:Ly:=⟨1,0,0,1,0,0⟩
noncomputable def tP (e:Int×Int):Ly:=
 ⟨(dC (1,0) e).1 - (dC (0,0) e).1,(dC (0,1) e).1 - (dC (0,0) e).1,(dC (1,0) e).2 - (dC (0,0) e).2,(dC (0,1) e).2 - (dC (0,0) e).2,(dC (0,0) e).1,(dC (0,0) e).2⟩
theorem Ly.ext' {A B:Ly}(a:A.a=B.a)(b:A.b=B.b)(c:A.c=B.c)(d:A.d=B.d)(e:A.e=B.e)(g:A.g=B.g):A=B:=by
 cases A;cases B;simp_all
theorem QV (A B:Ly)(p:Int×Int):aL (eQ A B) p=aL B (aL A p):=by
 unfold aL eQ
 refine WD ?_ ?_<;>dsimp only<;>grind
theorem QX (A:Ly):eQ cX A=A:=by
 unfold eQ cX
 exact Ly.ext' (by dsimp only;omega) (by dsimp only;omega) (by dsimp only;omega) (by dsimp only;omega) (by dsimp only;omega) (by dsimp only;omega)
theorem QY:Dih cX:=.inl ⟨rfl,rfl,.inl rfl,.inl rfl⟩
theorem lM {x y:Int}(a:x=1\/x = -1)(b:y=1\/y = -1):x * y=1\/x * y = -1:=by
 rcases a with rfl|rfl<;>rcases b with rfl|rfl<;>decide
theorem QZ {A B:Ly}(hA:Dih A)(hB:Dih B):Dih (eQ A B):=by
 unfold Dih eQ
 dsimp only
 rcases hA with ⟨c,d,a,b⟩|⟨c,d,a,b⟩<;>rcases hB with ⟨k1,k2,k3,k4⟩|⟨k1,k2,k3,k4⟩<;>rw [c,d,k1,k2]<;>simp only [Int.mul_zero,Int.zero_mul,Int.add_zero,Int.zero_add,true_and]
 ·exact .inl ⟨lM k3 a,lM k4 b⟩
 ·exact .inr ⟨lM k3 b,lM k4 a⟩
 ·exact .inr ⟨lM k3 a,lM k4 b⟩
 ·exact .inl ⟨lM k3 b,lM k4 a⟩
theorem oP (p:Int×Int):aL cX p=p:=by
 unfold aL cX
 refine WD ?_ ?_<;>dsimp only<;>omega
theorem Ec {a b c d e g:D}:([a,b,c,d,e,g]:List D).length<=TC:=by show (6:Nat)<=TC;decide
theorem Ed (k:Nat)(p q r:Int×Int)(a:Hm)(Q:D×Hm->Prop):W (f (k+1) "laying_by" [PP p,PP q,PP r] a) Q↔Q (LD ⟨q.1 - p.1,r.1 - p.1,q.2 - p.2,r.2 - p.2,p.1,p.2⟩,a):=by
 rw [P7,W_fin]
 simp only [w_mRet,eM,aU,aR,a9,aF,aJ,bB,lL,hW,qI,Ec,true_and]
theorem Q0 (k:Nat)(x y:Int)(a:Hm)(Q:D×Hm->Prop):W (f (k+3) "mirror_in" [P x y] a) Q↔Q (LD (tP (x,y)),a):=by
 rw [P8,W_fin]
 simp only [w_mRet,bE,aU,aR,eM,aF,bB,eP,true_and,D7,Ed]
 rfl
theorem lN {i j:Int}(h:-1<=i/\i<=1){a:Hm}{Q:D×Hm->Prop}:W (bX (.int i) (.int j) a) Q↔Q (.int (i * j),a):=jJ (.inl ⟨by omega,by omega⟩)
theorem y4 (k:Nat)(A:Ly)(hA:Dih A)(x y:Int)(a:Hm)(Q:D×Hm->Prop):W (f (k+1) "led" [LD A,P x y] a) Q↔Q (PP (aL A (x,y)),a):=by
 obtain ⟨b,c,d,e⟩:=hA.sm
 rw [P9,W_fin]
 simp only [bH,b7,w_mRet,eM,aU,aR,a9,aF,aJ,bB,lL,hW,Po,Pp,Pq,Pr,Pt,Pu,Tj,Tn,lN b,lN c,lN d,lN e,fM,eP,true_and]
 rfl
theorem Q1 (k:Nat)(A B:Ly)(hA:Dih A)(hB:Dih B)(a:Hm)(Q:D×Hm->Prop):W (f (k+2) "then" [LD A,LD B] a) Q↔Q (LD (eQ A B),a):=by
 rw [Qa,W_fin]
 simp only [w_mRet,bE,aU,aR,eM,aF,aJ,bB,eP,true_and,y4 _ A hA,y4 _ B hB,Ed]
 have e:(⟨(aL B (aL A (1,0))).1 - (aL B (aL A (0,0))).1,(aL B (aL A (0,1))).1 - (aL B (aL A (0,0))).1,(aL B (aL A (1,0))).2 - (aL B (aL A (0,0))).2,(aL B (aL A (0,1))).2 - (aL B (aL A (0,0))).2,(aL B (aL A (0,0))).1,(aL B (aL A (0,0))).2⟩:Ly)=eQ A B:=by
  unfold aL eQ
  refine Ly.ext' ?_ ?_ ?_ ?_ ?_ ?_<;>dsimp only<;>grind
 rw [<- e]
noncomputable def jL (lo:Int)(n m:Nat):List (Int×Int):=(Ui n).flatMap fun (i:Nat)=>(Ui m).map fun (j:Nat)=>(lo+(i:Int),lo+(j:Int))
noncomputable def iQ (lo x:Int)(m:Nat):List (Int×Int):=(Ui m).map fun (j:Nat)=>(x,lo+(j:Int))
theorem Ee (lo:Int)(n m:Nat):jL lo (n+1) m=jL lo n m++iQ lo (lo+(n:Int)) m:=by
 unfold jL iQ;rw [Xd,a0C];simp
theorem Ef (lo x:Int)(m:Nat):iQ lo x (m+1)=iQ lo x m++[(x,lo+(m:Int))]:=by
 unfold iQ;rw [Xd,TM];rfl
theorem Eg (lo x:Int)(m:Nat):(iQ lo x m).length=m:=by unfold iQ;simp
theorem Eh (lo:Int)(m:Nat):∀ n:Nat,(jL lo n m).length=n * m
 | 0=>by simp [jL]
 | n+1=>by rw [Ee,Tz,Eh lo m n,Eg,YM]
theorem Ei {d:Hm}{a:Nat}{c b:C}:(d.set a c).set a b=d.set a b:=YA ..
theorem iR {d:Hm}{a:Nat}{c b:C}(h:d[a]? = some c):(d.set a b)[a]? = some b:=by
 rw [TU (Tf.mp h).1]
theorem y6 (a:Hm)(c b:C):(a++[c]).set a.length b=a++[b]:=by
 rw [W3 _ _ (Tt _)];simp
theorem qN {b:Hm}{a:Nat}{c:C}(h:b[a]? = some c):b.set a c=b:=by
 obtain ⟨d,rfl⟩:=Tf.mp h
 exact List.set_getElem_self d
noncomputable abbrev Ej:MS:=eU (gZ iN (aA 2) (aC (bW (aC (aA 3) (aC (aA 4) aD))) aD))
theorem Q2 (T:MT)(pr:Int->Int->Bool)(d e:D)(a:Nat)(x:Int)(r:∀ y b Q,W (T [some d,some e,some (.loc a),some (.int x),some (.int y)] b) Q↔Q (pr x y,b))(lo:Int)(m:Nat)(ps:List (Int×Int))(s:ps.length+m<=1000)(b:Hm)(g:b[a]? = some (.lst (ps.map PP)))(o:Option D)(Q:Fl×aI×Hm->Prop)
  (c:∀ o,Q (.nx,[some d,some e,some (.loc a),some (.int x),o],b.set a (.lst ((ps++(iQ lo x m).filter fun p=>pr p.1 p.2).map PP)))):W (eE (fU lo m) (cI 4) (bN T Ej bM) (m+1) 0 [some d,some e,some (.loc a),some (.int x),o] b) Q:=by
 refine oM (fun i l h=>i<=m/\h=b.set a (.lst ((ps++(iQ lo x i).filter fun p=>pr p.1 p.2).map PP))/\∃ o,l=[some d,some e,some (.loc a),some (.int x),o]) ⟨Uz _,?_,o,rfl⟩ ?_ ?_
 ·simp only [iQ,a1J,WS,WI,UM]
  exact (qN g).symm
 ·rintro i l j q ⟨_,rfl,o,rfl⟩
  refine ⟨_,rfl,?_⟩
  simp only [Tj,Tn,c7]
  rw [r]
  cases n:pr x (lo+(i:Int)) with
  | false=>
   simp only [Tw,if_false,dE]
   refine ⟨q,?_,_,rfl⟩
   rw [Ef,Vz]
   simp [n]
  | true=>
   simp only [if_true,mR]
   refine qK ?_
   simp only [aF,aJ]
   refine ⟨DU (iR g),?_⟩
   simp only [aU,aR,eM,aF,aJ,eP,true_and]
   refine (tJ (iR g) ?_).mpr ?_
   ·have:=U3 (fun p=>pr p.1 p.2) (iQ lo x i)
    rw [Eg] at this
    rw [Tc,Tz,T5]
    omega
   refine ⟨q,?_,_,rfl⟩
   rw [Ei,Ef,Vz]
   simp [n,PP,P]
 ·rintro l j ⟨_,rfl,o,rfl⟩
  exact c o
theorem Q3 (T:MT)(pr:Int->Int->Bool)(d e:D)(a:Nat)(s:MI)(lo:Int)(m:Nat)(hit:∀ o1 c b Q,W (s [some d,some e,some (.loc a),o1,c] b) Q↔Q (fU lo m,m+1,b))(v:∀ x y b Q,W (T [some d,some e,some (.loc a),some (.int x),some (.int y)] b) Q↔Q (pr x y,b))(n:Nat)(z:n * m+m<=900)(b:Hm)(q:b[a]? = some (.lst []))(Q:Fl×aI×Hm->Prop)
  (g:∀ o1 c,Q (.nx,[some d,some e,some (.loc a),o1,c],b.set a (.lst (((jL lo n m).filter fun p=>pr p.1 p.2).map PP)))):W (eE (fU lo n) (cI 3) (cD s (cI 4) (bN T Ej bM)) (n+1) 0 [some d,some e,some (.loc a),none,none] b) Q:=by
 refine oM (fun i l h=>i<=n/\h=b.set a (.lst (((jL lo i m).filter fun p=>pr p.1 p.2).map PP))/\∃ o1 c,l=[some d,some e,some (.loc a),o1,c]) ⟨Uz _,?_,none,none,rfl⟩ ?_ ?_
 ·simp only [jL,a1J,List.flatMap_nil,WI,WS]
  exact (qN q).symm
 ·rintro i l j r ⟨_,rfl,o1,c,rfl⟩
  refine ⟨_,rfl,?_⟩
  simp only [Tj,Tn,gE]
  rw [hit]
  refine Q2 T pr d e a _ (v _) lo m _ ?_ _ (iR q) _ _ fun o=>?_
  ·have u:=U3 (fun p=>pr p.1 p.2) (jL lo i m)
   rw [Eh] at u
   have w:i * m<=n * m:=a0A _ (YO r)
   omega
  ·refine ⟨r,?_,_,_,rfl⟩
   rw [Ei,Ee,Vz]
 ·rintro l j ⟨_,rfl,o1,c,rfl⟩
  exact g o1 c
noncomputable def y8 (x y:Int):Bool:=(x % 4 == 2&&y % 2 == 1)||(x % 2 == 1&&y % 4 == 2)
noncomputable def bV (w h:Int):List (Int×Int):=(jL 0 (4 * w).toNat (4 * h).toNat).filter fun p=>y8 p.1 p.2
noncomputable def bR (p:Int×Int):List Int:=[p.1,p.2]
theorem Q4 {a:Type}(l:List a)(d:a):(Ui l.length).map (fun i=>l.getD i d)=l:=by
 refine a1A (by simp) fun i c b=>?_
 simp [V1,b]
theorem Ek {a:List (Int×Int)}{i:Nat}{d:D}(h:(a.map PP)[i]? = some d):∃ p,a[i]? = some p/\d=PP p:=by
 rw [TH] at h
 obtain ⟨p,b,c⟩:=Tg.mp h
 exact ⟨p,b,c.symm⟩
theorem iD (q:Int×Int):eA (PP q)=some (bR q):=rfl
theorem Em {l:List (List Int×D)}(nd:(l.map (·.1)).Nodup){k:List Int}{d:D}(h:(k,d)∈l):b9 l k=some d:=by
 induction l with
 | nil=>cases h
 | cons p l a=>
  rw [Tq,UU] at nd
  unfold b9
  rw [UL]
  rcases T1.mp h with h|h
  ·rw [<- h]
   simp
  ·have:decide (p.1=k)=false:=decide_eq_false fun z=>nd.1 (Ts.mpr ⟨_,h,z.symm⟩)
   rw [this]
   exact a nd.2 h
theorem oQ {p q:Int×Int}(h:bR p=bR q):p=q:=by
 unfold bR at h
 injection h with h1 h2
 injection h2 with h2
 exact WD h1 h2
theorem Q5 {m:aI}{i1 i2 h i j l:Nat}{a b c d e g:D}{n:Hm}{Q:aI->Prop}:W (dM [i1,i2,h,i,j,l] (.tup [a,b,c,d,e,g]) m n) Q↔Q ((((((m.set i1 (some a)).set i2 (some b)).set h (some c)).set i (some d)).set j (some e)).set l (some g)):=W_some
noncomputable abbrev Gr:=List ((Int×Int)×List (Int×Int))
noncomputable abbrev Zr:=List ((Int×Int)×List (Int×Int)×Nat)
noncomputable def GZ (Z:Zr):Gr:=Z.map fun z=>(z.1,z.2.1)
noncomputable def aM (Z:Zr):List (List Int×D):=Z.map fun z=>(bR z.1,D.loc z.2.2)
structure GI (μ0 μ:Hm)(a:Nat)(Z:Zr):Prop where
 pre:μ0 <+: μ
 lo:μ0.length<=a
 dic:μ[a]? = some (.dT (aM Z))
 kd:(Z.map (·.1)).Nodup
 bd:(Z.map (·.2.2)).Nodup
 at_:∀ z∈Z,μ0.length<=z.2.2/\μ[z.2.2]? = some (.lst (z.2.1.map PP))
theorem mX {Z:Zr}{z:(Int×Int)×List (Int×Int)×Nat}(d:(Z.map (·.1)).Nodup)(h:z∈Z):b9 (aM Z) (bR z.1)=some (.loc z.2.2):=by
 refine Em ?_ (Ts.mpr ⟨z,h,rfl⟩)
 have e:(aM Z).map (·.1)=(Z.map (·.1)).map bR:=by
  unfold aM
  rw [TF,TF]
  rfl
 rw [e]
 exact X7 _ (fun a b c x=>c (oQ x)) d
theorem tQ {Z:Zr}{p:Int×Int}(h:p∉Z.map (·.1)):b9 (aM Z) (bR p)=none:=by
 unfold b9
 rw [a0M.mpr]
 ·rfl
 ·intro x a
  obtain ⟨z,b,rfl⟩:=Ts.mp a
  rw [decide_eq_true_iff]
  exact fun e=>h (Ts.mpr ⟨z,b,oQ e⟩)
theorem Eo {Z:Zr}{p:Int×Int}(h:p∈Z.map (·.1)):∃ z∈Z,z.1=p:=by
 obtain ⟨z,a,b⟩:=Ts.mp h
 exact ⟨z,a,b⟩
theorem Q6 {Z:Zr}(b:(Z.map (·.1)).Nodup){z y:(Int×Int)×List (Int×Int)×Nat}(c:z∈Z)(d:y∈Z)(e:z.1=y.1):z=y:=by
 induction Z with
 | nil=>cases c
 | cons x Z g=>
  rw [Tq,UU] at b
  rcases T1.mp c with a|a<;>rcases T1.mp d with h2|h2
  ·rw [a,h2]
  ·exact (b.1 (Ts.mpr ⟨y,h2,by rw [<- a];exact e.symm⟩)).elim
  ·exact (b.1 (Ts.mpr ⟨z,a,by rw [<- h2];exact e⟩)).elim
  ·exact g b.2 a h2
theorem Q7 {Z:Zr}(b:(Z.map (·.2.2)).Nodup){z y:(Int×Int)×List (Int×Int)×Nat}(c:z∈Z)(d:y∈Z)(e:z.2.2=y.2.2):z=y:=by
 induction Z with
 | nil=>cases c
 | cons x Z g=>
  rw [Tq,UU] at b
  rcases T1.mp c with a|a<;>rcases T1.mp d with h2|h2
  ·rw [a,h2]
  ·exact (b.1 (Ts.mpr ⟨y,h2,by rw [<- a];exact e.symm⟩)).elim
  ·exact (b.1 (Ts.mpr ⟨z,a,by rw [<- h2];exact e⟩)).elim
  ·exact g b.2 a h2
theorem gG (Z:Zr):(GZ Z).map (·.1)=Z.map (·.1):=by
 unfold GZ
 rw [TF]
 rfl
theorem GI.more {μ0 c μ':Hm}{a:Nat}{Z:Zr}(I:GI μ0 c a Z)(h:c <+: μ'):GI μ0 μ' a Z:=⟨I.pre.trans h,I.lo,aP h I.dic,I.kd,I.bd,fun z b=>⟨(I.at_ z b).1,aP h (I.at_ z b).2⟩⟩
theorem GI.ne {μ0 d:Hm}{a:Nat}{Z:Zr}(I:GI μ0 d a Z){z:(Int×Int)×List (Int×Int)×Nat}(c:z∈Z):z.2.2≠a:=fun e=>by
 have b:=(I.at_ z c).2
 rw [e,I.dic] at b
 cases b
theorem GI.hit {μ0 d:Hm}{a:Nat}{Z:Zr}(I:GI μ0 d a Z){z:(Int×Int)×List (Int×Int)×Nat}(b:z∈Z)(q:Int×Int) :
  GI μ0 (d.set z.2.2 (.lst (z.2.1.map PP++[PP q]))) a (Z.map fun y=>if y.1=z.1 then (y.1,y.2.1++[q],y.2.2) else y):=by
 have j:(Z.map fun y=>if y.1=z.1 then (y.1,y.2.1++[q],y.2.2) else y).map (·.1)=Z.map (·.1):=by
  rw [TF]
  refine Ul fun y _=>?_
  show (if y.1=z.1 then (y.1,y.2.1++[q],y.2.2) else y).1=y.1
  split<;>rfl
 have i:(Z.map fun y=>if y.1=z.1 then (y.1,y.2.1++[q],y.2.2) else y).map (·.2.2)=Z.map (·.2.2):=by
  rw [TF]
  refine Ul fun y _=>?_
  show (if y.1=z.1 then (y.1,y.2.1++[q],y.2.2) else y).2.2=y.2.2
  split<;>rfl
 have l:aM (Z.map fun y=>if y.1=z.1 then (y.1,y.2.1++[q],y.2.2) else y)=aM Z:=by
  unfold aM
  rw [TF]
  refine Ul fun y _=>?_
  show (bR (if y.1=z.1 then (y.1,y.2.1++[q],y.2.2) else y).1,D.loc (if y.1=z.1 then (y.1,y.2.1++[q],y.2.2) else y).2.2)=_
  split<;>rfl
 refine ⟨fL I.pre (I.at_ z b).1 _,I.lo,?_,by rw [j];exact I.kd,by rw [i];exact I.bd,fun y m=>?_⟩
 ·rw [l,Tv (I.ne b)]
  exact I.dic
 ·obtain ⟨x,c,rfl⟩:=Ts.mp m
  obtain ⟨g,h⟩:=I.at_ x c
  by_cases e:x.1=z.1
  ·have:x=z:=Q6 I.kd c b e
   subst this
   rw [if_pos rfl]
   refine ⟨g,?_⟩
   show (d.set x.2.2 _)[x.2.2]? = _
   rw [iR h,TM]
   rfl
  ·rw [if_neg e]
   refine ⟨g,?_⟩
   rw [Tv fun w=>e (by rw [Q7 I.bd c b w.symm])]
   exact h
theorem Ep {Z:Zr}{p:Int×Int}{qs:List (Int×Int)}{b:Nat}(h:p∉Z.map (·.1)):eB (aM Z) (bR p) (.loc b)=aM (Z++[(p,qs,b)]):=by
 unfold eB
 rw [tQ h,if_neg (by simp)]
 unfold aM
 rw [TM]
 rfl
theorem GI.new {μ0 j:Hm}{a b:Nat}{Z:Zr}(I:GI μ0 j a Z){p:Int×Int}(l:p∉Z.map (·.1)){qs:List (Int×Int)}(h:j[b]? = some (.lst (qs.map PP)))(n:μ0.length<=b)(o:∀ z∈Z,z.2.2≠b) :
  GI μ0 (j.set a (.dT (eB (aM Z) (bR p) (.loc b)))) a (Z++[(p,qs,b)]):=by
 have i:b≠a:=fun e=>by
  rw [e,I.dic] at h
  cases h
 refine ⟨fL I.pre I.lo _,I.lo,by rw [iR I.dic,Ep l],?_,?_,fun z c=>?_⟩
 ·rw [TM,WR]
  exact ⟨I.kd,by simp,fun x g y d e=>by
   simp only [Tq,WS,UA] at d
   rw [e,d] at g
   exact l g⟩
 ·rw [TM,WR]
  exact ⟨I.bd,by simp,fun x g y d e=>by
   simp only [Tq,WS,UA] at d
   obtain ⟨z,c,m⟩:=Ts.mp g
   exact o z c (by rw [m,e,d])⟩
 ·rcases U7.mp c with c|c
  ·rw [Tv (Uu (I.ne c))]
   exact I.at_ z c
  ·rw [UA.mp c]
   exact ⟨n,by rw [Tv (Uu i)];exact h⟩
theorem Er {Z:Zr}{p:Int×Int}{qs:List (Int×Int)}{b:Nat}(h:p∈Z.map (·.1))(d:(Z.map (·.1)).Nodup):eB (aM Z) (bR p) (.loc b)=aM (Z.map fun y=>if y.1=p then (y.1,qs,b) else y):=by
 obtain ⟨z,c,e⟩:=Eo h
 unfold eB
 rw [<- e,mX d c,a0n,if_pos rfl]
 unfold aM
 rw [TF,TF]
 refine Ul fun y _=>?_
 show (if bR y.1=bR z.1 then (bR y.1,D.loc b) else (bR y.1,D.loc y.2.2))=(bR (if y.1=z.1 then (y.1,qs,b) else y).1,D.loc (if y.1=z.1 then (y.1,qs,b) else y).2.2)
 by_cases a:y.1=z.1
 ·rw [if_pos (by rw [a]),if_pos a]
 ·rw [if_neg (fun w=>a (oQ w)),if_neg a]
theorem GI.swap {μ0 r:Hm}{a b:Nat}{Z:Zr}(I:GI μ0 r a Z){z:(Int×Int)×List (Int×Int)×Nat}(p:z∈Z){qs:List (Int×Int)}(j:r[b]? = some (.lst (qs.map PP)))(u:μ0.length<=b)(n:∀ z∈Z,z.2.2≠b) :
  GI μ0 (r.set a (.dT (eB (aM Z) (bR z.1) (.loc b)))) a (Z.map fun y=>if y.1=z.1 then (y.1,qs,b) else y):=by
 have g:b≠a:=fun e=>by
  rw [e,I.dic] at j
  cases j
 have s:(Z.map fun y=>if y.1=z.1 then (y.1,qs,b) else y).map (·.1)=Z.map (·.1):=by
  rw [TF]
  refine Ul fun y _=>?_
  show (if y.1=z.1 then (y.1,qs,b) else y).1=y.1
  split<;>rfl
 refine ⟨fL I.pre I.lo _,I.lo,by rw [iR I.dic,Er (Ts.mpr ⟨z,p,rfl⟩) I.kd],by rw [s];exact I.kd,?_,fun y c=>?_⟩
 ·have m:=I.kd
  have i:=I.bd
  clear s g j u I
  induction Z with
  | nil=>cases p
  | cons x Z B=>
   rw [Tq,UU] at m i
   have q:∀ Y:Zr,(∀ y∈Y,y.1≠z.1)->(Y.map fun y=>if y.1=z.1 then (y.1,qs,b) else y)=Y:=fun Y A=>by
    have:Y.map (fun y=>if y.1=z.1 then (y.1,qs,b) else y)=Y.map id:=Ul fun y c=>if_neg (A y c)
    rw [this,YZ]
   rcases T1.mp p with rfl|h
   ·rw [Tq,if_pos rfl,q Z (fun y c e=>m.1 (Ts.mpr ⟨y,c,e⟩)),Tq,UU]
    refine ⟨fun w=>?_,i.2⟩
    obtain ⟨y,c,d⟩:=Ts.mp w
    exact n y (Ua _ c) d
   ·have l:x.1≠z.1:=fun e=>m.1 (Ts.mpr ⟨z,h,e.symm⟩)
    rw [Tq,if_neg l,Tq,UU]
    refine ⟨fun w=>?_,B h (fun y c=>n y (Ua _ c)) m.2 i.2⟩
    obtain ⟨y,c,d⟩:=Ts.mp w
    obtain ⟨v,o,rfl⟩:=Ts.mp c
    by_cases e:v.1=z.1
    ·rw [if_pos e] at d
     exact n x (Um ..) d.symm
    ·rw [if_neg e] at d
     exact i.1 (Ts.mpr ⟨v,o,d⟩)
 ·obtain ⟨x,l,rfl⟩:=Ts.mp c
  by_cases e:x.1=z.1
  ·rw [if_pos e]
   exact ⟨u,by rw [Tv (Uu g)];exact j⟩
  ·rw [if_neg e,Tv (Uu (I.ne l))]
   exact I.at_ x l
theorem Q8 {c:Hm}{a:Nat}{b:List (List Int×D)}{Q:D×Hm->Prop}(h:c[a]? = some (.dT b))(d:b≠[]/\(b.map fun p=>Tb.hashT p.1).Nodup):W (oB [.loc a] c) Q↔Q (.loc c.length,c++[.dT b]):=by
 simp only [oB,h]
 rw [if_pos d.2]
 exact W_some
theorem tR {f:D->List D->Hm->Option (D×Hm)}{b:ME}{ms:MA}{a:aI}{c:Hm}{Q:D×Hm->Prop}(h:W (b a c) fun p=>n9 p.2 p.1=true/\W (ms a p.2) fun q=>W (f p.1 q.1 q.2) Q):W (f7 f b ms a c) Q:=by
 unfold f7
 rw [W_bind]
 refine bO h fun p q=>?_
 rw [q.1]
 exact W_bind.mpr q.2
theorem tS {c:Hm}{a:Nat}{b:List (List Int×D)}(h:c[a]? = some (.dT b)):n9 c (.loc a)=true:=by
 simp only [n9,h]
theorem Q9 {a:Hm}{A B:Nat}{ds:List D}{Q:D×Hm->Prop}(hA:a[A]? = some (.lst ds))(hB:a[B]? = some (.lst [])):W (a8 false (.loc A) (.loc B) a) Q↔Q (.bl ds.isEmpty,a):=by
 have b:∀ {x:Nat}{xs:List D},a[x]? = some (.lst xs)->dR a (.loc x)=some (.lst xs):=fun h=>by simp only [dR,h]
 have e:cZ 8 a (.loc A) (.loc B)=some ds.isEmpty:=by
  show (dR a (.loc A)).bind (fun u=>(dR a (.loc B)).bind fun v=>iH (cZ 7 a) u v)=_
  rw [b hA,b hB]
  show fT (cZ 7 a) ds []=_
  cases ds<;>rfl
 unfold a8
 rw [e]
 exact W_some
theorem oR (Z:Zr):(aM Z).length=Z.length:=Tc ..
theorem jM (Z:Zr):(GZ Z).length=Z.length:=Tc ..
noncomputable def bG (k:Int)(p:Int×Int):Int:=if k=0 then p.2 else if k=1 then p.1 else if k=2 then p.1 - p.2 else p.1+p.2
noncomputable def aZ (k n:Int):Ly:=if k=0 then ⟨1,0,0,-1,0,2 * n⟩ else if k=1 then ⟨-1,0,0,1,2 * n,0⟩ else if k=2 then ⟨0,1,1,0,n,-n⟩ else ⟨0,-1,-1,0,n,n⟩
theorem y9 (k n:Int):Dih (aZ k n):=by
 unfold aZ
 split
 ·exact .inl ⟨rfl,rfl,.inl rfl,.inr rfl⟩
 split
 ·exact .inl ⟨rfl,rfl,.inr rfl,.inl rfl⟩
 split
 ·exact .inr ⟨rfl,rfl,.inl rfl,.inl rfl⟩
 ·exact .inr ⟨rfl,rfl,.inr rfl,.inr rfl⟩
theorem Es (k n:Int)(p:Int×Int):aL (aZ k n) (aL (aZ k n) p)=p:=by
 obtain ⟨x,y⟩:=p
 unfold aZ aL
 split
 ·refine WD ?_ ?_<;>dsimp only<;>omega
 split
 ·refine WD ?_ ?_<;>dsimp only<;>omega
 split
 ·refine WD ?_ ?_<;>dsimp only<;>omega
 ·refine WD ?_ ?_<;>dsimp only<;>omega
noncomputable def cB (G:Gr)(p:Int×Int):List (Int×Int):=match G.find? (fun g=>decide (g.1=p)) with|some g=>g.2|none=>[]
noncomputable def fP (G:Gr)(p:Int×Int)(L:List (Int×Int)):Gr:=if (G.map (·.1)).contains p then G.map (fun g=>if g.1=p then (g.1,L) else g) else G++[(p,L)]
theorem Et (p:Int×Int):cB [] p=[]:=rfl
theorem fQ (g:(Int×Int)×List (Int×Int))(G:Gr)(p:Int×Int):cB (g::G) p=if g.1=p then g.2 else cB G p:=by
 unfold cB
 rw [UL]
 by_cases e:g.1=p
 ·rw [if_pos e,decide_eq_true e]
 ·rw [if_neg e,decide_eq_false e]
theorem oS {G:Gr}(a:(G.map (·.1)).Nodup){g:(Int×Int)×List (Int×Int)}(h:g∈G):cB G g.1=g.2:=by
 induction G with
 | nil=>cases h
 | cons x G b=>
  rw [Tq,UU] at a
  rw [fQ]
  rcases T1.mp h with rfl|h
  ·exact if_pos rfl
  ·rw [if_neg (fun e:x.1=g.1=>a.1 (by rw [e];exact Ts.mpr ⟨g,h,rfl⟩)),b a.2 h]
theorem mY {G:Gr}{p:Int×Int}(h:p∉G.map (·.1)):cB G p=[]:=by
 induction G with
 | nil=>rfl
 | cons x G a=>
  rw [Tq,T1,not_or] at h
  rw [fQ,if_neg (fun e=>h.1 e.symm),a h.2]
theorem Eu {G K:Gr}{p:Int×Int}(h:p∉G.map (·.1)):cB (G++K) p=cB K p:=by
 induction G with
 | nil=>rfl
 | cons x G a=>
  rw [Tq,T1,not_or] at h
  rw [UJ,fQ,if_neg (fun e=>h.1 e.symm),a h.2]
theorem atG_append' {G K:Gr}{p:Int×Int}(h:p∈G.map (·.1)):cB (G++K) p=cB G p:=by
 induction G with
 | nil=>cases h
 | cons x G a=>
  rw [UJ,fQ,fQ]
  by_cases e:x.1=p
  ·rw [if_pos e,if_pos e]
  ·rw [if_neg e,if_neg e]
   rw [Tq,T1] at h
   exact a (h.resolve_left fun w=>e w.symm)
theorem Ew (G:Gr)(p:Int×Int)(L:List (Int×Int)):(fP G p L).map (·.1)=if (G.map (·.1)).contains p then G.map (·.1) else G.map (·.1)++[p]:=by
 unfold fP
 split
 ·rw [TF]
  refine Ul fun g _=>?_
  show (if g.1=p then (g.1,L) else g).1=g.1
  split<;>rfl
 ·rw [TM];rfl
theorem Ra {G:Gr}{p:Int×Int}{L:List (Int×Int)}(a:(G.map (·.1)).Nodup):((fP G p L).map (·.1)).Nodup:=by
 rw [Ew]
 split
 ·exact a
 ·rename_i h
  rw [WR]
  exact ⟨a,by simp,fun x b y c e=>h (UP.mpr (by rw [UA.mp c] at e;exact e ▸ b))⟩
theorem putG_mem {G:Gr}{p q:Int×Int}{L:List (Int×Int)}:q∈(fP G p L).map (·.1)↔q∈G.map (·.1)\/q=p:=by
 rw [Ew]
 split
 ·rename_i h
  exact ⟨.inl,fun z=>z.elim id fun e=>e ▸ UP.mp h⟩
 ·rw [U7,UA]
theorem Ex (G:Gr)(p q:Int×Int)(L:List (Int×Int)):cB (fP G p L) q=if q=p then L else cB G q:=by
 unfold fP
 split
 ·rename_i h
  have h:=UP.mp h
  induction G with
  | nil=>cases h
  | cons x G d=>
   rw [Tq,fQ,fQ]
   by_cases e:x.1=p
   ·rw [if_pos e]
    by_cases a:q=p
    ·rw [if_pos a,if_pos (by rw [e,a])]
    ·rw [if_neg a,if_neg (by show ¬ x.1=q;rw [e];exact fun w=>a w.symm),if_neg (by rw [e];exact fun w=>a w.symm)]
     by_cases b:p∈G.map (·.1)
     ·rw [d (UP.mpr b) b,if_neg a]
     ·have:(G.map fun g=>if g.1=p then (g.1,L) else g)=G:=by
       have w:(G.map fun g=>if g.1=p then (g.1,L) else g)=G.map id:=Ul fun g i=>if_neg fun e=>b (Ts.mpr ⟨g,i,e⟩)
       rw [w,YZ]
      rw [this]
   ·rw [if_neg e]
    rw [Tq,T1] at h
    have c:=h.resolve_left fun w=>e w.symm
    rw [d (UP.mpr c) c]
    by_cases a:x.1=q
    ·rw [if_pos a,if_pos a,if_neg (by rw [<- a];exact e)]
    ·rw [if_neg a,if_neg a]
 ·rename_i h
  have h:p∉G.map (·.1):=fun z=>h (UP.mpr z)
  by_cases e:q=p
  ·rw [if_pos e,e,Eu h,fQ,if_pos rfl]
  ·rw [if_neg e]
   by_cases b:q∈G.map (·.1)
   ·exact atG_append' b
   ·rw [Eu b,fQ,if_neg (fun w=>e w.symm),Et,mY b]
theorem Rb {G:Gr}{p:Int×Int}(h:cB G p≠[]):p∈G.map (·.1):=Wm fun z=>h (mY z)
structure Pil (qs:List (Int×Int))(f:Int×Int->Int×Int)(G:Gr):Prop where
 kd:(G.map (·.1)).Nodup
 ne:∀ g∈G,g.2≠[]
 pm:∀ p,(cB G p).Perm (qs.filter fun q=>decide (f q=p))
theorem Pil.key {qs:List (Int×Int)}{f:Int×Int->Int×Int}{G:Gr}(h:Pil qs f G){p:Int×Int}:p∈G.map (·.1)↔∃ q∈qs,f q=p:=by
 constructor
 ·intro d
  obtain ⟨g,c,rfl⟩:=Ts.mp d
  have a:=h.pm g.1
  rw [oS h.kd c] at a
  obtain ⟨q,b⟩:=XB _ (h.ne g c)
  have:=UK.mp (a.mem_iff.mp b)
  exact ⟨q,this.1,of_decide_eq_true this.2⟩
 ·rintro ⟨q,b,rfl⟩
  refine Rb fun e=>?_
  have a:=h.pm (f q)
  rw [e] at a
  have:q∈([]:List (Int×Int)):=a.mem_iff.mpr (UK.mpr ⟨b,decide_eq_true rfl⟩)
  cases this
theorem Ey {g:Type}(a b:g->Bool)(hd:∀ x,a x=true->b x=false):∀ l:List g,(l.filter fun x=>a x||b x).Perm (l.filter a++l.filter b)
 | []=>.nil
 | x::l=>by
  have e:=Ey a b hd l
  cases c:a x with
  | true=>
   rw [U4 (by simp [c]),U4 c,UQ (by simp [hd x c])]
   exact e.cons x
  | false=>
   cases d:b x with
   | true=>
    rw [U4 (by simp [d]),UQ (by simp [c]),U4 d]
    exact (e.cons x).trans List.perm_middle.symm
   | false=>
    rw [UQ (by simp [c,d]),UQ (by simp [c]),UQ (by simp [d])]
    exact e
noncomputable def eK (mv:Int×Int->Bool)(G:Gr):Gr:=G.filter fun g=>!mv g.1
noncomputable def c8 (mv:Int×Int->Bool)(M:Int×Int->Int×Int)(G:Gr):Gr:=(G.filter fun g=>mv g.1).map fun g=>(M g.1,g.2.reverse)
noncomputable def cK (a:Bool)(S:Gr)(g:(Int×Int)×List (Int×Int)):Gr:=fP S g.1 (if a then cB S g.1++g.2 else g.2++cB S g.1)
noncomputable def iS (mv:Int×Int->Bool)(M:Int×Int->Int×Int)(a:Bool)(G:Gr):Gr:=(c8 mv M G).foldl (cK a) (eK mv G)
theorem Ez {mv:Int×Int->Bool}(p:Int×Int):∀ G:Gr,cB (eK mv G) p=if mv p then [] else cB G p
 | []=>by cases mv p<;>rfl
 | g::G=>by
  have a:=Ez (mv:=mv) p G
  unfold eK at a ⊢
  rw [fQ]
  cases h:mv g.1 with
  | true=>
   rw [UQ (by simp [h]),a]
   by_cases e:g.1=p
   ·rw [<- e,h];rfl
   ·rw [if_neg e]
  | false=>
   rw [U4 (by simp [h]),fQ]
   by_cases e:g.1=p
   ·rw [if_pos e,if_pos e,<- e,h];rfl
   ·rw [if_neg e,if_neg e,a]
theorem EA {mv:Int×Int->Bool}{M:Int×Int->Int×Int}(a:∀ p,M (M p)=p)(p:Int×Int):∀ G:Gr,cB (c8 mv M G) p=if mv (M p) then (cB G (M p)).reverse else []
 | []=>by cases mv (M p)<;>rfl
 | g::G=>by
  have b:=EA (mv:=mv) a p G
  unfold c8 at b ⊢
  rw [fQ]
  have c:M g.1=p↔g.1=M p:=⟨fun e=>by rw [<- e,a],fun e=>by rw [e,a]⟩
  cases h:mv g.1 with
  | true=>
   rw [U4 (by simp [h]),Tq,fQ]
   by_cases e:g.1=M p
   ·rw [if_pos (c.mpr e),if_pos e,<- e,h];rfl
   ·rw [if_neg (fun w=>e (c.mp w)),if_neg e,b]
  | false=>
   rw [UQ (by simp [h]),b]
   by_cases e:g.1=M p
   ·rw [<- e,h];rfl
   ·rw [if_neg e]
theorem EB (a:Bool):∀ (K S:Gr),(K.map (·.1)).Nodup->(S.map (·.1)).Nodup->(∀ g∈S,g.2≠[])->(∀ g∈K,g.2≠[])->
  ((K.foldl (cK a) S).map (·.1)).Nodup/\(∀ g∈K.foldl (cK a) S,g.2≠[])/\∀ p,(cB (K.foldl (cK a) S) p).Perm (cB S p++cB K p)
 | [],S,_,hs,ns,_=>⟨hs,ns,fun p=>by rw [Et,UM];exact .refl _⟩
 | g::K,S,hk,hs,ns,nk=>by
  rw [Tq,UU] at hk
  rw [Y5]
  have b:((cK a S g).map (·.1)).Nodup:=Ra hs
  have i:∀ x∈cK a S g,x.2≠[]:=fun x c=>by
   have e:cB (cK a S g) x.1=x.2:=oS b c
   rw [<- e]
   unfold cK
   rw [Ex]
   have l:=nk g (Um ..)
   split
   ·cases a
    ·exact fun w=>l (ZX.mp w).1
    ·exact fun w=>l (ZX.mp w).2
   ·rename_i d
    have:x.1∈(cK a S g).map (·.1):=Ts.mpr ⟨x,c,rfl⟩
    rcases putG_mem.mp this with h|h
    ·obtain ⟨y,j,m⟩:=Ts.mp h
     rw [<- m,oS hs j]
     exact ns y j
    ·exact absurd h d
  obtain ⟨n,o,q⟩:=EB a K (cK a S g) hk.2 b i fun x c=>nk x (Ua _ c)
  refine ⟨n,o,fun p=>(q p).trans ?_⟩
  rw [fQ]
  unfold cK
  rw [Ex]
  by_cases e:p=g.1
  ·rw [if_pos e,if_pos e.symm,e,mY hk.1,UM]
   cases a
   ·exact a0d
   ·exact .refl _
  ·rw [if_neg e,if_neg (fun w=>e w.symm)]
theorem Rc {qs:List (Int×Int)}{f:Int×Int->Int×Int}{G:Gr}(h:Pil qs f G){mv:Int×Int->Bool}{M:Int×Int->Int×Int}(d:∀ p,M (M p)=p)(c:Bool) :
  Pil qs (fun q=>if mv (f q) then M (f q) else f q) (iS mv M c G):=by
 have j:∀ (l:List ((Int×Int)×List (Int×Int))),l.Sublist G->(l.map (·.1)).Nodup:=fun l z=>(z.map _).nodup h.kd
 have r:((c8 mv M G).map (·.1)).Nodup:=by
  have e:(c8 mv M G).map (·.1)=((G.filter fun g=>mv g.1).map (·.1)).map M:=by
   unfold c8
   rw [TF,TF]
   rfl
  rw [e]
  exact X7 _ (fun a b m w=>m (by rw [<- d a,w,d])) (j _ Xm)
 obtain ⟨s,u,v⟩:=EB c (c8 mv M G) (eK mv G) r (j _ Xm) (fun g n=>h.ne g (UK.mp n).1) (fun g n=>by
  obtain ⟨y,A,rfl⟩:=Ts.mp n
  exact fun w=>h.ne y (UK.mp A).1 (List.reverse_eq_nil_iff.mp w))
 refine ⟨s,u,fun p=>(v p).trans ?_⟩
 rw [Ez,EA d]
 have e:(qs.filter fun q=>decide ((if mv (f q) then M (f q) else f q)=p))=qs.filter fun q=>(!mv (f q)&&decide (f q=p))||(mv (f q)&&decide (f q=M p)):=by
  congr 1
  funext q
  have x:M (f q)=p↔f q=M p:=⟨fun e=>by rw [<- e,d],fun e=>by rw [e,d]⟩
  cases mv (f q) with
  | true=>simp [x]
  | false=>simp
 rw [e]
 refine List.Perm.trans ?_ (Ey _ _ (fun q o=>?_) qs).symm
 ·refine List.Perm.append ?_ ?_
  ·cases i:mv p with
   | true=>
    rw [if_pos rfl,Wa.mpr]
    intro q _ w
    rw [To] at w
    have e:=of_decide_eq_true w.2
    rw [e,i] at w
    exact Uc w.1
   | false=>
    rw [if_neg Uc]
    have:(qs.filter fun q=>!mv (f q)&&decide (f q=p))=qs.filter fun q=>decide (f q=p):=by
     congr 1
     funext q
     by_cases e:f q=p
     ·simp [e,i]
     ·simp [e]
    rw [this]
    exact h.pm p
  ·cases i:mv (M p) with
   | true=>
    rw [if_pos rfl]
    have:(qs.filter fun q=>mv (f q)&&decide (f q=M p))=qs.filter fun q=>decide (f q=M p):=by
     congr 1
     funext q
     by_cases e:f q=M p
     ·simp [e,i]
     ·simp [e]
    rw [this]
    exact (List.reverse_perm _).trans (h.pm (M p))
   | false=>
    rw [if_neg Uc,Wa.mpr]
    intro q _ w
    rw [To] at w
    have e:=of_decide_eq_true w.2
    rw [e,i] at w
    exact Uc w.1
 ·rw [To] at o
  simp only [XE] at o
  rw [o.1];rfl
theorem Rf {p:Int×Int}{u:Int}(a:0<=u/\u<4):atI [D.int p.2,.int p.1,.int (p.1 - p.2),.int (p.1+p.2)] u=some (.int (bG u p)):=by
 have:u=0\/u=1\/u=2\/u=3:=by omega
 rcases this with rfl|rfl|rfl|rfl<;>rfl
theorem w_eqBl {a:Hm}{x y:Bool}{Q:D×Hm->Prop}:W (a8 false (.bl x) (.bl y) a) Q↔Q (.bl (x == y),a):=W_some
noncomputable def Dc (c:Hm)(a:Nat)(b:List (List Int×D)):Prop:=c[a]? = some (.dT b)\/c[a]? = some (.dF b)
theorem Rg {c:Hm}{a:Nat}{b:List (List Int×D)}{y d:D}{k:List Int}{Q:D×Hm->Prop}(h:Dc c a b)(e:eA y=some k)(g:b9 b k=some d):W (aH (.loc a) y c) Q↔Q (d,c):=by
 have:aH (.loc a) y c=some (d,c):=by
  rcases h with h|h<;>simp only [aH,h,e,TZ,g,Ub]
 rw [this]
 exact W_some
structure HI (μ:Hm)(a:Nat)(Z:Zr):Prop where
 dic:Dc μ a (aM Z)
 kd:(Z.map (·.1)).Nodup
 at_:∀ z∈Z,μ[z.2.2]? = some (.lst (z.2.1.map PP))
theorem Dc.more {c μ':Hm}{a:Nat}{b:List (List Int×D)}(I:Dc c a b)(h:c <+: μ'):Dc μ' a b:=I.elim (fun e=>.inl (aP h e)) fun e=>.inr (aP h e)
theorem HI.more {b μ':Hm}{a:Nat}{Z:Zr}(I:HI b a Z)(h:b <+: μ'):HI μ' a Z:=⟨I.dic.more h,I.kd,fun z c=>aP h (I.at_ z c)⟩
theorem HI.ne {g:Hm}{a b:Nat}{d:List (List Int×D)}{Z:Zr}(I:HI g a Z)(h:Dc g b d){z:(Int×Int)×List (Int×Int)×Nat}(i:z∈Z):z.2.2≠b:=fun e=>by
 have c:=I.at_ z i
 rw [e] at c
 rcases h with h|h<;>(rw [h] at c;cases c)
theorem HI.frz {d:Hm}{a b:Nat}{c:List (List Int×D)}{Z:Zr}(I:HI d a Z)(h:d[b]? = some (.dT c)):HI (d.set b (.dF c)) a Z:=by
 refine ⟨?_,I.kd,fun z g=>by rw [Tv (Uu (I.ne (.inl h) g))];exact I.at_ z g⟩
 by_cases e:b=a
 ·subst e
  have:c=aM Z:=by
   rcases I.dic with w|w
   ·rw [h] at w;injection w with w;injection w
   ·rw [h] at w;cases w
  rw [<- this]
  exact .inr (iR h)
 ·unfold Dc
  rw [Tv e]
  exact I.dic
theorem tT {d c:Hm}{a:Nat}{b:List (List Int×D)}(hc:d[a]? = some (.dT b))(h:d.set a (.dF b) <+: c):d <+: c.set a (.dT b):=by
 obtain ⟨t,rfl⟩:=h
 have e:a<d.length:=(Tf.mp hc).1
 rw [Ye _ _ (by rw [Ud];exact e),YA,qN hc]
 exact Vn _ _
theorem iT {a:Type}{l:List a}{n:Nat}{x:a}(h:l[n]? = some x):l.take (n+1)=l.take n++[x]:=by
 rw [List.take_add_one,h]
 rfl
theorem qO {c:Type}{l:List c}(nd:l.Nodup){n:Nat}{x:c}(h:l[n]? = some x):x∉l.take n:=fun g=>by
 obtain ⟨j,a⟩:=a0e.mp g
 have b:j<n:=by
  have:=(Tf.mp a).1
  rw [Uv] at this
  omega
 rw [ZE b] at a
 have i:n<l.length:=(Tf.mp h).1
 have d:=(Tf.mp a).2
 have e:=(Tf.mp h).2
 exact absurd ((a1z nd).mp (d.trans e.symm)) (by omega)
theorem EC {a:Type}:∀ xs:List a,(Ui xs.length).filterMap (fun i=>xs[i]?)=xs
 | []=>rfl
 | x::xs=>by
  rw [T6,ZW,Vu,List.filterMap_map]
  show x::(Ui xs.length).filterMap (fun i=>(x::xs)[i+1]?)=x::xs
  simp only [ZO]
  rw [EC xs]
noncomputable abbrev aX (v:Int×Int->D)(ps:List (Int×Int)):List (List Int×D):=ps.map fun p=>(bR p,v p)
theorem ED {v:Int×Int->D}{ps:List (Int×Int)}(nd:ps.Nodup){p:Int×Int}(h:p∈ps):b9 (aX v ps) (bR p)=some (v p):=by
 refine Em ?_ (Ts.mpr ⟨p,h,rfl⟩)
 rw [TF]
 exact X7 _ (fun a b c x=>c (oQ x)) nd
theorem EE {v:Int×Int->D}{ps:List (Int×Int)}{p:Int×Int}(h:p∉ps):b9 (aX v ps) (bR p)=none:=by
 unfold b9
 rw [a0M.mpr]
 ·rfl
 ·intro x a
  obtain ⟨z,b,rfl⟩:=Ts.mp a
  rw [decide_eq_true_iff]
  exact fun e=>h (oQ e ▸ b)
theorem Rh {v:Int×Int->D}{ps:List (Int×Int)}{p:Int×Int}(h:p∉ps):eB (aX v ps) (bR p) (v p)=aX v (ps++[p]):=by
 unfold eB
 rw [EE h,if_neg (by simp)]
 show _=a1P _ _
 rw [TM]
 rfl
noncomputable def qP (ps:List (Int×Int)):List (Int×Int):=(eH (fun i j=>HT.lexLt ((ps.map bR).getD i []) ((ps.map bR).getD j [])) ps.length).map fun i=>ps.getD i (0,0)
theorem Ri (ps:List (Int×Int)):(qP ps).Perm ps:=by
 have p:=(pL (fun i j=>HT.lexLt ((ps.map bR).getD i []) ((ps.map bR).getD j [])) ps.length).map fun i=>ps.getD i (0,0)
 rw [Q4] at p
 exact p
theorem Rj (v:Int×Int->D)(ps:List (Int×Int)):n6 (aX v ps)=aX v (qP ps):=by
 unfold n6 qP aX
 have b:(ps.map fun p=>(bR p,v p)).map (·.1)=ps.map bR:=by rw [TF];rfl
 rw [b,Tc,TF]
 refine Ul fun i a=>?_
 have a:i<ps.length:=Vk.mp ((pL _ _).mem_iff.mp a)
 simp [V1,a]
theorem zA {K:List (List Int×D)}{k:List Int}{d:D}(h:b9 K k=none):eB K k d=K++[(k,d)]:=by
 unfold eB
 rw [h,if_neg (by simp)]
noncomputable def aV (u n:Int)(a:Bool)(p:Int×Int):Bool:=decide (n<bG u p) == a
noncomputable def bT (u n:Int)(a:Bool)(F:Int×Int->Ly)(q:Int×Int):Ly:=if aV u n a (aL (F q) q) then eQ (F q) (aZ u n) else F q
theorem Rk {u n:Int}{a:Bool}{F:Int×Int->Ly}(b:∀ q,Dih (F q))(q:Int×Int):Dih (bT u n a F q):=by
 unfold bT
 split
 ·exact QZ (b q) (y9 u n)
 ·exact b q
theorem mZ (u n:Int)(a:Bool)(F:Int×Int->Ly)(q:Int×Int):aL (bT u n a F q) q=if aV u n a (aL (F q) q) then aL (aZ u n) (aL (F q) q) else aL (F q) q:=by
 unfold bT
 split
 ·rw [QV]
 ·rfl
theorem Rl {G:Gr}{p:Int×Int}{L:List (Int×Int)}(h:p∉G.map (·.1)):fP G p L=G++[(p,L)]:=by
 unfold fP
 rw [if_neg (fun w=>h (UP.mp w))]
theorem Rm (mv:Int×Int->Bool)(M:Int×Int->Int×Int)(G:Gr)(g:(Int×Int)×List (Int×Int)):c8 mv M (G++[g])=if mv g.1 then c8 mv M G++[(M g.1,g.2.reverse)] else c8 mv M G:=by
 unfold c8
 rw [Vz,TM]
 cases h:mv g.1<;>simp [h]
theorem EF {c:Type} [DecidableEq c]:∀ {l m:List c},l.Nodup->(∀ x∈l,x∈m)->l.length<=m.length
 | [],_,_,_=>Uz _
 | x::l,m,h,hs=>by
  rw [UU] at h
  have a:=hs x (Um ..)
  have d:=EF (l:=l) (m:=m.erase x) h.2 fun y b=>(Xb (fun e:y=x=>h.1 (e ▸ b))).mpr (hs y (Ua _ b))
  rw [XH a] at d
  have:=XZ a
  rw [T6]
  omega
theorem Pil.len {qs:List (Int×Int)}{g:Int×Int->Int×Int}{G:Gr}(P:Pil qs g G):G.length<=qs.length/\∀ x∈G,x.2.length<=qs.length:=by
 constructor
 ·have:=EF P.kd (m:=qs.map g) fun p a=>by
   obtain ⟨q,b,e⟩:=P.key.mp a
   exact Ts.mpr ⟨q,b,e⟩
  rw [Tc,Tc] at this
  exact this
 ·intro x c
  have:=(P.pm x.1).length_eq
  rw [oS P.kd c] at this
  rw [this]
  exact U3 _ _
theorem Pil.lenZ {qs:List (Int×Int)}{g:Int×Int->Int×Int}{Z:Zr}(P:Pil qs g (GZ Z)):Z.length<=qs.length/\∀ z∈Z,1<=z.2.1.length/\z.2.1.length<=qs.length:=by
 obtain ⟨a,c⟩:=P.len
 unfold GZ at a
 rw [Tc] at a
 refine ⟨a,fun z d=>?_⟩
 have b:(z.1,z.2.1)∈GZ Z:=Ts.mpr ⟨z,d,rfl⟩
 exact ⟨VM.mpr (P.ne _ b),c _ b⟩
theorem EG {a:Type} [DecidableEq a]:∀ {l:List a},l.Nodup->∀ {p:a},p∈l->(l.filter fun q=>decide (q=p))=[p]
 | [],_,_,h=>by cases h
 | x::l,nd,p,h=>by
  rw [UU] at nd
  by_cases e:x=p
  ·subst e
   rw [U4 (by simp),Wa.mpr]
   intro y b w
   exact nd.1 (of_decide_eq_true w ▸ b)
  ·rw [UQ (by simp [e])]
   exact EG nd.2 ((T1.mp h).resolve_left fun w=>e w.symm)
noncomputable def eL (qs:List (Int×Int)):Gr:=qs.map fun q=>(q,[q])
theorem qQ (qs:List (Int×Int)):(eL qs).map (·.1)=qs:=by
 unfold eL
 rw [TF]
 exact YZ _
theorem Rn {qs:List (Int×Int)}(nd:qs.Nodup):Pil qs (fun q=>aL cX q) (eL qs):=by
 have a:((eL qs).map (·.1)).Nodup:=by rw [qQ];exact nd
 refine ⟨a,fun g b=>?_,fun p=>?_⟩
 ·obtain ⟨q,_,rfl⟩:=Ts.mp b
  simp
 ·have e:(fun q=>decide (aL cX q=p))=fun q=>decide (q=p):=funext fun q=>by rw [oP]
  rw [e]
  by_cases h:p∈qs
  ·have:=oS a (g:=(p,[p])) (Ts.mpr ⟨p,h,rfl⟩)
   rw [this,EG nd h]
  ·rw [mY (by rw [qQ];exact h),Wa.mpr]
   intro q c w
   exact h (of_decide_eq_true w ▸ c)
structure Grw (qs:List (Int×Int))(μ:Hm)(w h:Nat)(F:Int×Int->Ly)(Z:Zr):Prop where
 hw:μ[w]? = some (.dT (aX (fun q=>LD (F q)) qs))
 hi:HI μ h Z
 hh:μ[h]? = some (.dT (aM Z))
 di:∀ q,Dih (F q)
 pl:Pil qs (fun q=>aL (F q) q) (GZ Z)
noncomputable def iE (n:Int):Int:=if 0<n then 1 else if n<0 then -1 else 0
theorem Ro (k:Nat)(x y a b:Int)(d:Hm)(Q:D×Hm->Prop):W (f (k+2) "hand_of" [P x y,P a b] d) Q↔Q (.int (iE (iA a b x y - iA a b a b)),d):=by
 rw [P2,W_fin]
 simp only [bH,w_mRet,dE,c7,oI,b7,bE,aU,aR,a9,bB,aF,aJ,dG,yP,qI,DM,DL,D5,D6,Tj,Tn]
 generalize iA a b x y - iA a b a b=n
 unfold iE
 by_cases c:0<n
 ·simp [c]
 ·by_cases e:n<0<;>simp [c,e]
noncomputable def m4 (h:Int)(x:Int):List (Int×Int):=(Ui (4 * h - 1).toNat).map fun (j:Nat)=>(x,1+(j:Int))
noncomputable def lO (h:Int)(n:Nat):List (Int×Int):=(Ui n).flatMap fun (i:Nat)=>m4 h (1+(i:Int))
noncomputable def oT (w h:Int):List (Int×Int):=lO h (4 * w - 1).toNat
theorem EH (h:Int)(n:Nat):lO h (n+1)=lO h n++m4 h (1+(n:Int)):=by
 unfold lO;rw [Xd,a0C];simp
theorem EI (h x:Int):(m4 h x).length=(4 * h - 1).toNat:=by unfold m4;simp
theorem zB (h:Int):∀ n:Nat,(lO h n).length=n * (4 * h - 1).toNat
 | 0=>by simp [lO]
 | n+1=>by rw [EH,Tz,zB h n,EI,YM]
theorem EJ {h:Int}(b:h<=6){n:Nat}(a:n<=23):n * (4 * h - 1).toNat<=529:=by
 have:n * (4 * h - 1).toNat<=23 * 23:=Ym a (by omega)
 omega
theorem Rq (h x:Int):((fN 1 (4 * h - 1).toNat).filter fun _=>true).map (fun d=>P x (q0 d))=(m4 h x).map PP:=by
 unfold fN m4
 rw [show ∀ l:List D,l.filter (fun _=>true)=l from fun l=>by simp,TF,TF]
 rfl
theorem Rt (k:Nat)(w h:Int)(hw:1<=w/\w<=6)(r:1<=h/\h<=6)(c:Hm)(Q:D×Hm->Prop)(H:∀ a μ',c <+: μ'->μ'[a]? = some (.lst ((oT w h).map PP))->c.length<=a->Q (.loc a,μ')):W (f (k+1) "places_within" [.int w,.int h] c) Q:=by
 rw [Qe,W_fin]
 simp only [bH,b7,gD,aR]
 refine ⟨Uz _,?_⟩
 simp only [Tj,Tn,gE,oJ,aU,aR,bB,a9,aF,aJ,oO]
 refine ⟨by omega,?_⟩
 refine oM (lo:=1) (fun i p μ'=>c <+: μ'/\μ'[c.length]? = some (.lst ((lO h i).map PP))/\∃ o,p=[some (.int w),some (.int h),some (.loc c.length),o]) ⟨bD _ _,cA _ _,none,rfl⟩ ?_ ?_
 ·rintro i p n u ⟨m,e,o,rfl⟩
  refine ⟨_,rfl,?_⟩
  simp only [Tj,Tn,mR]
  refine qK ?_
  simp only [aF,aJ]
  refine ⟨DU e,?_⟩
  simp only [aU,aR]
  refine mT (xs:=fN 1 (4 * h - 1).toNat) (p:=fun _=>true) (v:=fun d=>P (1+(i:Int)) (q0 d)) ?_
  simp only [oJ,aU,aR,bB,a9,aF,aJ,oO]
  refine ⟨by omega,DQ,by simp [fN],by rw [T5];simp [fN];omega,?_,?_,?_⟩
  ·intro d μ' hd m
   exact w_mTrue.mpr ⟨rfl,UI _⟩
  ·intro d μ' hd _ m
   obtain ⟨j,v,rfl⟩:=QK hd
   simp only [UJ,VH,eM,aU,aR,aF,aJ,eP,true_and]
   exact ⟨rfl,UI _⟩
  ·intro s b g
   rw [Rq] at g
   have l:((lO h i).map PP).length+((m4 h (1+(i:Int))).map PP).length<=TC:=by
    have q:=EJ (h:=h) r.2 (n:=i+1) (by omega)
    rw [YM] at q
    rw [Tc,Tc,zB,EI,T5]
    omega
   refine (Py (aP b e) g l).mpr ?_
   refine ⟨fL (m.trans b) (Tt _) _,?_,_,rfl⟩
   rw [TU (Tf.mp (aP b e)).1,EH,TM]
 ·rintro p n ⟨m,e,o,rfl⟩
  simp only [w_mRet,aF,aJ]
  exact H _ _ m e (Tt _)
theorem Ru {w h:Int}(hw:w<=6)(a:h<=6):(oT w h).length<=529:=by
 unfold oT
 rw [zB]
 exact EJ a (by omega)
noncomputable def cN (p:Int×Int):Bool:=if p.1 % 2=1 then p.2 % 4 == 2 else p.1 % 4 == 2&&p.2 % 2 == 1
theorem EK (k:Nat)(x y:Int)(a:Hm)(Q:D×Hm->Prop):W (f (k+1) "is_quarter" [P x y] a) Q↔Q (.bl (cN (x,y)),a):=by
 rw [PZ,W_fin]
 simp only [bH,w_mRet,dE,c7,dG,tG,a9,bB,aF,lL,hW,w_eqI,Pl,tL,qL]
 unfold cN
 by_cases h:x % 2=1
 ·simp [h]
 ·have e:(x % 2 == 1)=false:=by simpa using h
  simp only [e,h,Tw,if_false]
  cases x % 4 == 2<;>simp
theorem Rv (k:Nat)(i:Int)(a:Hm)(Q:D×Hm->Prop):W (f (k+1) "is_whole" [.int i] a) Q↔Q (.bl true,a):=by
 rw [PY,W_fin]
 simp only [w_mRet,tG,Ph,bE,aU,aR,aF,bB,PC,PB,if_true,VD]
theorem EL (k:Nat){i:Int}(h:1<=i/\i<=6)(a:Hm)(Q:D×Hm->Prop)(H:Q (.bl true,a)):W (f (k+2) "is_size" [.int i] a) Q:=by
 rw [Qb,W_fin]
 simp only [w_mRet,tG,bE,aU,aR,aF,bB,Rv,if_true,PF,Pn,decide_eq_true h.1,decide_eq_true h.2]
 exact H
theorem Rw (k:Nat){w h:Int}(hw:1<=w/\w<=6)(b:1<=h/\h<=6)(a:Hm)(Q:D×Hm->Prop)(H:Q (.non,a)):W (f (k+3) "check_size" [.int w,.int h] a) Q:=by
 rw [Qd,W_fin]
 simp only [c7,tF,yO,lK,bE,aU,aR,aF,aJ]
 refine EL k hw _ _ ?_
 simp only [kK,if_true]
 refine EL k b _ _ ?_
 simp only [kK,Vs,Tw,if_false,dE]
 exact H
theorem zC (x y:Str):(x++y).cps.toList=x.cps.toList++y.cps.toList:=by
 show (x.cps++y.cps).toList=_
 exact Array.toList_append
theorem Ry {x y:Str}(h:x.cps.toList=y.cps.toList):x=y:=by
 obtain ⟨a⟩:=x
 obtain ⟨b⟩:=y
 congr 1
 exact a1q.mp h
noncomputable def jn (c:List Nat):List (List Nat)->List Nat
 | []=>[]
 | [x]=>x
 | x::y::r=>x++c++jn c (y::r)
theorem zD (a:Str):∀ ss:List Str,(Str.join a ss).cps.toList=jn a.cps.toList (ss.map fun s=>s.cps.toList)
 | []=>rfl
 | [x]=>rfl
 | x::y::r=>by
  show (x++a++Str.join a (y::r)).cps.toList=_
  rw [zC,zC,zD a (y::r)]
  rfl
theorem zE:∀ a:List (List Nat),jn [] a=a.flatten
 | []=>rfl
 | [x]=>by simp [jn]
 | x::y::r=>by
  show x++[]++jn [] (y::r)=_
  rw [zE (y::r),UM]
  rfl
theorem EM (n:Nat):∀ (ss:List Str)(m:Nat),ss.foldl (fun a s=>a+s.length+n) m=m+(ss.map fun s=>s.length+n).sum
 | [],m=>by simp
 | s::ss,m=>by
  rw [Y5,EM n ss]
  simp
  omega
theorem tU {k:Nat}:∀ {ss:List Str},(∀ s∈ss,s.length<=k)->∀ n,(ss.map fun s=>s.length+n).sum<=ss.length * (k+n)
 | [],_,_=>by simp
 | s::ss,h,n=>by
  rw [Tq,List.sum_cons,T6,YM]
  have:=tU (ss:=ss) (fun t a=>h t (Ua _ a)) n
  have:=h s (Um ..)
  omega
theorem zF {d:Hm}{a:Nat}{c:Str}{ss:List Str}{Q:D×Hm->Prop}(j:c.length<=1)(h:d[a]? = some (.lst (ss.map D.str)))(e:ss.length<=25)(g:∀ s∈ss,s.length<=25):W (jE (.str c) [.loc a] d) Q↔Q (.str (Uq c ss),d):=by
 have b:ss.length * (25+c.length)<=25 * 26:=Ym e (by omega)
 refine PQ h ?_ ?_
 ·rw [List.foldl_toArray,EM]
  unfold W2
  have:=tU g c.length
  rw [T5]
  exact decide_eq_false (by omega)
 ·rw [size_glued]
  have i:=tU g 0
  simp only [X6] at i
  have l:ss.length * 25<=25 * 25:=a0A _ e
  have m:(ss.length - 1) * c.length<=25 * 1:=Ym (by omega) j
  rw [T5]
  omega
theorem tV {b:Hm}{a:Nat}{c:List Int}{Q:D×Hm->Prop}(h:b[a]? = some (.lst (c.map D.int)))(d:0<c.length):W (hV [.loc a] b) Q↔Q (.int (eC c),b):=by
 have e:hV [.loc a] b=some (.int (eC c),b):=by
  simp only [hV,sI,fY,h,TZ,yT,if_pos d]
 rw [e]
 exact W_some
theorem tW {b:Hm}{a:Nat}{c:List Int}{Q:D×Hm->Prop}(h:b[a]? = some (.lst (c.map D.int)))(d:0<c.length):W (fI [.loc a] b) Q↔Q (.int (fH c),b):=by
 have e:fI [.loc a] b=some (.int (fH c),b):=by
  simp only [fI,sJ,fY,h,TZ,yT,if_pos d]
 rw [e]
 exact W_some
theorem tX {a:List Int}(h:0<a.length):fH a∈a/\∀ x∈a,fH a<=x:=by
 unfold fH
 obtain ⟨j,c⟩:=argBest_lt (fun i=>a.getD i 0) (a.length - 1)
 refine ⟨getD_mem (by omega),fun x g=>?_⟩
 obtain ⟨k,d,e⟩:=Vg g
 have:=c k (by omega)
 have b:a.getD k 0=x:=by rw [Wr,TV d];exact e
 rw [<- b]
 exact this
theorem tY {a:List Int}(h:0<a.length):eC a∈a/\∀ x∈a,x<=eC a:=by
 unfold eC
 obtain ⟨j,c⟩:=argBest_gt (fun i=>a.getD i 0) (a.length - 1)
 refine ⟨getD_mem (by omega),fun x g=>?_⟩
 obtain ⟨k,d,e⟩:=Vg g
 have:=c k (by omega)
 have b:a.getD k 0=x:=by rw [Wr,TV d];exact e
 rw [<- b]
 exact this
theorem tZ {i:Nat}{g j:MS}{d:aI}{c:Hm}{a:Nat}{b:List (List Int×D)}{Q:Fl×aI×Hm->Prop}(h:wY i d=some (.loc a))(hc:c[a]? = some (.dT b))
  (H:W (g d (c.set a (.dF b))) fun r=>r.2.2[a]? = some (.dF b)/\Q (r.1,r.2.1,r.2.2.set a (.dT b))):W (dB i g j d c) Q:=by
 have e:n8 i d c=some (a,b):=by simp only [n8,h,hc]
 unfold dB
 rw [e,W_bind]
 refine bO H fun r q=>?_
 rw [q.1]
 exact W_some.mpr q.2
theorem qR {i:Nat}{r:MI}{g:MG}{body x:MS}{o:aI}{m:Hm}{a:Nat}{e:List (List Int×D)}{ds:List D}{Q:Fl×aI×Hm->Prop}(h:wY i o=some (.loc a))(hc:m[a]? = some (.dT e))
  (hit:r o (m.set a (.dF e))=some (dO (.tup ds),ds.length+1,m.set a (.dF e)))(I:Nat->aI->Hm->Prop)(s:I 0 o (m.set a (.dF e)))
  (go:∀ n d c b,ds[n]? = some d->I n c b->∃ j,g d c b=some j/\W (body j b) fun p=>p.1=.nx/\I (n+1) p.2.1 p.2.2)
  (l:∀ c b,I ds.length c b->b[a]? = some (.dF e)/\Q (.nx,c,b.set a (.dT e))):W (dB i (cD r g body) x o m) Q:=by
 refine tZ h hc ?_
 rw [gE,hit,W_some]
 refine Pw (x:=.tup ds) (fun _=>rfl) I s (fun n d c b hd w=>?_) l
 obtain ⟨j,u,v⟩:=go n d c b hd w
 refine ⟨j,u,bO v fun p q=>?_⟩
 rw [q.1]
 exact q.2
theorem t4 {me:ME}{e:aI}{d c:Hm}{a:Nat}{b:List (List Int×D)}(h:me e d=some (.loc a,c))(g:c[a]? = some (.dF b)):e8 me e d=some (dO (.tup (iO b)),(iO b).length+1,c):=by
 simp only [e8,h,TZ,g,iO,Tc]
theorem t5 {me:ME}{e:aI}{d c:Hm}{a:Nat}{b:List (List Int×D)}(h:me e d=some (.loc a,c))(g:c[a]? = some (.dF b)):kD me e d=some (dO (.tup (fK b)),(fK b).length+1,c):=by
 simp only [kD,h,TZ,g,fK,Tc]
theorem EO {V:Int×Int->D}{qs:List (Int×Int)}:fK (aX V qs)=qs.map fun q=>.tup [PP q,V q]:=by
 unfold fK aX
 rw [TF]
 rfl
theorem oU (Z:Zr):fK (aM Z)=Z.map fun z=>.tup [PP z.1,.loc z.2.2]:=by
 unfold fK aM
 rw [TF]
 rfl
theorem qS (Z:Zr):iO (aM Z)=(Z.map (·.1)).map PP:=by
 unfold iO aM
 rw [TF,TF]
 rfl
theorem iU {a:Hm}{l:Nat}{c:C}(h:l<a.length)(t:Hm):(a++t).set l c=a.set l c++t:=Ye _ _ h
theorem lP (a:Hm){l:Nat}{c:C}(h:l<a.length)(t:Hm):(a.set l c++t)[l]? = some c:=by
 rw [TR (by rw [Ud];exact h),TU h]
theorem ER (a:Hm)(l:Nat)(c d d':C)(t:Hm):(a.set l c++d::t).set a.length d'=a.set l c++d'::t:=by
 rw [W3 _ _ (by rw [Ud];exact Tt _),Ud,WZ]
 rfl
theorem zG (a:Hm)(l:Nat)(c d:C)(t:Hm):(a.set l c++d::t)[a.length]? = some d:=by
 rw [Us (by rw [Ud];exact Tt _),Ud,WZ]
 rfl
theorem t6 {a:Hm}{l:Nat}{c b:C}(h:a[l]? = some c)(t:Hm):(a.set l b++t).set l c=a++t:=by
 have d:l<a.length:=(Tf.mp h).1
 rw [Ye _ _ (by rw [Ud];exact d),YA,qN h]
structure OnL (e:Int×Int)(u n:Int):Prop where
 u0:0<=u/\u<4
 num:∀ p:Int×Int,iA e.1 e.2 p.1 p.2=bG u p
 at_:bG u e=n
 mir:∀ p,dC p e=aL (aZ u n) p
 mirZ:tP e=aZ u n
noncomputable def sd (a:Bool):Int:=if a then 1 else -1
theorem zH {u n:Int}{p:Int×Int}(h:bG u p≠n)(a:Bool):(iE (bG u p - n) == sd a)=aV u n a p:=by
 unfold iE sd aV
 by_cases b:n<bG u p
 ·have:0<bG u p - n:=by omega
  rw [if_pos this,decide_eq_true b]
  cases a<;>rfl
 ·have c:¬ 0<bG u p - n:=by omega
  have d:bG u p - n<0:=by omega
  rw [if_neg c,if_pos d,decide_eq_false b]
  cases a<;>rfl
theorem t7 (k:Nat){e p:Int×Int}{u n:Int}(E:OnL e u n)(c:Hm)(Q:D×Hm->Prop):W (f (k+2) "hand_of" [PP p,PP e] c) Q↔Q (.int (iE (bG u p - n)),c):=by
 obtain ⟨x,y⟩:=e
 obtain ⟨a,b⟩:=p
 have d:=E.num (a,b)
 have g:=E.num (x,y)
 have h:=E.at_
 dsimp only at d g
 have:=Ro k a b x y c Q
 rw [d,g,h] at this
 exact this
theorem Rz (k:Nat){e p:Int×Int}{u n:Int}(E:OnL e u n)(c:Hm)(Q:D×Hm->Prop):W (f (k+2) "mirrored" [PP p,PP e] c) Q↔Q (PP (aL (aZ u n) p),c):=by
 obtain ⟨x,y⟩:=e
 obtain ⟨a,b⟩:=p
 have:=D7 k a b x y c Q
 rw [E.mir (a,b)] at this
 exact this
theorem RA (k:Nat){e:Int×Int}{u n:Int}(E:OnL e u n)(a:Hm)(Q:D×Hm->Prop):W (f (k+3) "mirror_in" [PP e] a) Q↔Q (LD (aZ u n),a):=by
 obtain ⟨x,y⟩:=e
 have:=Q0 k x y a Q
 rw [E.mirZ] at this
 exact this
theorem RB (k:Nat){l:Nat}{F:Int×Int->Ly}(w:∀ q,Dih (F q)){qs:List (Int×Int)}(nd:qs.Nodup)(J:qs.length<=100){e:Int×Int}{u n:Int}{a:Bool}(E:OnL e u n)(G:∀ q∈qs,bG u (aL (F q) q)≠n){b:Hm}
  (g:b[l]? = some (.dT (aX (fun q=>LD (F q)) qs)))(Q:D×Hm->Prop)(H:Q (.loc b.length,b++[.dT (aX (fun q=>LD (bT u n a F q)) qs)])):W (f (k+4) "folded_layings" [.loc l,PP e,.int (sd a)] b) Q:=by
 have c:l<b.length:=(Tf.mp g).1
 rw [Qh,W_fin]
 simp only [bH,b7,bE,aU,aR,aF,aJ,RA k E,mV,Tj,Tn]
 have A:(b++[C.dT []])[l]? = some (.dT (aX (fun q=>LD (F q)) qs)):=by rw [TR c];exact g
 refine qR rfl A (t5 (a:=l) rfl (by rw [iU c];exact lP b c _)) (fun i o m=>∃ x y z,o=[some (.loc l),some (PP e),some (.int (sd a)),some (LD (aZ u n)),some (.loc b.length),x,y,z]/\m=b.set l (.dF (aX (fun q=>LD (F q)) qs))++[.dT (aX (fun q=>LD (bT u n a F q)) (qs.take i))])
  ⟨none,none,none,rfl,iU c _⟩ (fun i d o m hd p=>?_) fun o m p=>?_
 ·obtain ⟨x,y,z,rfl,rfl⟩:=p
  rw [EO,TH] at hd
  obtain ⟨q,j,rfl⟩:=Tg.mp hd
  refine ⟨_,rfl,?_⟩
  have r:q∈qs:=Ue j
  have B:i<qs.length:=(Tf.mp j).1
  have s:∀ b Q,W (f (k+3) "led" [LD (F q),PP q] b) Q↔Q (PP (aL (F q) q),b):=fun b Q=>y4 (k+2) (F q) (w q) q.1 q.2 b Q
  simp only [iJ,Tj,Tn,bH,b7,a9,bE,aU,aR,aF,aJ,s,t7 (k+1) E,w_eqI,zH (G q r),jK,oI,lK,kK]
  have I:b9 (aX (fun q=>LD (bT u n a F q)) (qs.take i)) (bR q)=none:=EE (qO nd j)
  have put:∀ d Q,Q (b.set l (.dF (aX (fun q=>LD (F q)) qs))++[.dT (aX (fun q=>LD (bT u n a F q)) (qs.take i)++[(bR q,d)])])->W (j4 (.loc b.length) (PP q) d (b.set l (.dF (aX (fun q=>LD (F q)) qs))++[.dT (aX (fun q=>LD (bT u n a F q)) (qs.take i))])) Q:=fun d Q h=>by
   refine (oN (zG _ _ _ _ _) (iD q) (by rw [Tc,Uv,T5];omega)).mpr ?_
   rw [zA I,ER]
   exact h
  have v:aX (fun q=>LD (bT u n a F q)) (qs.take (i+1))=aX (fun q=>LD (bT u n a F q)) (qs.take i)++[(bR q,LD (bT u n a F q))]:=by
   unfold aX
   rw [iT j,TM]
   rfl
  cases hc:aV u n a (aL (F q) q) with
  | true=>
   simp only [if_true,bE,aU,aR,aF,aJ]
   refine (Q1 (k+1) (F q) (aZ u n) (w q) (y9 u n) _ _).mpr (put _ _ ⟨trivial,_,_,_,rfl,?_⟩)
   rw [v]
   unfold bT
   rw [if_pos hc]
  | false=>
   simp only [Tw,if_false,aF,aJ]
   refine put _ _ ⟨trivial,_,_,_,rfl,?_⟩
   rw [v]
   unfold bT
   rw [if_neg (by rw [hc];exact Uc)]
 ·obtain ⟨x,y,z,rfl,rfl⟩:=p
  refine ⟨lP b c _,?_⟩
  rw [t6 g,EO,Tc,Vy]
  simp only [w_mRet,aF,aJ]
  exact H
noncomputable def cC (c:Nat):Zr->Zr
 | []=>[]
 | z::Z=>(z.1,z.2.1,c)::cC (c+1) Z
theorem lQ (z:(Int×Int)×List (Int×Int)×Nat):∀ (Z:Zr)(c:Nat),cC c (Z++[z])=cC c Z++[(z.1,z.2.1,c+Z.length)]
 | [],c=>rfl
 | y::Z,c=>by
  show (y.1,y.2.1,c)::cC (c+1) (Z++[z])=(y.1,y.2.1,c)::(cC (c+1) Z++_)
  rw [lQ z Z (c+1),T6,show c+1+Z.length=c+(Z.length+1) by omega]
theorem lR:∀ (Z:Zr)(c:Nat),GZ (cC c Z)=GZ Z
 | [],_=>rfl
 | z::Z,c=>by
  show (z.1,z.2.1)::GZ (cC (c+1) Z)=(z.1,z.2.1)::GZ Z
  rw [lR Z (c+1)]
theorem t9 {Z Y:Zr}(h:GZ Z=GZ Y):Z.map (·.1)=Y.map (·.1):=by rw [<- gG,<- gG,h]
theorem uA:∀ (Z:Zr)(c:Nat)(b t:Hm),c=b.length->∀ z∈cC c Z,c<=z.2.2/\(b++(Z.map fun z=>C.lst (z.2.1.map PP))++t)[z.2.2]? = some (.lst (z.2.1.map PP))
 | [],_,_,_,_,z,a=>nomatch a
 | y::Z,c,b,t,hc,z,a=>by
  rcases T1.mp a with rfl|a
  ·refine ⟨Tt _,?_⟩
   rw [Vt,Us (by rw [hc];exact Tt _),hc,WZ]
   rfl
  ·have:=uA Z (c+1) (b++[.lst (y.2.1.map PP)]) t (by rw [hc,Tz];rfl) z a
   refine ⟨by omega,?_⟩
   rw [<- this.2,Tq,Vt b [_],a0c]
structure Pz (μ:Hm)(n a:Nat)(Z:Zr):Prop where
 dic:μ[a]? = some (.dT (aM Z))
 kd:(Z.map (·.1)).Nodup
 at_:∀ z∈Z,n<=z.2.2/\μ[z.2.2]? = some (.lst (z.2.1.map PP))
theorem uB {ds:List D}{a:Hm}{p i:Nat}{c d:C}{L:List C}(h:a[i]? = some (.lst ds))(e:i≠p):(a.set p c++d::L)[i]? = some (.lst ds):=by
 have b:=(Tf.mp h).1
 rw [TR (by rw [Ud];exact b),Tv (Uu e)]
 exact h
theorem HI.nd {a:Hm}{p:Nat}{Z:Zr}(I:HI a p Z){i:Nat}{z:(Int×Int)×List (Int×Int)×Nat}(h:Z[i]? = some z):z.1∉(Z.take i).map (·.1):=by
 have:=I.kd
 rw [XG]
 exact qO this (by rw [TH,h];rfl)
theorem zI {a:Hm}{p:Nat}{c:C}{Y:Zr}{q:Int×Int}{L:List (Int×Int)}(h:q∉Y.map (·.1))(i:Y.length<=1000)(Q:Hm->Prop)
  (H:Q (a.set p c++(.dT (aM (cC (a.length+1) (Y++[(q,L,0)])))::(Y++[(q,L,0)]:Zr).map fun z=>C.lst (z.2.1.map PP)))) :
  W (j4 (.loc a.length) (PP q) (.loc (a.set p c++(.dT (aM (cC (a.length+1) Y))::Y.map fun z=>C.lst (z.2.1.map PP))).length) ((a.set p c++(.dT (aM (cC (a.length+1) Y))::Y.map fun z=>C.lst (z.2.1.map PP)))++[.lst (L.map PP)])) Q:=by
 have e:(a.set p c++(.dT (aM (cC (a.length+1) Y))::Y.map fun z=>C.lst (z.2.1.map PP))).length=a.length+1+Y.length:=by
  rw [Tz,Ud,T6,Tc];omega
 have d:(cC (a.length+1) Y).map (·.1)=Y.map (·.1):=t9 (lR _ _)
 have b:(cC (a.length+1) Y).length=Y.length:=by simpa using congrArg Uo d
 rw [e,Vt,UJ]
 refine (oN (zG _ _ _ _ _) (iD q) (by rw [oR,b,T5];omega)).mpr ?_
 rw [zA (tQ (by rw [d];exact h)),ER]
 have g:aM (cC (a.length+1) Y)++[(bR q,D.loc (a.length+1+Y.length))]=aM (cC (a.length+1) (Y++[(q,L,0)])):=by
  rw [lQ]
  unfold aM
  rw [TM]
  rfl
 rw [g]
 rw [TM] at H
 exact H
theorem RC (k:Nat){a:Hm}{p:Nat}{Z:Zr}(I:HI a p Z)(g:a[p]? = some (.dT (aM Z)))(o:Z.length<=1000)(Q:D×Hm->Prop)
  (H:Q (.loc a.length,a++(.dT (aM (cC (a.length+1) Z))::Z.map fun z=>C.lst (z.2.1.map PP)))):W (f (k+1) "copied_piles" [.loc p] a) Q:=by
 have b:p<a.length:=(Tf.mp g).1
 rw [Qg,W_fin]
 simp only [bH,b7,mV,Tj,Tn]
 have n:(a++[C.dT []])[p]? = some (.dT (aM Z)):=by rw [TR b];exact g
 refine qR rfl n (t5 (a:=p) rfl (by rw [iU b];exact lP a b _)) (fun i h c=>∃ x y,h=[some (.loc p),some (.loc a.length),x,y]/\c=a.set p (.dF (aM Z))++(.dT (aM (cC (a.length+1) (Z.take i)))::(Z.take i).map fun z=>C.lst (z.2.1.map PP)))
  ⟨none,none,rfl,iU b _⟩ (fun i d h c hd m=>?_) fun h c m=>?_
 ·obtain ⟨x,y,rfl,rfl⟩:=m
  rw [oU,TH] at hd
  obtain ⟨z,l,rfl⟩:=Tg.mp hd
  refine ⟨_,rfl,?_⟩
  have j:=Ue l
  simp only [iJ,Tj,Tn,jK,bE,aU,aR,aF,aJ]
  refine (yV (uB (I.at_ z j) (I.ne (.inl g) j))).mpr ?_
  refine zI (I.nd l) (by rw [Uv];omega) _ ⟨trivial,_,_,rfl,?_⟩
  have e:cC (a.length+1) (Z.take i++[(z.1,z.2.1,0)])=cC (a.length+1) (Z.take (i+1)):=by
   rw [iT l,lQ,lQ]
  rw [e,iT l,TM,TM]
  rfl
 ·obtain ⟨x,y,rfl,rfl⟩:=m
  refine ⟨lP a b _,?_⟩
  rw [t6 g,oU,Tc,Vy]
  simp only [w_mRet,aF,aJ]
  exact H
theorem RD (k:Nat){b:Hm}{p:Nat}{Z:Zr}(I:HI b p Z)(g:b[p]? = some (.dT (aM Z)))(B:Z.length<=1000){e:Int×Int}{u n:Int}{a o:Bool}(E:OnL e u n)(A:∀ z∈Z,bG u z.1≠n)(Q:Fl×aI×Hm->Prop)
  (H:∀ x y,Q (.nx,[some (.loc p),some (PP e),some (.int (sd a)),some (.bl o),some (.loc b.length),x,y,none,none,none],b++(.dT (aM (cC (b.length+1) (Z.filter fun z=>!aV u n a z.1)))::(Z.filter fun z=>!aV u n a z.1).map fun z=>C.lst (z.2.1.map PP)))) :
  W (dB 0 (cD (kD (aA 0)) (dM [5,6]) (bN (aT (aB (a8 true) (aG (f (k+2) "hand_of") (aC (aA 5) (aC (aA 1) aD))) (aA 2))) (cM (aA 4) (aA 5) (aG eJ (aC (aA 6) aD))) bM)) cV [some (.loc p),some (PP e),some (.int (sd a)),some (.bl o),some (.loc b.length),none,none,none,none,none] (b++[.dT []])) Q:=by
 have c:p<b.length:=(Tf.mp g).1
 have s:(b++[C.dT []])[p]? = some (.dT (aM Z)):=by rw [TR c];exact g
 refine qR rfl s (t5 (a:=p) rfl (by rw [iU c];exact lP b c _)) (fun i m l=>∃ x y,m=[some (.loc p),some (PP e),some (.int (sd a)),some (.bl o),some (.loc b.length),x,y,none,none,none] /\
   l=b.set p (.dF (aM Z))++(.dT (aM (cC (b.length+1) ((Z.take i).filter fun z=>!aV u n a z.1)))::((Z.take i).filter fun z=>!aV u n a z.1).map fun z=>C.lst (z.2.1.map PP)))
  ⟨none,none,rfl,iU c _⟩ (fun i d m l hd q=>?_) fun m l q=>?_
 ·obtain ⟨x,y,rfl,rfl⟩:=q
  rw [oU,TH] at hd
  obtain ⟨z,r,rfl⟩:=Tg.mp hd
  refine ⟨_,rfl,?_⟩
  have j:=Ue r
  have ne:∀ {x y:Int}{b:Hm}{Q:D×Hm->Prop},W (a8 true (.int x) (.int y) b) Q↔Q (.bl (!(x == y)),b):=W_some
  simp only [iJ,Tj,Tn,c7,dG,a9,bE,aU,aR,aF,aJ,t7 k E,ne,zH (A z j)]
  have e:(Z.take (i+1)).filter (fun z=>!aV u n a z.1)=(Z.take i).filter (fun z=>!aV u n a z.1)++[z].filter (fun z=>!aV u n a z.1):=by rw [iT r,Vz]
  cases hc:aV u n a z.1 with
  | true=>
   simp only [Vs,Tw,if_false,dE]
   refine ⟨trivial,_,_,rfl,?_⟩
   rw [e,UQ (by rw [hc];decide),WI,UM]
  | false=>
   simp only [VD,if_true,jK,bE,aU,aR,aF,aJ]
   refine (yV (uB (I.at_ z j) (I.ne (.inl g) j))).mpr ?_
   refine zI (fun h=>I.nd r ?_) (by have:=U3 (fun z:(Int×Int)×List (Int×Int)×Nat=>!aV u n a z.1) (Z.take i);rw [Uv] at this;omega) _ ⟨trivial,_,_,rfl,?_⟩
   ·obtain ⟨y,v,w⟩:=Ts.mp h
    exact Ts.mpr ⟨y,(UK.mp v).1,w⟩
   ·rw [e,U4 (by rw [hc];rfl),WI,lQ,lQ,TM,TM]
    rfl
 ·obtain ⟨x,y,rfl,rfl⟩:=q
  refine ⟨lP b c _,?_⟩
  rw [t6 g,oU,Tc,Vy]
  exact H x y
theorem Pz.ne {d:Hm}{n a:Nat}{Z:Zr}(I:Pz d n a Z){z:(Int×Int)×List (Int×Int)×Nat}(c:z∈Z):z.2.2≠a:=fun e=>by
 have b:=(I.at_ z c).2
 rw [e,I.dic] at b
 cases b
theorem Pz.keep {d μ':Hm}{n a:Nat}{Z:Zr}(I:Pz d n a Z)(h:∀ (c:Nat)(y:C),d[c]? = some y->μ'[c]? = some y):Pz μ' n a Z:=⟨h _ _ I.dic,I.kd,fun z b=>⟨(I.at_ z b).1,h _ _ (I.at_ z b).2⟩⟩
theorem Pz.put {j:Hm}{n a b:Nat}{Z:Zr}(I:Pz j n a Z){p:Int×Int}{L:List (Int×Int)}(i:j[b]? = some (.lst (L.map PP)))(l:n<=b) :
  ∃ h,eB (aM Z) (bR p) (.loc b)=aM h/\GZ h=fP (GZ Z) p L/\Pz (j.set a (.dT (aM h))) n a h:=by
 have bs:b≠a:=fun e=>by rw [e,I.dic] at i;cases i
 by_cases d:p∈Z.map (·.1)
 ·refine ⟨Z.map fun y=>if y.1=p then (y.1,L,b) else y,Er d I.kd,?_,iR I.dic,?_,fun y c=>?_⟩
  ·unfold fP
   rw [gG,if_pos (UP.mpr d)]
   unfold GZ
   rw [TF,TF]
   refine Ul fun z _=>?_
   show ((if z.1=p then (z.1,L,b) else z).1,(if z.1=p then (z.1,L,b) else z).2.1)=if z.1=p then (z.1,L) else (z.1,z.2.1)
   split<;>rfl
  ·have e:(Z.map fun y=>if y.1=p then (y.1,L,b) else y).map (·.1)=Z.map (·.1):=by
    rw [TF]
    refine Ul fun y _=>?_
    show (if y.1=p then (y.1,L,b) else y).1=y.1
    split<;>rfl
   rw [e]
   exact I.kd
  ·obtain ⟨x,g,rfl⟩:=Ts.mp c
   split
   ·rw [Tv (Uu bs)];exact ⟨l,i⟩
   ·rw [Tv (Uu (I.ne g))];exact I.at_ x g
 ·refine ⟨Z++[(p,L,b)],Ep d,?_,iR I.dic,?_,fun y c=>?_⟩
  ·unfold fP
   rw [gG,if_neg (fun w=>d (UP.mp w))]
   unfold GZ
   rw [TM]
   rfl
  ·rw [TM,WR]
   exact ⟨I.kd,by simp,fun x g y c e=>by
    simp only [Tq,WS,UA] at c
    rw [e,c] at g
    exact d g⟩
  ·rcases U7.mp c with c|c
   ·rw [Tv (Uu (I.ne c))];exact I.at_ y c
   ·rw [UA.mp c,Tv (Uu bs)];exact ⟨l,i⟩
theorem zJ {d:Hm}{n a b:Nat}{Z:Zr}(I:Pz d n a Z){p:Int×Int}{L:List (Int×Int)}(i:d[b]? = some (.lst (L.map PP)))(j:n<=b)(l:Z.length<=10000)(Q:Hm->Prop)
  (H:∀ c,GZ c=fP (GZ Z) p L->Pz (d.set a (.dT (aM c))) n a c->Q (d.set a (.dT (aM c)))):W (j4 (.loc a) (PP p) (.loc b) d) Q:=by
 obtain ⟨c,e,h,g⟩:=I.put (p:=p) i j
 refine (oN I.dic (iD p) (by rw [oR,T5];omega)).mpr ?_
 rw [e]
 exact H c h g
theorem zK {Z:Zr}(a:(Z.map (·.1)).Nodup){z:(Int×Int)×List (Int×Int)×Nat}(h:z∈Z):cB (GZ Z) z.1=z.2.1:=oS (by rw [gG];exact a) (g:=(z.1,z.2.1)) (Ts.mpr ⟨z,h,rfl⟩)
theorem zL {b:Hm}{n a d:Nat}{Z:Zr}(I:Pz b n a Z){p:Int×Int}(hd:b[d]? = some (.lst [])):∃ c,fJ (.loc a) [PP p,.loc d] b=some (.loc c,b)/\b[c]? = some (.lst ((cB (GZ Z) p).map PP)):=by
 by_cases e:p∈Z.map (·.1)
 ·obtain ⟨z,g,rfl⟩:=Eo e
  refine ⟨z.2.2,?_,by rw [zK I.kd g];exact (I.at_ z g).2⟩
  simp only [fJ,I.dic,iD,Ub,mX I.kd g,Option.getD_some]
 ·refine ⟨d,?_,by rw [mY (by rw [gG];exact e)];exact hd⟩
  simp only [fJ,I.dic,iD,Ub,tQ e,Yz]
theorem zM {G:Gr}{B:Nat}(h:∀ x∈G,x.2.length<=B)(p:Int×Int):(cB G p).length<=B:=by
 unfold cB
 split
 ·rename_i g a
  exact h g (List.mem_of_find?_eq_some a)
 ·exact Uz _
theorem RE {G:Gr}{B:Nat}{o:Bool}{g:(Int×Int)×List (Int×Int)}(h:∀ x∈G,x.2.length<=B)(d:g.2.length<=100):(cK o G g).length<=G.length+1/\∀ x∈cK o G g,x.2.length<=B+100:=by
 have b:(if o then cB G g.1++g.2 else g.2++cB G g.1).length<=B+100:=by
  have:=zM h g.1
  split<;>rw [Tz]<;>omega
 unfold cK fP
 generalize (if o then cB G g.1++g.2 else g.2++cB G g.1)=L at b
 split
 ·refine ⟨by rw [Tc];omega,fun x a=>?_⟩
  obtain ⟨y,c,rfl⟩:=Ts.mp a
  split
  ·exact b
  ·exact UE (h y c) (by omega)
 ·refine ⟨by rw [Tz];exact Tt _,fun x a=>?_⟩
  rcases U7.mp a with a|a
  ·exact UE (h x a) (by omega)
  ·rw [UA.mp a];exact b
theorem zN (o:Bool):∀ (K S:Gr)(B:Nat),(∀ x∈S,x.2.length<=B)->(∀ x∈K,x.2.length<=100)->(K.foldl (cK o) S).length<=S.length+K.length/\∀ x∈K.foldl (cK o) S,x.2.length<=B+100 * K.length
 | [],S,B,h,_=>⟨Tt _,h⟩
 | g::K,S,B,h,hk=>by
  obtain ⟨d,b⟩:=RE (o:=o) h (hk g (Um ..))
  obtain ⟨e,c⟩:=zN o K (cK o S g) (B+100) b fun x a=>hk x (Ua _ a)
  rw [Y5,T6]
  exact ⟨by omega,fun x a=>by have:=c x a;omega⟩
theorem RF {Z:Zr}{i:Nat}{z:(Int×Int)×List (Int×Int)×Nat}(h:Z[i]? = some z):GZ (Z.take (i+1))=GZ (Z.take i)++[(z.1,z.2.1)]:=by
 unfold GZ
 rw [iT h,TM]
 rfl
theorem ES (mv:Int×Int->Bool)(Z:Zr):GZ (Z.filter fun z=>!mv z.1)=eK mv (GZ Z):=by
 unfold GZ eK
 rw [Y6]
 rfl
theorem RG {Z:Zr}{mv:Int×Int->Bool}{M:Int×Int->Int×Int}(o:Bool)(g:Z.length<=100)(c:∀ z∈Z,z.2.1.length<=100)(i:Nat):((c8 mv M (GZ (Z.take i))).foldl (cK o) (eK mv (GZ Z))).length<=200/\∀ x∈(c8 mv M (GZ (Z.take i))).foldl (cK o) (eK mv (GZ Z)),x.2.length<=10100:=by
 have e:∀ x∈GZ Z,x.2.length<=100:=fun x a=>by
  obtain ⟨z,b,rfl⟩:=Ts.mp a
  exact c z b
 have l:(c8 mv M (GZ (Z.take i))).length<=100:=by
  unfold c8
  rw [Tc]
  refine UE (U3 _ _) ?_
  rw [jM,Uv];omega
 obtain ⟨j,d⟩:=zN o (c8 mv M (GZ (Z.take i))) (eK mv (GZ Z)) 100 (fun x a=>e x (UK.mp a).1) fun x a=>by
  obtain ⟨y,h,rfl⟩:=Ts.mp a
  rw [Vf]
  have:=(UK.mp h).1
  obtain ⟨z,b,rfl⟩:=Ts.mp this
  exact c z (Yg b)
 have m:(eK mv (GZ Z)).length<=100:=by
  refine UE (U3 _ _) ?_
  rw [jM];exact g
 exact ⟨by omega,fun x a=>by have:=d x a;omega⟩
theorem RH {mv:Int×Int->Bool}{M:Int×Int->Int×Int}{o:Bool}{S:Gr}{Z:Zr}{i:Nat}{z:(Int×Int)×List (Int×Int)×Nat}(h:Z[i]? = some z) :
  (c8 mv M (GZ (Z.take (i+1)))).foldl (cK o) S=if mv z.1 then cK o ((c8 mv M (GZ (Z.take i))).foldl (cK o) S) (M z.1,z.2.1.reverse) else (c8 mv M (GZ (Z.take i))).foldl (cK o) S:=by
 rw [RF h,Rm]
 dsimp only
 split
 ·rw [a1p];rfl
 ·rfl
theorem RI (k:Nat){j:Hm}{p:Nat}{Z:Zr}(I:HI j p Z)(g:j[p]? = some (.dT (aM Z)))(hl:Z.length<=100)(hb:∀ z∈Z,z.2.1.length<=100){e:Int×Int}{u n:Int}{a o:Bool}(E:OnL e u n)(hq:∀ z∈Z,bG u z.1≠n)(Q:D×Hm->Prop)
  (H:∀ S b,j <+: b->Pz b j.length j.length S->GZ S=iS (aV u n a) (aL (aZ u n)) o (GZ Z)->Q (.loc j.length,b)):W (f (k+3) "folded_piles" [.loc p,PP e,.int (sd a),.bl o] j) Q:=by
 have m:p<j.length:=(Tf.mp g).1
 rw [Qi,W_fin]
 simp only [bH,b7,mV,Tj,Tn]
 refine RD k I g (by omega) E hq _ fun x y=>?_
 simp only [bH]
 generalize hS:(Z.filter fun z=>!aV u n a z.1)=S0
 have g1:(j++(C.dT (aM (cC (j.length+1) S0))::S0.map fun z=>C.lst (z.2.1.map PP)))[p]? = some (.dT (aM Z)):=by rw [TR m];exact g
 have Y:(S0.map (·.1)).Nodup:=by
  rw [<- hS]
  exact (Xm.map _).nodup I.kd
 refine qR rfl g1 (t5 (a:=p) rfl (by rw [iU m];exact lP j m _)) (fun i v b=>∃ S x y gl B G,v=[some (.loc p),some (PP e),some (.int (sd a)),some (.bl o),some (.loc j.length),x,y,gl,B,G] /\
   j.set p (.dF (aM Z)) <+: b/\Pz b j.length j.length S/\GZ S=(c8 (aV u n a) (aL (aZ u n)) (GZ (Z.take i))).foldl (cK o) (eK (aV u n a) (GZ Z)))
  ⟨cC (j.length+1) S0,x,y,none,none,none,rfl,by rw [iU m];exact Vn _ _,?_,?_⟩ (fun i d v b hd O=>?_) fun v b O=>?_
 ·rw [iU m]
  refine ⟨zG _ _ _ _ _,by rw [t9 (lR _ _)];exact Y,fun z A=>?_⟩
  have:=uA S0 (j.length+1) (j.set p (.dF (aM Z))++[.dT (aM (cC (j.length+1) S0))]) [] (by rw [Tz,Ud];rfl) z A
  refine ⟨by omega,?_⟩
  rw [UM,Vt] at this
  exact this.2
 ·rw [lR,<- hS,ES]
  rfl
 ·obtain ⟨S,x,y,gl,B,G,rfl,l,J,w⟩:=O
  rw [oU,TH] at hd
  obtain ⟨z,A,rfl⟩:=Tg.mp hd
  refine ⟨_,rfl,?_⟩
  have s:=Ue A
  simp only [iJ,Tj,Tn,c7,dG,a9,bE,aU,aR,aF,aJ,t7 k E,w_eqI,zH (hq z s)]
  rw [RH A]
  cases hc:aV u n a z.1 with
  | false=>
   simp only [Tw,if_false,dE]
   exact ⟨trivial,S,_,_,_,_,_,rfl,l,J,w⟩
  | true=>
   have X:b[z.2.2]? = some (.lst (z.2.1.map PP)):=aP l (by rw [Tv (Uu (I.ne (.inl g) s))];exact I.at_ z s)
   have T:j.length<=b.length:=by have:=l.length_le;rwa [Ud] at this
   simp only [if_true,bH,b7,bE,aU,aR,aF,aJ,Tj,Tn,Rz k E]
   refine (D1 X).mpr ?_
   simp only [Tj,Tn]
   refine tR ?_
   simp only [aF,aJ,aU,aR,gD]
   have J1:Pz (b++[C.lst (z.2.1.map PP).reverse]) j.length j.length S:=J.keep fun c y h=>aP (Vn _ _) h
   refine ⟨tS J1.dic,Uz _,?_⟩
   have K:Pz (b++[C.lst (z.2.1.map PP).reverse]++[C.lst []]) j.length j.length S:=J1.keep fun c y h=>aP (Vn _ _) h
   obtain ⟨c,ec,M⟩:=zL (d:=(b++[C.lst (z.2.1.map PP).reverse]).length) K (p:=aL (aZ u n) z.1) (by simp)
   have N:(b++[C.lst (z.2.1.map PP).reverse]++[C.lst []])[b.length]? = some (.lst (z.2.1.reverse.map PP)):=by
    rw [Vt,Us (Tt _),WZ,YT]
    rfl
   rw [ec,W_some]
   have p2:b <+: b++[C.lst (z.2.1.map PP).reverse]++[C.lst []]:=by rw [Vt];exact Vn _ _
   generalize b++[C.lst (z.2.1.map PP).reverse]++[C.lst []]=μ2 at K ec M N p2
   simp only [Tj,Tn,jK,oI,lK,aF,aJ,kK]
   obtain ⟨sm1,sm2⟩:=RG (mv:=aV u n a) (M:=aL (aZ u n)) o hl hb i
   have hat:=zM (G:=GZ S) (by rw [w];exact sm2) (aL (aZ u n) z.1)
   have hzl:=hb z s
   have R:S.length<=10000:=by rw [<- jM,w];omega
   have e2:∀ {L:List (Int×Int)},L=(if o then cB (GZ S) (aL (aZ u n) z.1)++z.2.1.reverse else z.2.1.reverse++cB (GZ S) (aL (aZ u n) z.1))->∀ xs:List D,xs=L.map PP->W (j4 (.loc j.length) (PP (aL (aZ u n) z.1)) (.loc μ2.length) (μ2++[.lst xs])) fun r=>∃ S' x y gl B G,[some (.loc p),some (PP e),some (.int (sd a)),some (.bl o),some (.loc j.length),some (PP z.1),some (.loc z.2.2),some (PP (aL (aZ u n) z.1)),some (D.loc b.length),some (.loc c)]=[some (.loc p),some (PP e),some (.int (sd a)),some (.bl o),some (.loc j.length),x,y,gl,B,G] /\
     j.set p (.dF (aM Z)) <+: r/\Pz r j.length j.length S'/\GZ S'=cK o ((c8 (aV u n a) (aL (aZ u n)) (GZ (Z.take i))).foldl (cK o) (eK (aV u n a) (GZ Z))) (aL (aZ u n) z.1,z.2.1.reverse):=by
    intro L hL xs U
    subst U
    have J3:Pz (μ2++[C.lst (L.map PP)]) j.length j.length S:=K.keep fun c y h=>aP (Vn _ _) h
    refine zJ J3 (p:=aL (aZ u n) z.1) (L:=L) (by simp) (UE T p2.length_le) R _ fun Z' e1 J4=>⟨Z',_,_,_,_,_,rfl,?_,J4,?_⟩
    ·exact fL ((l.trans p2).trans (Vn _ _)) (by rw [Ud];exact Tt _) _
    ·rw [e1,hL,<- w]
     rfl
   cases o with
   | true=>
    simp only [if_true,a9,aF,aJ]
    refine (qJ M N (by rw [Tc,Tc,Vf,T5];omega)).mpr ?_
    exact bO (e2 rfl _ (by rw [if_pos rfl,TM])) fun r q=>⟨trivial,q⟩
   | false=>
    simp only [Tw,if_false,a9,aF,aJ]
    refine (qJ N M (by rw [Tc,Tc,Vf,T5];omega)).mpr ?_
    exact bO (e2 rfl _ (by rw [if_neg (by decide),TM])) fun r q=>⟨trivial,q⟩
 ·obtain ⟨S,x,y,gl,B,G,rfl,l,J,w⟩:=O
  refine ⟨aP l (TU m),?_⟩
  simp only [w_mRet,aF,aJ]
  refine H S _ (tT g l) ⟨?_,J.kd,fun z A=>?_⟩ ?_
  ·rw [Tv (by omega)];exact J.dic
  ·have:=J.at_ z A
   rw [Tv (by omega)];exact this
  ·rw [w,oU,Tc,Vy]
   rfl
theorem ET (k:Nat)(p:Int×Int)(u:Int)(b:0<=u/\u<4)(a:Hm)(Q:D×Hm->Prop)(H:∀ μ',a <+: μ'->Q (.int (bG u p),μ')):W (f (k+1) "_law_value" [PP p,.int u] a) Q:=by
 rw [Qp]
 exact QM (QL rfl rfl ((tH (cA _ _) (Rf b)).mpr (H _ (bD _ _))))
theorem EU (k:Nat)(A:Ly)(hA:Dih A)(p:Int×Int)(a:Hm)(Q:D×Hm->Prop):W (f (k+1) "_law_led" [LD A,PP p] a) Q↔Q (PP (aL A p),a):=by
 obtain ⟨b,c,d,e⟩:=hA.sm
 rw [Qn,W_fin]
 simp only [bH,yQ,aF,Q5,Tj,Tn,w_mRet,eM,aU,aR,a9,bB,lL,hW,aJ,lN b,lN c,lN d,lN e,fM,eP,true_and]
 rfl
theorem RJ (A:Ly)(n:Int):eQ A (aZ 0 n)=⟨A.a,A.b,-A.c,-A.d,A.e,2 * n - A.g⟩/\eQ A (aZ 1 n)=⟨-A.a,-A.b,A.c,A.d,2 * n - A.e,A.g⟩/\eQ A (aZ 2 n)=⟨A.c,A.d,A.a,A.b,A.g+n,A.e - n⟩/\eQ A (aZ 3 n)=⟨-A.c,-A.d,-A.a,-A.b,n - A.g,n - A.e⟩:=by
 refine ⟨?_,?_,?_,?_⟩<;>(unfold eQ aZ;simp only [if_true,if_false,Int.reduceEq,Ly.mk.injEq];omega)
theorem EV (k:Nat)(A:Ly)(u n:Int)(g:0<=u/\u<4)(a:Hm)(Q:D×Hm->Prop):W (f (k+1) "_law_over" [LD A,.tup [.int u,.int n]] a) Q↔Q (LD (eQ A (aZ u n)),a):=by
 obtain ⟨b,c,d,e⟩:=RJ A n
 refine yZ ?_
 rw [Qo]
 have:u=0\/u=1\/u=2\/u=3:=by omega
 rcases this with rfl|rfl|rfl|rfl
 ·rw [b];exact ⟨_,rfl,rfl⟩
 ·rw [c];exact ⟨_,rfl,rfl⟩
 ·rw [d];exact ⟨_,rfl,rfl⟩
 ·rw [e];exact ⟨_,rfl,rfl⟩
noncomputable def EW (n:Nat):List Nat:=Z3 (VI none none (some (-1)) n).1 (VI none none (some (-1)) n).2.1 (VI none none (some (-1)) n).2.2
theorem RK:∀ n∈Ui 101,EW n=(Ui n).reverse:=by decide +kernel
theorem EX {a:Type}(xs:List a)(h:xs.length<=100):dD xs none none (some (-1))=xs.reverse:=by
 have e:=RK xs.length (Vk.mpr (by omega))
 unfold EW at e
 unfold dD
 rw [e,List.filterMap_reverse,EC]
theorem RL {b:Hm}{l:Nat}{a:ME}{d:aI}{L:List (Int×Int)}{Q:D×Hm->Prop}(c:L.length<=100)(e:a d b=some (.loc l,b))(g:b[l]? = some (.lst (L.map PP)))(H:Q (.loc b.length,b++[.lst (L.reverse.map PP)])) :
  W (mL a gR gR (i0 (c6 (mC (.int 1)))) d b) Q:=by
 refine PM ?_
 rw [e,W_some]
 refine ⟨l,rfl,?_⟩
 refine W_some.mpr (W_some.mpr (W_some.mpr ⟨show (some (-1):Option Int)≠some 0 by decide,_,g,?_,?_⟩))
 ·show (dD (L.map PP) none none (some (-1))).length<=TC
  rw [EX _ (by rw [Tc];exact c),Vf,Tc,T5];omega
 ·show Q (.loc b.length,b++[.lst (dD (L.map PP) none none (some (-1)))])
  rw [EX _ (by rw [Tc];exact c),<- YT]
  exact H
theorem EY (q:Int×Int)(a:Hm):∀ ps:List (Int×Int),jW a (PP q) (ps.map PP)=some (ps.contains q)
 | []=>rfl
 | p::ps=>by
  show (cZ 8 a (PP p) (PP q)).bind (fun b=>(jW a (PP q) (ps.map PP)).map fun c=>b||c)=_
  rw [DR 6,EY q a ps,List.contains_cons]
  have:(p == q)=(q == p):=by
   rw [Xg,beq_iff_eq,beq_iff_eq]
   exact eq_comm
  rw [this]
  rfl
theorem EZ {b:Bool}{c:Hm}{a:Nat}{ps:List (Int×Int)}{q:Int×Int}{Q:D×Hm->Prop}(h:c[a]? = some (.lst (ps.map PP))):W (cW b (PP q) (.loc a) c) Q↔Q (.bl (if b then !(ps.contains q) else ps.contains q),c):=by
 have:cW b (PP q) (.loc a) c=some (.bl (if b then !(ps.contains q) else ps.contains q),c):=by
  have d:bP c (.loc a)=some (ps.map PP):=by simp only [bP,h]
  simp only [cW,kZ,h,d,TZ,EY,Ub]
 rw [this]
 exact W_some
theorem RM {V:Int×Int->D}{qs:List (Int×Int)}(q:Int×Int)(a:q∈qs)(nd:qs.Nodup)(d:D):eB (aX V qs) (bR q) d=aX (fun x=>if x=q then d else V x) qs:=by
 unfold eB
 rw [ED nd a,if_pos (show (some (V q)).isSome=true from rfl)]
 unfold aX
 rw [TF]
 refine Ul fun x _=>?_
 show (if bR x=bR q then (bR x,d) else (bR x,V x))=(bR x,if x=q then d else V x)
 by_cases e:x=q
 ·rw [if_pos (by rw [e]),if_pos e]
 ·rw [if_neg (fun h=>e (oQ h)),if_neg e]
theorem E4 {p:Nat}{l:D}{r:aI}{a:Hm}:(aB aH (aA 0) (mC (.int 1))) (some (.tup [l,.loc p])::r) a=some (.loc p,a):=rfl
theorem RN (k:Nat){e:Hm}{p:Nat}{Z:Zr}(g:e[p]? = some (.dT (aM Z)))(G:Z.length<=100){u n:Int}(z:0<=u/\u<4){a:Bool}{l j m v w x y c:Option D}{o:D}{A:MS}(Q:Fl×aI×Hm->Prop)
  (H:∀ t b,e <+: b->b[t]? = some (.lst (((Z.map (·.1)).filter (aV u n a)).map PP))->Q (.nx,[some (.tup [o,.loc p]),some (.tup [.int u,.int n]),some (.bl a),j,m,v,some (.loc t),w,x,y,c],b)) :
  W (dB 1001 (aQ 6 (c4 (e8 (aB aH (aA 0) (mC (.int 1)))) (aT (aB (a8 false) (aB kX (aG (f (k+1) "_law_value") (aC (aA 11) (aC (aB aH (aA 1) (mC (.int 0))) aD))) (aB aH (aA 1) (mC (.int 1)))) (aA 2))) (aA 11))) A
   [some (.tup [o,.loc p]),some (.tup [.int u,.int n]),some (.bl a),j,m,v,none,w,x,y,c] e) Q:=by
 have i:p<e.length:=(Tf.mp g).1
 have r:(e.set p (.dF (aM Z)))[p]? = some (.dF (aM Z)):=TU i
 refine tZ (a:=p) rfl g ?_
 rw [b7]
 refine mT (xs:=(Z.map (·.1)).map PP) (p:=fun d=>aV u n a (iB d)) (v:=fun d=>d) ?_
 rw [t4 (a:=p) E4 r,qS,W_some]
 refine ⟨yS,rfl,by rw [Tc,Tc,T5];omega,fun d b hd h=>?_,fun d b hd _ h=>?_,fun b h s=>?_⟩
 ·obtain ⟨q,_,rfl⟩:=Ts.mp hd
  simp only [UJ,VH,dG,a9,bE,aU,aR,bB,aF,aJ,lL,hW]
  refine ET k q u z _ _ fun E B=>?_
  simp only [DM]
  exact w_eqBl.mpr ⟨rfl,B⟩
 ·simp only [UJ,VH,aF,aJ]
  exact ⟨trivial,UI _⟩
 ·refine ⟨aP h r,?_⟩
  dsimp only
  rw [D8,Ud] at s
  rw [Ud]
  exact H _ _ (tT g h) (by rw [Tv (by omega)];exact s)
theorem RO (k:Nat){b:Hm}{l t:Nat}{F:Int×Int->Ly}(R:∀ q,Dih (F q)){qs ps:List (Int×Int)}(nd:qs.Nodup)(hl:qs.length<=100){u n:Int}(Y:0<=u/\u<4){a:Bool}(g:b[l]? = some (.dT (aX (fun q=>LD (F q)) qs)))(v:b[t]? = some (.lst (ps.map PP)))
  (T:∀ q∈qs,ps.contains (aL (F q) q)=aV u n a (aL (F q) q)){w y z I J K r:Option D}(Q:Fl×aI×Hm->Prop)
  (H:∀ x,Q (.nx,[w,some (.tup [.int u,.int n]),y,z,some (.loc l),I,some (.loc t),x,J,K,r],(b++[C.lst (qs.map PP)]).set l (.dT (aX (fun q=>LD (bT u n a F q)) qs)))) :
  W (cD (cR (aG eJ (aC (aA 4) aD))) (cI 7) (bN (aT (aB (cW false) (aG (f (k+1) "_law_led") (aC (aB aH (aA 4) (aA 7)) (aC (aA 7) aD))) (aA 6))) (cM (aA 4) (aA 7) (aG (f (k+1) "_law_over") (aC (aB aH (aA 4) (aA 7)) (aC (aA 1) aD)))) bM)
   [w,some (.tup [.int u,.int n]),y,z,some (.loc l),I,some (.loc t),none,J,K,r] b) Q:=by
 have U:l<b.length:=(Tf.mp g).1
 have G:t≠l:=fun e=>by rw [e,g] at v;cases v
 have X:t<b.length:=(Tf.mp v).1
 simp only [gE,mS,bE,aU,aR,aF,aJ]
 refine (yU g).mpr ?_
 have O:(aX (fun q=>LD (F q)) qs).map (fun k=>D.tup (k.1.map D.int))=qs.map PP:=by
  unfold aX
  rw [TF]
  rfl
 rw [O]
 refine (mU (cA _ _)).mpr ?_
 have M:l<(b++[C.lst (qs.map PP)]).length:=by rw [Tz];omega
 have L:(b++[C.lst (qs.map PP)])[l]? = some (.dT (aX (fun q=>LD (F q)) qs)):=aP (bD _ _) g
 refine tI (fun i o m=>∃ x,o=[w,some (.tup [.int u,.int n]),y,z,some (.loc l),I,some (.loc t),x,J,K,r]/\m=(b++[C.lst (qs.map PP)]).set l (.dT (aX (fun q=>LD (if q∈qs.take i then bT u n a F q else F q)) qs)))
  ⟨none,rfl,?_⟩ ?_ (fun i d o m hd B=>?_) fun o m B=>?_
 ·rw [show (fun q=>LD (if q∈qs.take 0 then bT u n a F q else F q))=fun q=>LD (F q) from funext fun q=>by rw [if_neg (by simp)]]
  exact (qN L).symm
 ·rintro i o m ⟨x,_,rfl⟩
  rw [Tv (by omega)]
  exact cA _ _
 ·obtain ⟨x,rfl,rfl⟩:=B
  obtain ⟨q,E,rfl⟩:=Ek hd
  refine ⟨_,rfl,?_⟩
  have p:q∈qs:=Ue E
  have Z:q∉qs.take i:=qO nd E
  have gl:((b++[C.lst (qs.map PP)]).set l (.dT (aX (fun q=>LD (if q∈qs.take i then bT u n a F q else F q)) qs)))[l]? = some (.dT (aX (fun q=>LD (if q∈qs.take i then bT u n a F q else F q)) qs)):=iR L
  have A:((b++[C.lst (qs.map PP)]).set l (.dT (aX (fun q=>LD (if q∈qs.take i then bT u n a F q else F q)) qs)))[t]? = some (.lst (ps.map PP)):=by rw [Tv (Uu G)];exact aP (bD _ _) v
  have N:∀ Q,Q (LD (F q),(b++[C.lst (qs.map PP)]).set l (.dT (aX (fun q=>LD (if q∈qs.take i then bT u n a F q else F q)) qs)))->W (aH (.loc l) (PP q) ((b++[C.lst (qs.map PP)]).set l (.dT (aX (fun q=>LD (if q∈qs.take i then bT u n a F q else F q)) qs)))) Q:=fun Q h=>by
   refine (DZ gl (iD q) (ED nd p)).mpr ?_
   rw [if_neg Z]
   exact h
  simp only [Tj,Tn,c7,dG,a9,bE,aU,aR,aF,aJ]
  refine N _ ((EU k (F q) (R q) q _ _).mpr ((EZ A).mpr ?_))
  rw [if_neg Uc,T q p]
  have s:∀ x∈qs,x∈qs.take (i+1)↔x∈qs.take i\/x=q:=fun x _=>by rw [iT E,U7,UA]
  cases hc:aV u n a (aL (F q) q) with
  | true=>
   simp only [if_true,jK,bE,aU,aR,a9,aF,aJ]
   refine N _ ((EV k (F q) u n Y _ _).mpr ((oN gl (iD q) (by rw [Tc,T5];omega)).mpr ⟨_,rfl,?_⟩))
   rw [RM q p nd,YA]
   congr 2
   refine Ul fun x j=>?_
   dsimp only
   by_cases e:x=q
   ·rw [if_pos e,if_pos ((s x j).mpr (.inr e)),e]
    unfold bT
    rw [if_pos hc]
   ·rw [if_neg e]
    by_cases c:x∈qs.take i
    ·rw [if_pos c,if_pos ((s x j).mpr (.inl c))]
    ·rw [if_neg c,if_neg fun h=>((s x j).mp h).elim c e]
  | false=>
   simp only [Tw,if_false,dE]
   refine ⟨_,rfl,?_⟩
   congr 2
   refine Ul fun x j=>?_
   dsimp only
   by_cases c:x∈qs.take i
   ·rw [if_pos c,if_pos ((s x j).mpr (.inl c))]
   ·by_cases e:x=q
    ·rw [if_neg c,if_pos ((s x j).mpr (.inr e)),e]
     unfold bT
     rw [if_neg (by rw [hc];exact Uc)]
    ·rw [if_neg c,if_neg fun h=>((s x j).mp h).elim c e]
 ·obtain ⟨x,rfl,rfl⟩:=B
  have e:aX (fun q=>LD (if q∈qs.take (qs.map PP).length then bT u n a F q else F q)) qs=aX (fun q=>LD (bT u n a F q)) qs:=by
   refine Ul fun x j=>?_
   dsimp only
   rw [Tc,Vy,if_pos j]
  rw [e]
  exact H x
theorem E6 {Z:Zr}{mv:Int×Int->Bool}{q:Int×Int}(h:q∈Z.map (·.1)):((Z.map (·.1)).filter mv).contains q=mv q:=by
 rw [Xg,UP,UK]
 exact ⟨fun x=>x.2,fun x=>⟨h,x⟩⟩
theorem RP {a:Hm}{p t:Nat}{Z:Zr}(I:HI a p Z)(g:a[p]? = some (.dT (aM Z)))(T:Z.length<=100){mv:Int×Int->Bool}(w:a[t]? = some (.lst (((Z.map (·.1)).filter mv).map PP))){s:D}{n o q r G J j:Option D}{R:MS}(Q:Fl×aI×Hm->Prop)
  (H:∀ x,Q (.nx,[some (.tup [s,.loc p]),n,o,q,r,x,some (.loc t),G,some (.loc a.length),J,j],a++(C.dT (aM (cC (a.length+1) (Z.filter fun z=>!mv z.1)))::(Z.filter fun z=>!mv z.1).map fun z=>C.lst (z.2.1.map PP)))) :
  W (dB 1001 (cD (e8 (aB aH (aA 0) (mC (.int 1)))) (cI 5) (bN (aT (aB (cW true) (aA 5) (aA 6))) (cM (aA 8) (aA 5) (aG eJ (aC (aB aH (aB aH (aA 0) (mC (.int 1))) (aA 5)) aD))) bM)) R
   [some (.tup [s,.loc p]),n,o,q,r,none,some (.loc t),G,some (.loc a.length),J,j] (a++[C.dT []])) Q:=by
 have b:p<a.length:=(Tf.mp g).1
 have B:t≠p:=fun e=>by rw [e,g] at w;cases w
 have K:(a++[C.dT []])[p]? = some (.dT (aM Z)):=by rw [TR b];exact g
 have u:∀ L,(a.set p (.dF (aM Z))++L)[p]? = some (.dF (aM Z)):=fun L=>lP a b _
 refine qR rfl K (t4 (a:=p) E4 (by rw [iU b];exact u _)) (fun i m l=>∃ x,m=[some (.tup [s,.loc p]),n,o,q,r,x,some (.loc t),G,some (.loc a.length),J,j] /\
   l=a.set p (.dF (aM Z))++(C.dT (aM (cC (a.length+1) ((Z.take i).filter fun z=>!mv z.1)))::((Z.take i).filter fun z=>!mv z.1).map fun z=>C.lst (z.2.1.map PP)))
  ⟨none,rfl,iU b _⟩ (fun i d m l hd A=>?_) fun m l A=>?_
 ·obtain ⟨x,rfl,rfl⟩:=A
  rw [qS,TF,TH] at hd
  obtain ⟨z,E,rfl⟩:=Tg.mp hd
  refine ⟨_,rfl,?_⟩
  have c:=Ue E
  have O:z.1∈Z.map (·.1):=Ts.mpr ⟨z,c,rfl⟩
  have v:=uB (p:=p) (c:=.dF (aM Z)) (d:=C.dT (aM (cC (a.length+1) ((Z.take i).filter fun z=>!mv z.1)))) (L:=((Z.take i).filter fun z=>!mv z.1).map fun z=>C.lst (z.2.1.map PP)) w B
  simp only [W9,Tj,Tn,c7,dG,a9,aF,aJ]
  refine (EZ v).mpr ?_
  rw [if_pos rfl,E6 O]
  have e:(Z.take (i+1)).filter (fun z=>!mv z.1)=(Z.take i).filter (fun z=>!mv z.1)++[z].filter (fun z=>!mv z.1):=by rw [iT E,Vz]
  cases hc:mv z.1 with
  | true=>
   simp only [Vs,Tw,if_false,dE]
   refine ⟨trivial,_,rfl,?_⟩
   rw [e,UQ (by rw [hc];decide),WI,UM]
  | false=>
   simp only [VD,if_true,jK,bE,aU,aR,a9,bB,hW,aF,aJ]
   refine (Rg (.inr (u _)) (iD z.1) (mX I.kd c)).mpr ?_
   refine (yV (uB (I.at_ z c) (I.ne (.inl g) c))).mpr ?_
   refine zI (fun h=>I.nd E ?_) (by have:=U3 (fun z:(Int×Int)×List (Int×Int)×Nat=>!mv z.1) (Z.take i);rw [Uv] at this;omega) _ ⟨trivial,_,rfl,?_⟩
   ·obtain ⟨y,M,N⟩:=Ts.mp h
    exact Ts.mpr ⟨y,(UK.mp M).1,N⟩
   ·rw [e,U4 (by rw [hc];rfl),WI,lQ,lQ,TM,TM]
    rfl
 ·obtain ⟨x,rfl,rfl⟩:=A
  refine ⟨u _,?_⟩
  rw [t6 g,qS,Tc,Tc,Vy]
  exact H x
theorem RQ (mv:Int×Int->Bool)(M:Int×Int->Int×Int)(Z:Zr):c8 mv M (GZ Z)=(Z.filter fun z=>mv z.1).map fun z=>(M z.1,z.2.1.reverse):=by
 unfold c8 GZ
 rw [Y6,TF]
 rfl
theorem uC (mv:Int×Int->Bool)(Z:Zr):(Z.map (·.1)).filter mv=(Z.filter fun z=>mv z.1).map (·.1):=by
 rw [Y6]
 rfl
theorem RR (k:Nat){μ0 μ:Hm}{p t b:Nat}{Z S0:Zr}(E:μ0 <+: μ)(I:HI μ0 p Z)(g:μ0[p]? = some (.dT (aM Z)))(hl:Z.length<=100)(M:∀ z∈Z,z.2.1.length<=100){u n:Int}(hu:0<=u/\u<4){a o:Bool}(gt:μ0[t]? = some (.lst (((Z.map (·.1)).filter (aV u n a)).map PP)))
  (J0:Pz μ μ0.length b S0)(R:μ0.length<=b)(e0:GZ S0=eK (aV u n a) (GZ Z)){s:D}{q x5 G:Option D}(Q:Fl×aI×Hm->Prop)
  (H:∀ x y z S e,μ0 <+: e->Pz e μ0.length b S->GZ S=iS (aV u n a) (aL (aZ u n)) o (GZ Z)->Q (.nx,[some (.tup [s,.loc p]),some (.tup [.int u,.int n]),some (.bl a),some (.bl o),q,x,some (.loc t),G,some (.loc b),y,z],e)) :
  W (cD (cR (aA 6)) (cI 5) (aK (aQ 9 (aG (f (k+1) "_law_led") (aC (aG (f (k+1) "_law_over") (aC (bW (aC (mC (.int 1)) (aC (mC (.int 0)) (aC (mC (.int 0)) (aC (mC (.int 1)) (aC (mC (.int 0)) (aC (mC (.int 0)) aD))))))) (aC (aA 1) aD))) (aC (aA 5) aD)))) (aK (aQ 10 (mL (aB aH (aB aH (aA 0) (mC (.int 1))) (aA 5)) gR gR (i0 (c6 (mC (.int 1)))))) (bN (eY (aA 3)) (cM (aA 8) (aA 9) (aB bK (f7 fJ (aA 8) (aC (aA 9) (aC (cU aD) aD))) (aA 10))) (cM (aA 8) (aA 9) (aB bK (aA 10) (f7 fJ (aA 8) (aC (aA 9) (aC (cU aD) aD))))))))
   [some (.tup [s,.loc p]),some (.tup [.int u,.int n]),some (.bl a),some (.bl o),q,x5,some (.loc t),G,some (.loc b),none,none] μ) Q:=by
 simp only [gE,mS,aF,aJ]
 refine (mU (aP E gt)).mpr ?_
 refine tI (fun i l e=>∃ x y z S,l=[some (.tup [s,.loc p]),some (.tup [.int u,.int n]),some (.bl a),some (.bl o),q,x,some (.loc t),G,some (.loc b),y,z]/\μ0 <+: e/\Pz e μ0.length b S /\
   GZ S=(((Z.filter fun z=>aV u n a z.1).take i).map fun z=>(aL (aZ u n) z.1,z.2.1.reverse)).foldl (cK o) (eK (aV u n a) (GZ Z)))
  ⟨x5,none,none,S0,rfl,E,J0,e0⟩ (fun i l e ⟨_,_,_,_,_,h,_⟩=>aP h gt) (fun i d l e hd N=>?_) fun l e N=>?_
 ·obtain ⟨x,y,w,S,rfl,m,J,v⟩:=N
  rw [uC,TF,TH] at hd
  obtain ⟨z,hz,rfl⟩:=Tg.mp hd
  refine ⟨_,rfl,?_⟩
  have X:=UK.mp (Ue hz)
  have j:=X.1
  have hge:μ0.length<=e.length:=m.length_le
  have stl:D.tup [.int 1,.int 0,.int 0,.int 1,.int 0,.int 0]=LD cX:=rfl
  simp only [W9,Tj,Tn,bH,b7,bE,eM,aU,aR,bB,aF,aJ,stl]
  refine ⟨Ec,(EV k cX u n hu _ _).mpr ?_⟩
  rw [QX]
  refine (EU k (aZ u n) (y9 u n) z.1 _ _).mpr ?_
  simp only [Tj,Tn]
  have ei:aH (.loc p) (PP z.1) e=some (.loc z.2.2,e):=by
   have h1:e[p]? = some (.dT (aM Z)):=aP m g
   simp only [aH,h1,iD,TZ,mX I.kd j,Ub]
  refine RL (M z j) ei (aP m (I.at_ z j)) ?_
  simp only [Tj,Tn,c7,lK,aF,aJ,kK]
  have q1:μ0 <+: e++[C.lst (z.2.1.reverse.map PP)]:=m.trans (bD _ _)
  have K:Pz (e++[C.lst (z.2.1.reverse.map PP)]) μ0.length b S:=J.keep fun c y h=>aP (bD _ _) h
  have A:(e++[C.lst (z.2.1.reverse.map PP)])[e.length]? = some (.lst (z.2.1.reverse.map PP)):=cA _ _
  generalize hν:e++[C.lst (z.2.1.reverse.map PP)]=ν at q1 K A
  have q2:μ0 <+: ν++[C.lst []]:=q1.trans (bD _ _)
  have J2:Pz (ν++[C.lst []]) μ0.length b S:=K.keep fun c y h=>aP (bD _ _) h
  have gr:(ν++[C.lst []])[e.length]? = some (.lst (z.2.1.reverse.map PP)):=aP (bD _ _) A
  obtain ⟨c,ec,gc⟩:=zL (d:=ν.length) J2 (p:=aL (aZ u n) z.1) (cA _ _)
  have hK:(((Z.filter fun z=>aV u n a z.1).take i).map fun z=>(aL (aZ u n) z.1,z.2.1.reverse)).length<=100:=by
   rw [Tc,Uv]
   have:=U3 (fun z:(Int×Int)×List (Int×Int)×Nat=>aV u n a z.1) Z
   omega
  obtain ⟨sm1,Y⟩:=zN o (((Z.filter fun z=>aV u n a z.1).take i).map fun z=>(aL (aZ u n) z.1,z.2.1.reverse)) (eK (aV u n a) (GZ Z)) 100 (fun x B=>by
    obtain ⟨y,U,rfl⟩:=Ts.mp (UK.mp B).1
    exact M y U) fun x B=>by
    obtain ⟨y,U,rfl⟩:=Ts.mp B
    rw [Vf]
    exact M y (UK.mp (Yg U)).1
  have hS0:(eK (aV u n a) (GZ Z)).length<=100:=by
   refine UE (U3 _ _) ?_
   rw [jM];exact hl
  have hat:=zM (G:=GZ S) (B:=10100) (by rw [v];exact fun x B=>by have:=Y x B;omega) (aL (aZ u n) z.1)
  have hzl:=M z j
  have O:S.length<=10000:=by rw [<- jM,v];omega
  have e2:∀ {L:List (Int×Int)},L=(if o then cB (GZ S) (aL (aZ u n) z.1)++z.2.1.reverse else z.2.1.reverse++cB (GZ S) (aL (aZ u n) z.1))->∀ xs:List D,xs=L.map PP->W (j4 (.loc b) (PP (aL (aZ u n) z.1)) (.loc (ν++[C.lst []]).length) (ν++[C.lst []]++[.lst xs])) fun r=>∃ x y w S,[some (.tup [s,.loc p]),some (.tup [.int u,.int n]),some (.bl a),some (.bl o),q,some (PP z.1),some (.loc t),G,some (.loc b),some (PP (aL (aZ u n) z.1)),some (.loc e.length)]=[some (.tup [s,.loc p]),some (.tup [.int u,.int n]),some (.bl a),some (.bl o),q,x,some (.loc t),G,some (.loc b),y,w]/\μ0 <+: r/\Pz r μ0.length b S /\
     GZ S=(((Z.filter fun z=>aV u n a z.1).take (i+1)).map fun z=>(aL (aZ u n) z.1,z.2.1.reverse)).foldl (cK o) (eK (aV u n a) (GZ Z)):=by
   intro L hL xs T
   subst T
   have J3:Pz (ν++[C.lst []]++[C.lst (L.map PP)]) μ0.length b S:=J2.keep fun c y h=>aP (bD _ _) h
   refine zJ J3 (p:=aL (aZ u n) z.1) (L:=L) (cA _ _) q2.length_le O _ fun Z' e1 J4=>⟨_,_,_,Z',rfl,?_,J4,?_⟩
   ·exact fL (q2.trans (bD _ _)) R _
   ·rw [e1,hL,iT hz,TM,a1p,<- v]
    rfl
  cases o with
  | true=>
   simp only [if_true,jK,a9]
   refine tR ?_
   simp only [aF,aJ,aU,aR,gD]
   refine ⟨tS K.dic,Uz _,?_⟩
   rw [ec,W_some]
   simp only [aF,aJ]
   refine (qJ gc gr (by rw [Tc,Tc,Vf,T5];omega)).mpr ?_
   exact e2 rfl _ (by rw [if_pos rfl,TM])
  | false=>
   simp only [Tw,if_false,jK,a9,aF,aJ]
   refine tR ?_
   simp only [aF,aJ,aU,aR,gD]
   refine ⟨tS K.dic,Uz _,?_⟩
   rw [ec,W_some]
   refine (qJ gr gc (by rw [Tc,Tc,Vf,T5];omega)).mpr ?_
   exact e2 rfl _ (by rw [if_neg (by decide),TM])
 ·obtain ⟨x,y,w,S,rfl,m,J,v⟩:=N
  refine H x y w S _ m J ?_
  rw [v,Tc,uC,Tc,Vy,iS,RQ]
noncomputable def kL (Z:Zr)(mv:Int×Int->Bool):Bool:=((Z.map (·.1)).filter mv).isEmpty||(((Z.map (·.1)).filter mv).length == Z.length)
theorem RS (k:Nat){b:Hm}{l p:Nat}{F:Int×Int->Ly}(hF:∀ q,Dih (F q)){qs:List (Int×Int)}(nd:qs.Nodup)(hl:qs.length<=100)(G:qs≠[])(hh:(qs.map fun q=>Tb.hashT (bR q)).Nodup){Z:Zr}(I:HI b p Z)(g:b[p]? = some (.dT (aM Z)))(gl:b[l]? = some (.dT (aX (fun q=>LD (F q)) qs)))
  (B:Z.length<=100)(hb:∀ z∈Z,z.2.1.length<=100)(hk:∀ q∈qs,aL (F q) q∈Z.map (·.1)){u n:Int}(J:0<=u/\u<4){a o:Bool}(Q:D×Hm->Prop)
  (O:kL Z (aV u n a)=true->∀ d,b <+: d->Q (.non,d))
  (H1:kL Z (aV u n a)=false->∀ S K Y d,b <+: d->b.length<=K->d[K]? = some (.dT (aX (fun q=>LD (bT u n a F q)) qs))->Pz d b.length Y S->GZ S=iS (aV u n a) (aL (aZ u n)) o (GZ Z)->Q (.tup [.loc K,.loc Y],d)) :
  W (f (k+2) "_law_folded" [.tup [.loc l,.loc p],.tup [.int u,.int n],.bl a,.bl o] b) Q:=by
 have hlt:l<b.length:=(Tf.mp gl).1
 have hpt:p<b.length:=(Tf.mp g).1
 rw [Qr,W_fin]
 simp only [bH,b7,bE,aU,aR,a9,bB,lL,aF,aJ]
 refine (Q8 gl ⟨?_,?_⟩).mpr ?_
 ·intro e
  have:=congrArg Uo e
  rw [Tc] at this
  exact G (ZN.mp this)
 ·rw [TF]
  exact hh
 simp only [Tj,Tn]
 have L:b <+: b++[C.dT (aX (fun q=>LD (F q)) qs)]:=bD _ _
 refine RN k (aP L g) B J (l:=none) _ fun t c M U=>?_
 have gc:c[b.length]? = some (.dT (aX (fun q=>LD (F q)) qs)):=aP M (cA _ _)
 have g2:=aP (L.trans M) g
 have q2:=L.trans M
 simp only [c7,qH,dG,a9,gD,aR,bE,aU,bB,hW,aF,aJ]
 refine ⟨Uz _,(Q9 (aP (bD _ _) U) (cA _ _)).mpr ?_⟩
 have w:b <+: c++[C.lst []]:=q2.trans (bD _ _)
 have h:(c++[C.lst []])[t]? = some (.lst (((Z.map (·.1)).filter (aV u n a)).map PP)):=aP (bD _ _) U
 have i:(c++[C.lst []])[b.length]? = some (.dT (aX (fun q=>LD (F q)) qs)):=aP (bD _ _) gc
 have em:(((Z.map (·.1)).filter (aV u n a)).map PP).isEmpty=((Z.map (·.1)).filter (aV u n a)).isEmpty:=by cases (Z.map (·.1)).filter (aV u n a)<;>rfl
 have el:(((((Z.map (·.1)).filter (aV u n a)).map PP).length:Int) == ((aM Z).length:Int))=(((Z.map (·.1)).filter (aV u n a)).length == Z.length):=by
  rw [Tc,oR,Xg,beq_iff_eq,beq_iff_eq]
  omega
 dsimp only
 rw [em]
 cases A:((Z.map (·.1)).filter (aV u n a)).isEmpty with
 | true=>
  simp only [if_true,w_mRet,bB]
  exact O (by unfold kL;rw [A];rfl) _ w
 | false=>
  simp only [Tw,if_false]
  refine (tK h).mpr ((PN (aP w g)).mpr (w_eqI.mpr ?_))
  dsimp only
  rw [el]
  cases X:(((Z.map (·.1)).filter (aV u n a)).length == Z.length) with
  | true=>
   simp only [if_true,w_mRet,bB]
   exact O (by unfold kL;rw [A,X];rfl) _ w
  | false=>
   simp only [Tw,if_false,dE]
   refine RO k hF nd hl J i h (fun q hq=>E6 (hk q hq)) _ fun x=>?_
   have E:b.length<(c++[C.lst []]++[C.lst (qs.map PP)]).length:=by
    have:=(Tf.mp i).1
    rw [Tz];omega
   have r:b <+: (c++[C.lst []]++[C.lst (qs.map PP)]).set b.length (.dT (aX (fun q=>LD (bT u n a F q)) qs)):=fL (w.trans (bD _ _)) (Tt _) _
   have m:((c++[C.lst []]++[C.lst (qs.map PP)]).set b.length (.dT (aX (fun q=>LD (bT u n a F q)) qs)))[b.length]? = some (.dT (aX (fun q=>LD (bT u n a F q)) qs)):=TU E
   have H:t≠b.length:=fun e=>by rw [e,i] at h;cases h
   have j:((c++[C.lst []]++[C.lst (qs.map PP)]).set b.length (.dT (aX (fun q=>LD (bT u n a F q)) qs)))[t]? = some (.lst (((Z.map (·.1)).filter (aV u n a)).map PP)):=by rw [Tv (Uu H)];exact aP (bD _ _) h
   generalize (c++[C.lst []]++[C.lst (qs.map PP)]).set b.length (.dT (aX (fun q=>LD (bT u n a F q)) qs))=μ4 at r m j
   simp only [mV,Tj,Tn]
   have R:HI μ4 p Z:=I.more r
   have T:=aP r g
   refine RP R T B j _ fun x=>?_
   simp only []
   have pr:μ4 <+: μ4++(C.dT (aM (cC (μ4.length+1) (Z.filter fun z=>!aV u n a z.1)))::(Z.filter fun z=>!aV u n a z.1).map fun z=>C.lst (z.2.1.map PP)):=Vn _ _
   refine RR k pr R T B hb J j (S0:=cC (μ4.length+1) (Z.filter fun z=>!aV u n a z.1)) ⟨?_,?_,fun z v=>?_⟩ (Tt _) (by rw [lR,ES]) _ fun x y z S N p5 s e5=>?_
   ·rw [Us (Tt _),WZ];rfl
   ·rw [t9 (lR _ _)]
    exact (Xm.map _).nodup I.kd
   ·have:=uA (Z.filter fun z=>!aV u n a z.1) (μ4.length+1) (μ4++[.dT (aM (cC (μ4.length+1) (Z.filter fun z=>!aV u n a z.1)))]) [] (by rw [Tz];rfl) z v
    refine ⟨by omega,?_⟩
    rw [UM,Vt] at this
    exact this.2
   ·simp only [w_mRet,eM,aU,aR,aF,aJ]
    refine ⟨eP,H1 (by unfold kL;rw [A,X];rfl) S _ _ N (r.trans p5) (Tt _) (aP p5 m) ⟨s.dic,s.kd,fun z v=>⟨UE r.length_le (s.at_ z v).1,(s.at_ z v).2⟩⟩ e5⟩
theorem E7 {me:ME}(w:∀ ρ j Q,W (me ρ j) Q↔Q (LD cX,j)){μ0 j:Hm}{l a b:Nat}{qs:List (Int×Int)}(nd:qs.Nodup)(hl:qs.length<=100){K L:Option D}(I:μ0 <+: j)(la:μ0.length<=a)(lb:μ0.length<=b)(N:a≠b)(R:j[a]? = some (.dT []))(T:j[b]? = some (.dT []))(gl:j[l]? = some (.lst (qs.map PP)))(Q:Fl×aI×Hm->Prop)
  (H:∀ x S g,μ0 <+: g->g[a]? = some (.dT (aX (fun _=>LD cX) qs))->Pz g μ0.length b S->GZ S=eL qs->Q (.nx,[K,L,some (.loc a),some (.loc b),x],g)) :
  W (eE (dO (.loc l)) (cI 4) (aK (cM (aA 2) (aA 4) me) (cM (aA 3) (aA 4) (cU (aC (aA 4) aD)))) ((qs.map PP).length+1) 0 [K,L,some (.loc a),some (.loc b),none] j) Q:=by
 have A:l≠a:=fun e=>by rw [e,R] at gl;cases gl
 have B:l≠b:=fun e=>by rw [e,T] at gl;cases gl
 refine tI (fun i n g=>∃ x S,n=[K,L,some (.loc a),some (.loc b),x]/\μ0 <+: g/\g[a]? = some (.dT (aX (fun _=>LD cX) (qs.take i)))/\Pz g μ0.length b S/\GZ S=eL (qs.take i)/\g[l]? = some (.lst (qs.map PP)))
  ⟨none,[],rfl,I,R,⟨T,List.nodup_nil,fun z u=>nomatch u⟩,rfl,gl⟩ (fun _ _ _ ⟨_,_,_,_,_,_,_,h⟩=>h) ?_ ?_
 ·rintro i d n g hd ⟨x,S,rfl,E,o,J,p,O⟩
  obtain ⟨q,v,rfl⟩:=Ek hd
  refine ⟨_,rfl,?_⟩
  have hil:i<qs.length:=(Tf.mp v).1
  have U:q∉qs.take i:=qO nd v
  have lS:S.length<=100:=by
   rw [<- jM,p]
   unfold eL
   rw [Tc,Uv]
   omega
  simp only [Tj,Tn,bH,jK,w,aF,aJ]
  refine (oN o (iD q) (by rw [Tc,Uv,T5];omega)).mpr ?_
  rw [Rh U,<- iT v]
  have m:∀ (c:Nat)(y:C),c≠a->g[c]? = some y->(g.set a (C.dT (aX (fun _=>LD cX) (qs.take (i+1)))))[c]? = some y:=fun c y h e=>by rw [Tv (Uu h)];exact e
  have M:Pz (g.set a (C.dT (aX (fun _=>LD cX) (qs.take (i+1))))) μ0.length b S:=⟨m _ _ (Uu N) J.dic,J.kd,fun z u=>⟨(J.at_ z u).1,m _ _ (fun e=>by have:=(J.at_ z u).2;rw [e,o] at this;cases this) (J.at_ z u).2⟩⟩
  have G:=fL E la (C.dT (aX (fun _=>LD cX) (qs.take (i+1))))
  have r:(g.set a (C.dT (aX (fun _=>LD cX) (qs.take (i+1)))))[a]? = some (C.dT (aX (fun _=>LD cX) (qs.take (i+1)))):=iR o
  have s:=m _ _ A O
  generalize g.set a (C.dT (aX (fun _=>LD cX) (qs.take (i+1))))=μ2 at M G r s
  simp only [gD,aU,aR,aF,aJ]
  refine ⟨D2,?_⟩
  refine zJ (M.keep fun c y h=>aP (bD μ2 (C.lst [PP q])) h) (p:=q) (L:=[q]) (cA _ _) G.length_le (by omega) _ fun Y Z X=>?_
  refine ⟨_,Y,rfl,fL (G.trans (bD _ _)) lb _,by rw [Tv (Uu N)];exact aP (bD _ _) r,X,?_,by rw [Tv (Uu B)];exact aP (bD _ _) s⟩
  rw [Z,p,Rl (by rw [qQ];exact U),iT v]
  unfold eL
  rw [TM]
  rfl
 ·rintro n g ⟨x,S,rfl,E,o,J,p,O⟩
  rw [Tc,Vy] at o p
  exact H x S g E o J p
theorem Fb {x g:Str}{m:ME}{c:aI}{b:Hm}{Q:D×Hm->Prop}(h:W (m c b) fun p=>∃ a fs d,p.1=.loc a/\p.2[a]? = some (.ins x fs)/\fs.lookup g=some d/\Q (d,p.2)):W (jC x g m c b) Q:=by
 unfold jC
 rw [W_bind]
 refine bO h fun p ⟨a,fs,d,e,i,j,l⟩=>?_
 rw [e]
 dsimp only
 rw [i]
 dsimp only
 rw [if_pos rfl,j]
 exact W_some.mpr l
theorem zO {x g:Str}{c mv:ME}{b:aI}{d:Hm}{Q:Fl×aI×Hm->Prop}(h:W (mv b d) fun p=>W (c b p.2) fun q=>∃ a fs,q.1=.loc a/\q.2[a]? = some (.ins x fs)/\fs.length<100/\Q (.nx,b,q.2.set a (.ins x (fX g p.1 fs)))):W (k5 x g c mv b d) Q:=by
 unfold k5
 rw [W_bind]
 refine bO h fun p h=>?_
 rw [W_bind]
 refine bO h fun q ⟨a,fs,e,i,j,l⟩=>?_
 rw [e]
 dsimp only
 rw [i]
 dsimp only
 rw [if_pos ⟨rfl,j⟩]
 exact W_some.mpr l
theorem zP {x m:Str}{c:MF}{d:ME}{ms:MA}{b:aI}{e:Hm}{Q:D×Hm->Prop}(h:W (d b e) fun p=>∃ a fs,p.1=.loc a/\p.2[a]? = some (.ins x fs)/\fs.lookup m=none/\W (ms b p.2) fun q=>W (c (.loc a::q.1) q.2) Q):W (hJ x m c d ms b e) Q:=by
 unfold hJ
 rw [W_bind]
 refine bO h fun p ⟨a,fs,g,i,j,l⟩=>?_
 rw [g]
 dsimp only
 rw [i]
 dsimp only
 rw [if_pos ⟨rfl,j⟩,W_bind]
 exact l
theorem RT {x:Str}{a:MF}{ms:MA}{c:aI}{b:Hm}{Q:D×Hm->Prop}(h:W (ms c b) fun q=>W (a (.loc q.2.length::q.1) (q.2++[.ins x []])) fun r=>r.1=.non/\Q (.loc q.2.length,r.2)):W (k7 x a ms c b) Q:=by
 unfold k7
 rw [W_bind]
 refine bO h fun q h=>?_
 rw [W_bind]
 refine bO h fun r ⟨d,e⟩=>?_
 rw [d]
 exact W_some.mpr e
theorem oV {p:Int×Int}(h:cN p=true){u n:Int}(a:n % 4=0):bG u p≠n:=by
 unfold cN at h
 unfold bG
 split at h
 ·simp only [beq_iff_eq] at h
  split<;>(try split)<;>(try split)<;>omega
 ·simp only [To,beq_iff_eq] at h
  split<;>(try split)<;>(try split)<;>omega
theorem RU {p:Int×Int}(h:cN p=true){u n:Int}(c:n % 4=0):cN (aL (aZ u n) p)=true:=by
 obtain ⟨x,y⟩:=p
 have q:∀ a b:Int,(a % 2=1/\b % 4=2)\/(a % 4=2/\b % 2=1)->cN (a,b)=true:=fun a b z=>by
  unfold cN
  dsimp only
  split
  ·rw [beq_iff_eq];omega
  ·rw [To,beq_iff_eq,beq_iff_eq];omega
 have r:(x % 2=1/\y % 4=2)\/(x % 4=2/\y % 2=1):=by
  unfold cN at h
  dsimp only at h
  split at h
  ·rw [beq_iff_eq] at h;omega
  ·rw [To,beq_iff_eq,beq_iff_eq] at h;omega
 unfold aZ
 split
 ·show cN (1 * x+0 * y+0,0 * x+(-1) * y+2 * n)=true
  exact q _ _ (by omega)
 ·split
  ·show cN ((-1) * x+0 * y+2 * n,0 * x+1 * y+0)=true
   exact q _ _ (by omega)
  ·split
   ·show cN (0 * x+1 * y+n,1 * x+0 * y+-n)=true
    exact q _ _ (by omega)
   ·show cN (0 * x+(-1) * y+n,(-1) * x+0 * y+n)=true
    exact q _ _ (by omega)
noncomputable def iV (u n:Int)(Z:Zr):List Int:=(Z.map (·.1)).map fun p=>iE (bG u p - n)
theorem Fc (a:Hm)(x:Int):∀ ws:List Int,jW a (.int x) (ws.map D.int)=some (ws.any fun w=>w == x)
 | []=>rfl
 | w::ws=>by
  rw [Tq,V2]
  show (cZ 8 a (.int w) (.int x)).bind _=_
  have e:cZ 8 a (.int w) (.int x)=some (w == x):=rfl
  rw [e,Fc a x ws]
  rfl
theorem RV {b:Hm}{a:Nat}{x:Int}{ws:List Int}{Q:D×Hm->Prop}(h:b[a]? = some (.lst (ws.map D.int))):W (cW true (.int x) (.loc a) b) Q↔Q (.bl (!(ws.any fun w=>w == x)),b):=by
 have c:bP b (.loc a)=some (ws.map D.int):=by simp only [bP,h]
 have:cW true (.int x) (.loc a) b=some (.bl (!(ws.any fun w=>w == x)),b):=by
  simp only [cW,kZ,h,c,TZ,Fc,Ub,if_true]
 rw [this]
 exact W_some
theorem RW (k:Nat){b:Hm}{p:Nat}{Z:Zr}(g:b[p]? = some (.dT (aM Z)))(o:Z.length<=100){e:Int×Int}{u n:Int}(E:OnL e u n){m:MS}(Q:Fl×aI×Hm->Prop)
  (H:∀ t a,b <+: a->a[t]? = some (.lst ((iV u n Z).map D.int))->Q (.nx,[some (.loc p),some (PP e),some (.loc t)],a)) :
  W (dB 0 (aQ 2 (c4 (e8 (aA 0)) dA (aG (f (k+2) "hand_of") (aC (aA 3) (aC (aA 1) aD))))) m [some (.loc p),some (PP e),none] b) Q:=by
 have h:p<b.length:=(Tf.mp g).1
 have i:(b.set p (.dF (aM Z)))[p]? = some (.dF (aM Z)):=TU h
 refine tZ (a:=p) rfl g ?_
 rw [b7]
 refine mT (xs:=(Z.map (·.1)).map PP) (p:=fun _=>true) (v:=fun d=>.int (iE (bG u (iB d) - n))) ?_
 rw [t4 (a:=p) rfl i,qS,W_some]
 refine ⟨yS,rfl,by rw [Tc,Tc,T5];omega,fun d a hd c=>w_mTrue.mpr ⟨rfl,UI _⟩,fun d a hd _ c=>?_,fun a c j=>?_⟩
 ·obtain ⟨q,_,rfl⟩:=Ts.mp hd
  simp only [UJ,VH,bE,aU,aR,aF,aJ]
  exact (t7 k E _ _).mpr ⟨rfl,UI _⟩
 ·refine ⟨aP c i,?_⟩
  dsimp only
  have l:(((Z.map (·.1)).map PP).filter fun _=>true).map (fun d=>D.int (iE (bG u (iB d) - n)))=(iV u n Z).map D.int:=by
   rw [WB.mpr (fun _ _=>rfl)]
   unfold iV
   simp only [TF]
   rfl
  rw [l,Ud] at j
  rw [Ud]
  exact H _ _ (tT g c) (by rw [Tv (by omega)];exact j)
noncomputable def qT (u n:Int)(Z:Zr):Bool:=!((iV u n Z).any fun w=>w == 1)||!((iV u n Z).any fun w=>w == -1)
theorem RX {a:Hm}{t:Nat}{b c:Option D}{u n:Int}{Z:Zr}(g:a[t]? = some (.lst ((iV u n Z).map D.int)))(Q:Bool×Hm->Prop) :
  W (eT (aT (aB (cW true) (mC (.int 1)) (aA 2))) (aT (aB (cW true) (c6 (mC (.int 1))) (aA 2))) [b,c,some (.loc t)] a) Q↔Q (qT u n Z,a):=by
 simp only [qH,dG,a9,bB,yP,aF,aJ,RV g]
 unfold qT
 cases !((iV u n Z).any fun w=>w == 1)<;>simp
theorem RY (k:Nat){a:Hm}{p:Nat}{Z:Zr}(g:a[p]? = some (.dT (aM Z)))(c:Z.length<=100){e:Int×Int}{u n:Int}(E:OnL e u n)(hB:qT u n Z=false)(Q:D×Hm->Prop)(H:∀ μ',a <+: μ'->Q (.non,μ')):W (f (k+3) "check_fold" [.loc p,PP e] a) Q:=by
 rw [Qj,W_fin,bH]
 refine RW k g c E _ fun t h d b=>?_
 simp only [c7]
 refine (RX b _).mpr ?_
 rw [hB]
 simp only [Tw,if_false,dE]
 exact H _ d
theorem zQ {a:Type}{p q:a->Bool}:∀ {l:List a},(∀ z∈l,p z=q z)->l.any p=l.any q
 | [],_=>rfl
 | x::l,h=>by rw [V2,V2,h x (Um ..),zQ fun z b=>h z (Ua _ b)]
theorem RZ {u n:Int}{Z:Zr}(a:Bool)(h:∀ z∈Z,bG u z.1≠n):qT u n Z=kL Z (aV u n a):=by
 have one:((iV u n Z).any fun w=>w == 1)=Z.any fun z=>decide (n<bG u z.1):=by
  unfold iV
  rw [YB,YB]
  refine zQ fun z b=>?_
  show (iE (bG u z.1 - n) == 1)=_
  unfold iE
  by_cases c:n<bG u z.1
  ·rw [if_pos (by omega),decide_eq_true c];rfl
  ·rw [if_neg (by omega),decide_eq_false c];split<;>rfl
 have two:((iV u n Z).any fun w=>w == -1)=Z.any fun z=>!decide (n<bG u z.1):=by
  unfold iV
  rw [YB,YB]
  refine zQ fun z b=>?_
  have:=h z b
  show (iE (bG u z.1 - n) == -1)=_
  unfold iE
  by_cases c:n<bG u z.1
  ·rw [if_pos (by omega),decide_eq_true c];rfl
  ·rw [if_neg (by omega),if_pos (by omega),decide_eq_false c];rfl
 have d:((Z.map (·.1)).filter (aV u n a)).isEmpty = !(Z.any fun z=>aV u n a z.1):=by
  rw [uC]
  rw [Xg]
  simp [List.isEmpty_iff,Wa,YC]
 have e:(((Z.map (·.1)).filter (aV u n a)).length == Z.length) = !(Z.any fun z=>!aV u n a z.1):=by
  rw [uC,Tc,Xg,beq_iff_eq,List.length_filter_eq_length_iff]
  simp [YC]
 unfold qT kL
 rw [one,two,d,e]
 unfold aV
 cases a with
 | true=>simp only [beq_true]
 | false=>
  simp only [beq_false,Bool.not_not]
  rw [Bool.or_comm]
theorem le900' {w h:Int}(hw:1<=w/\w<=4)(c:1<=h/\h<=4):(4 * w).toNat * (4 * h).toNat+(4 * h).toNat<=900:=by
 have a:(4 * w).toNat<=16:=by omega
 have b:(4 * h).toNat<=16:=by omega
 have:=Ym a b
 omega
theorem R0 (k:Nat)(w h:Int)(hw:1<=w/\w<=4)(b:1<=h/\h<=4)(a:Hm)(Q:D×Hm->Prop)(H:Q (.loc a.length,a++[.lst ((bV w h).map PP)])):W (f (k+1) "_law_quarters" [.int w,.int h] a) Q:=by
 rw [Qm,W_fin]
 simp only [bH,b7,gD,aR]
 refine ⟨Uz _,?_⟩
 simp only [Tj,Tn,gE]
 rw [DN (j:=0)]
 simp only [aU,aR,bB,a9,aF,aJ,oO]
 refine ⟨by omega,?_⟩
 refine Q3 _ y8 _ _ _ _ 0 (4 * h).toNat (fun o1 c a Q=>?_) (fun x y a Q=>?_) (4 * w).toNat (le900' hw b) _ (cA _ _) _ fun o1 c=>?_
 ·rw [DN (j:=0)]
  simp only [aU,aR,bB,a9,aF,aJ,oO]
  exact and_iff_right (by omega)
 ·simp only [qH,yO,dG,a9,aF,aJ,bB,tL,qL,w_eqI,fM]
  unfold y8
  cases x % 4 == 2<;>cases y % 2 == 1<;>cases x % 2 == 1<;>cases y % 4 == 2<;>simp
 ·simp only [w_mRet,aF,aJ]
  rw [y6]
  exact H
theorem R6 (k:Nat)(w h:Int)(hw:1<=w/\w<=4)(l:1<=h/\h<=4)(e:Hm)(Q:D×Hm->Prop)(H:∀ a μ',e <+: μ'->μ'[a]? = some (.lst (((oT w h).filter cN).map PP))->Q (.loc a,μ')):W (f (k+2) "quarters_in" [.int w,.int h] e) Q:=by
 rw [Qf,W_fin]
 simp only [w_mRet]
 refine mT (xs:=(oT w h).map PP) (p:=fun d=>cN (iB d)) (v:=fun d=>d) ?_
 simp only [mS,bE,aU,aR,aF,aJ]
 refine Rt _ w h (by omega) (by omega) _ _ fun a j i c m=>?_
 refine (mU c).mpr ⟨DP c,rfl,?_,fun d μ' hd b=>?_,fun d μ' hd _ b=>?_,fun μ' b g=>?_⟩
 ·have:=Ru (w:=w) (h:=h) (by omega) (by omega)
  rw [Tc,T5];omega
 ·obtain ⟨u,v,rfl⟩:=QN hd
  simp only [UJ,VH,lK,bE,aU,aR,aF,aJ,EK,kK]
  exact ⟨rfl,UI _⟩
 ·simp only [UJ,VH,aF,aJ]
  exact ⟨trivial,UI _⟩
 ·refine H _ _ (i.trans b) ?_
  rw [g,D8 cN]
theorem dQ {w:Int}(h:1<=w/\w<=4):w∈[(1:Int),2,3,4]:=by
 have:w=1\/w=2\/w=3\/w=4:=by omega
 rcases this with rfl|rfl|rfl|rfl<;>decide
theorem lT:∀ w∈[(1:Int),2,3,4],∀ h∈[(1:Int),2,3,4],(oT w h).filter cN=bV w h/\(bV w h).length<=64/\bV w h≠[]/\(bV w h).Nodup/\((bV w h).map fun q=>Tb.hashT (bR q)).Nodup/\(bV w h).all (fun q=>cN q&&decide (0<=q.1/\q.1<=16/\0<=q.2/\q.2<=16))=true:=by decide +kernel
structure StZ (μ:Hm)(b:Nat)(d:D)(F:Int×Int->Ly)(qs:List (Int×Int))(G:Gr):Prop where
 ex:∃ l p Z,d=.tup [.loc l,.loc p]/\μ[l]? = some (.dT (aX (fun q=>LD (F q)) qs))/\HI μ p Z/\μ[p]? = some (.dT (aM Z))/\GZ Z=G/\∀ z∈Z,z.2.2≠b
theorem StZ.keep {i μ':Hm}{b:Nat}{d:D}{F:Int×Int->Ly}{qs:List (Int×Int)}{G:Gr}{xs:List D}(S:StZ i b d F qs G)(j:i[b]? = some (.lst xs))(h:∀ (c:Nat)(y:C),c≠b->i[c]? = some y->μ'[c]? = some y):StZ μ' b d F qs G:=by
 obtain ⟨l,p,Z,e,a,I,g,q,o⟩:=S.ex
 have m:=h p _ (fun e=>by rw [e,j] at g;cases g) g
 exact ⟨l,p,Z,e,h l _ (fun e=>by rw [e,j] at a;cases a) a,⟨.inl m,I.kd,fun z n=>h _ _ (o z n) (I.at_ z n)⟩,m,q,o⟩
theorem StZ.more {a μ':Hm}{b:Nat}{d:D}{F:Int×Int->Ly}{qs:List (Int×Int)}{G:Gr}(S:StZ a b d F qs G)(h:a <+: μ'):StZ μ' b d F qs G:=by
 obtain ⟨l,p,Z,e,g,I,i,c,j⟩:=S.ex
 exact ⟨l,p,Z,e,aP h g,I.more h,aP h i,c,j⟩
theorem StZ.new {c:Hm}{b l p n:Nat}{F:Int×Int->Ly}{qs:List (Int×Int)}{Z:Zr}(g:c[l]? = some (.dT (aX (fun q=>LD (F q)) qs)))(J:Pz c n p Z)(d:b<n):StZ c b (.tup [.loc l,.loc p]) F qs (GZ Z):=
 ⟨l,p,Z,rfl,g,⟨.inl J.dic,J.kd,fun z a=>(J.at_ z a).2⟩,J.dic,rfl,fun z a e=>by have:=(J.at_ z a).1;omega⟩
structure Gd (qs:List (Int×Int))(F:Int×Int->Ly)(G:Gr):Prop where
 di:∀ q,Dih (F q)
 pl:Pil qs (fun q=>aL (F q) q) G
 qr:∀ q∈qs,cN (aL (F q) q)=true
theorem Gd.fold {qs:List (Int×Int)}{F:Int×Int->Ly}{G:Gr}(h:Gd qs F G){u n:Int}(c:n % 4=0)(a o:Bool):Gd qs (bT u n a F) (iS (aV u n a) (aL (aZ u n)) o G):=by
 refine ⟨Rk h.di,?_,fun q b=>?_⟩
 ·have:=Rc h.pl (mv:=aV u n a) (Es u n) o
  rw [show (fun q=>aL (bT u n a F q) q)=fun q=>if aV u n a (aL (F q) q) then aL (aZ u n) (aL (F q) q) else aL (F q) q from funext fun q=>mZ u n a F q]
  exact this
 ·rw [mZ]
  split
  ·exact RU (h.qr q b) c
  ·exact h.qr q b
theorem Gd.key {qs:List (Int×Int)}{F:Int×Int->Ly}{Z:Zr}(h:Gd qs F (GZ Z)):(∀ q∈qs,aL (F q) q∈Z.map (·.1))/\(∀ z∈Z,cN z.1=true)/\Z.length<=qs.length/\∀ z∈Z,z.2.1.length<=qs.length:=by
 refine ⟨fun q a=>?_,fun z b=>?_,h.pl.lenZ.1,fun z b=>(h.pl.lenZ.2 z b).2⟩
 ·rw [<- gG]
  exact h.pl.key.mpr ⟨q,a,rfl⟩
 ·have:z.1∈(GZ Z).map (·.1):=by rw [gG];exact Ts.mpr ⟨z,b,rfl⟩
  obtain ⟨q,a,e⟩:=h.pl.key.mp this
  rw [<- e]
  exact h.qr q a
noncomputable def kM (G:Gr)(mv:Int×Int->Bool):Bool:=((G.map (·.1)).filter mv).isEmpty||(((G.map (·.1)).filter mv).length == G.length)
theorem Fd (Z:Zr)(mv:Int×Int->Bool):kL Z mv=kM (GZ Z) mv:=by
 unfold kL kM
 rw [gG,jM]
noncomputable abbrev lU (w h:Int)(b:Nat):List (Str×D):=[("wide",.int w),("high",.int h),("states",.loc b)]
theorem R8 {a:Type}(xs:List a)(d:a):atI (xs++[d]) (-1)=some d:=by
 unfold atI kS
 rw [if_neg (by decide),if_pos (by rw [Tz,Vj];omega)]
 show (xs++[d])[_]? = _
 rw [show ((-1:Int)+((xs++[d]).length:Int)).toNat=xs.length by rw [Tz,Vj];omega]
 simp
theorem Fe {a:Hm}{o b:Nat}{w h:Int}{xs:List D}{d:D}{r:aI}(i1:a[o]? = some (.ins "Folding" (lU w h b))) (i2:a[b]? = some (.lst (xs++[d])))(Q:D×Hm->Prop)(H:Q (d,a)):W ((aB aH (jC "Folding" "states" (aA 0)) (c6 (mC (.int 1)))) (some (.loc o)::r) a) Q:=by
 rw [a9]
 refine Fb ?_
 simp only [aF]
 refine ⟨o,_,_,rfl,i1,rfl,?_⟩
 simp only [yP,bB]
 exact (tH i2 (R8 xs d)).mpr H
theorem Sa (k:Nat){a:Hm}{o b l p:Nat}{w h:Int}{xs:List D}{Z:Zr}(i1:a[o]? = some (.ins "Folding" (lU w h b))) (i2:a[b]? = some (.lst (xs++[.tup [.loc l,.loc p]])))(I:HI a p Z)(g:a[p]? = some (.dT (aM Z)))(c:Z.length<=1000)(Q:D×Hm->Prop)
  (H:Q (.loc a.length,a++(.dT (aM (cC (a.length+1) Z))::Z.map fun z=>C.lst (z.2.1.map PP)))):W (f (k+2) "Folding.piles" [.loc o] a) Q:=by
 rw [Qz,W_fin]
 simp only [w_mRet,bE,aU,aR]
 rw [a9]
 refine Fe i1 i2 _ ?_
 simp only [bB,hW]
 exact RC k I g c _ H
theorem Sb {qs:List (Int×Int)}{F:Int×Int->Ly}{Z:Zr}(G:Gd qs F (GZ Z)){u n:Int}(a:n % 4=0):(∀ q∈qs,bG u (aL (F q) q)≠n)/\∀ z∈Z,bG u z.1≠n:=⟨fun q b=>oV (G.qr q b) a,fun z c=>oV (G.key.2.1 z c) a⟩
theorem Sd (k:Nat){j:Hm}{o b:Nat}{w h:Int}{xs:List D}{d:D}{F:Int×Int->Ly}{qs:List (Int×Int)}{G:Gr}(nd:qs.Nodup)(hl:qs.length<=64)(i1:j[o]? = some (.ins "Folding" (lU w h b))) (i2:j[b]? = some (.lst (xs++[d])))(hx:xs.length<=1000)(S:StZ j b d F qs G)(K:Gd qs F G)
  {e:Int×Int}{u n:Int}(E:OnL e u n)(hn:n % 4=0){a A:Bool}(hN:kM G (aV u n a)=false)(Q:D×Hm->Prop)
  (H:∀ O i,(∀ (c:Nat)(y:C),c≠b->j[c]? = some y->i[c]? = some y)->i[b]? = some (.lst (xs++[d]++[O]))->StZ i b O (bT u n a F) qs (iS (aV u n a) (aL (aZ u n)) A G)->Q (.non,i)) :
  W (f (k+5) "Folding.fold" [.loc o,PP e,.bl a,.bl A] j) Q:=by
 obtain ⟨l,p,Z,rfl,g1,I,R,rfl,nb⟩:=S.ex
 obtain ⟨v1,T⟩:=Sb K (u:=u) hn
 obtain ⟨_,_,lZ,Y⟩:=K.key
 rw [Qy,W_fin,bH,b7]
 refine Fe i1 i2 _ ?_
 simp only [Tj,Tn,bH,mR,bE,aU,aR,a9,bB,hW,aF,aJ]
 refine RY (k+1) R (by omega) E (by rw [RZ a T,Fd];exact hN) _ fun g v=>?_
 have ib:b<j.length:=(Tf.mp i2).1
 simp only [b7,oI,lK,aF,aJ,kK]
 have step:∀ Q:D×Hm->Prop,Q (.int (sd a),g)->(if a=true then W ((mC (.int 1)) [some (.loc o),some (PP e),some (.bl a),some (.bl A),some (.tup [.loc l,.loc p]),none] g) Q else W ((c6 (mC (.int 1))) [some (.loc o),some (PP e),some (.bl a),some (.bl A),some (.tup [.loc l,.loc p]),none] g) Q):=fun Q h=>by
  cases a with
  | true=>exact W_some.mpr h
  | false=>exact W_some.mpr h
 refine step _ ?_
 simp only [Tj,Tn]
 refine qK (Fb ?_)
 simp only [aF]
 have L:=aP v i2
 refine ⟨o,_,_,rfl,aP v i1,rfl,by simp only [jX,L],?_⟩
 simp only [aU,aR,eM,bE,a9,bB,lL,hW,aF,aJ]
 refine RB k K.di nd (by omega) E v1 (aP v g1) _ ?_
 have m:j <+: g++[C.dT (aX (fun q=>LD (bT u n a F q)) qs)]:=v.trans (bD _ _)
 have gl:(g++[C.dT (aX (fun q=>LD (bT u n a F q)) qs)])[g.length]? = some (.dT (aX (fun q=>LD (bT u n a F q)) qs)):=cA _ _
 have hge:j.length<=g.length:=v.length_le
 have r:(g++[C.dT (aX (fun q=>LD (bT u n a F q)) qs)]).length=g.length+1:=by rw [Tz];rfl
 generalize g++[C.dT (aX (fun q=>LD (bT u n a F q)) qs)]=μ2 at m gl r
 refine RI (k+1) (I.more m) (aP m R) (by omega) (fun z s=>by have:=Y z s;omega) E T _ fun X x B J e3=>?_
 refine ⟨eP,(tJ (aP (m.trans B) i2) (by rw [Tz,Vj,T5];omega)).mpr ?_⟩
 have M:b<x.length:=T9 ib (m.trans B).length_le
 have ne:g.length≠b:=by omega
 have N:μ2.length≠b:=by omega
 refine H _ _ (fun c y hc h=>by rw [Tv (Uu hc)];exact aP (m.trans B) h) (TU M) ?_
 have U:Pz (x.set b (.lst (xs++[.tup [.loc l,.loc p]]++[.tup [.loc g.length,.loc μ2.length]]))) μ2.length μ2.length X:=
  ⟨by rw [Tv (Uu N)];exact J.dic,J.kd,fun z s=>⟨(J.at_ z s).1,by rw [Tv (by have:=(J.at_ z s).1;omega)];exact (J.at_ z s).2⟩⟩
 have:=StZ.new (b:=b) (l:=g.length) (F:=bT u n a F) (qs:=qs) (by rw [Tv (Uu ne)];exact aP B gl) U (by omega)
 rw [e3] at this
 exact this
theorem Se (a:D):fX "wide" a []=([("wide",a)]:List (Str×D)):=rfl
theorem Sf (a b:D):fX "high" b [("wide",a)]=([("wide",a),("high",b)]:List (Str×D)):=by
 unfold fX
 rw [if_neg (by decide)]
 rfl
theorem Sg (a b c:D):fX "states" c [("wide",a),("high",b)]=([("wide",a),("high",b),("states",c)]:List (Str×D)):=by
 unfold fX
 rw [if_neg (by decide)]
 unfold fX
 rw [if_neg (by decide)]
 rfl
noncomputable def oW (u n j:Int):Int×Int:=if u=0 then (2+4 * j,n) else if u=1 then (n,2+4 * j) else if u=2 then (n+1+2 * j,1+2 * j) else (1+2 * j,n - 1 - 2 * j)
theorem uD {e:Int×Int}{A:Ly}(m:∀ p,dC p e=aL A p):tP e=A:=by
 unfold tP
 rw [m (1,0),m (0,0),m (0,1)]
 unfold aL
 refine Ly.ext' ?_ ?_ ?_ ?_ ?_ ?_<;>(dsimp only;omega)
theorem Sh {u n:Int}(a:0<=u/\u<4)(b:n % 4=0)(j:Int):OnL (oW u n j) u n:=by
 have c:u=0\/u=1\/u=2\/u=3:=by omega
 rcases c with rfl|rfl|rfl|rfl
 ·have e:oW 0 n j=(2+4 * j,n):=rfl
  have m:∀ p,dC p (2+4 * j,n)=aL (aZ 0 n) p:=fun p=>by
   unfold dC
   rw [if_neg (by dsimp only;omega),if_pos b]
   show (p.1,2 * n - p.2)=(1 * p.1+0 * p.2+0,0 * p.1+(-1) * p.2+2 * n)
   congr 1<;>omega
  rw [e]
  refine ⟨a,fun p=>?_,rfl,m,?_⟩
  ·unfold iA
   rw [if_neg (by dsimp only;omega),if_pos b]
   rfl
  ·exact uD m
 ·have e:oW 1 n j=(n,2+4 * j):=rfl
  have m:∀ p,dC p (n,2+4 * j)=aL (aZ 1 n) p:=fun p=>by
   unfold dC
   rw [if_neg (by dsimp only;omega),if_neg (by dsimp only;omega)]
   show (2 * n - p.1,p.2)=((-1) * p.1+0 * p.2+2 * n,0 * p.1+1 * p.2+0)
   congr 1<;>omega
  rw [e]
  refine ⟨a,fun p=>?_,rfl,m,?_⟩
  ·unfold iA
   rw [if_neg (by dsimp only;omega),if_neg (by dsimp only;omega)]
   rfl
  ·exact uD m
 ·have e:oW 2 n j=(n+1+2 * j,1+2 * j):=rfl
  have m:∀ p,dC p (n+1+2 * j,1+2 * j)=aL (aZ 2 n) p:=fun p=>by
   unfold dC
   rw [if_pos (by dsimp only;omega),if_pos (by dsimp only;omega)]
   show (p.2+(n+1+2 * j - (1+2 * j)),p.1 - (n+1+2 * j - (1+2 * j)))=(0 * p.1+1 * p.2+n,1 * p.1+0 * p.2+-n)
   congr 1<;>omega
  rw [e]
  refine ⟨a,fun p=>?_,?_,m,?_⟩
  ·unfold iA
   rw [if_pos (by dsimp only;omega),if_pos (by dsimp only;omega)]
   rfl
  ·show n+1+2 * j - (1+2 * j)=n
   omega
  ·exact uD m
 ·have e:oW 3 n j=(1+2 * j,n - 1 - 2 * j):=rfl
  have m:∀ p,dC p (1+2 * j,n - 1 - 2 * j)=aL (aZ 3 n) p:=fun p=>by
   unfold dC
   rw [if_pos (by dsimp only;omega),if_neg (by dsimp only;omega)]
   show (1+2 * j+(n - 1 - 2 * j) - p.2,1+2 * j+(n - 1 - 2 * j) - p.1)=(0 * p.1+(-1) * p.2+n,(-1) * p.1+0 * p.2+n)
   congr 1<;>omega
  rw [e]
  refine ⟨a,fun p=>?_,?_,m,?_⟩
  ·unfold iA
   rw [if_pos (by dsimp only;omega),if_neg (by dsimp only;omega)]
   rfl
  ·show 1+2 * j+(n - 1 - 2 * j)=n
   omega
  ·exact uD m
theorem Si (k:Nat){w h:Int}(hw:1<=w/\w<=4)(b:1<=h/\h<=4)(a:Hm)(Q:D×Hm->Prop)(H:∀ l p S μ',a <+: μ'->μ'[l]? = some (.dT (aX (fun _=>LD cX) (bV w h)))->Pz μ' a.length p S->GZ S=eL (bV w h)->Q (.tup [.loc l,.loc p],μ')) :
  W (f (k+2) "_law_begun" [.int w,.int h] a) Q:=by
 obtain ⟨_,i,j,g,_,_⟩:=lT w (dQ hw) h (dQ b)
 rw [Qq,W_fin]
 simp only [bH,b7,mV,Tj,Tn,gE,mS,bE,aU,aR,aF,aJ]
 refine R0 k w h hw b _ _ ((mU (cA _ _)).mpr ?_)
 refine E7 (me:=bW (aC (mC (.int 1)) (aC (mC (.int 0)) (aC (mC (.int 0)) (aC (mC (.int 1)) (aC (mC (.int 0)) (aC (mC (.int 0)) aD))))))) (fun m a Q=>W_some) (μ0:=a) g (by omega) (((bD _ _).trans (bD _ _)).trans (bD _ _)) (Tt _) (by rw [Tz];omega) (by rw [Tz];exact TY (Ve _)) ?_ ?_ (cA _ _) _ fun x S μ' e d J c=>?_
 ·exact aP ((bD _ _).trans (bD _ _)) (cA _ _)
 ·exact aP (bD _ _) (cA _ _)
 ·simp only [w_mRet,eM,aU,aR,aF,aJ]
  exact ⟨eP,H _ _ S μ' e d J c⟩
theorem Sj (k:Nat){w h:Int}(hw:1<=w/\w<=4)(e:1<=h/\h<=4)(a:Hm)(Q:D×Hm->Prop)(H:∀ l p S μ',a <+: μ'->μ'[l]? = some (.dT (aX (fun _=>LD cX) (bV w h)))->Pz μ' a.length p S->GZ S=eL (bV w h)->Q (.tup [.loc l,.loc p],μ')) :
  W (f (k+3) "unfolded" [.int w,.int h] a) Q:=by
 obtain ⟨n,r,s,o,_,_⟩:=lT w (dQ hw) h (dQ e)
 rw [Qk,W_fin]
 simp only [bH,b7,mV,Tj,Tn,gE,mS,bE,aU,aR,aF,aJ]
 refine R6 k w h hw e _ _ fun c q d b=>?_
 rw [n] at b
 refine (mU b).mpr ?_
 have i:(a++[C.dT []]).length=a.length+1:=by rw [Tz];rfl
 refine E7 (me:=mC yX) (fun u a Q=>W_some) (μ0:=a) o (by omega) (((bD _ _).trans (bD _ _)).trans d) (Tt _) (by omega) (by rw [i];exact TY (Ve _)) ?_ ?_ b _ fun x S μ' m j J g=>?_
 ·exact aP ((bD _ _).trans d) (cA _ _)
 ·exact aP d (cA _ _)
 ·simp only [w_mRet,eM,aU,aR,aF,aJ]
  exact ⟨eP,H _ _ S μ' m j J g⟩
theorem Sk (k:Nat){w h:Int}(hw:1<=w/\w<=4)(u:1<=h/\h<=4)(i:Hm)(Q:D×Hm->Prop)
  (H:∀ b d g,i <+: g->b<g.length->g[i.length]? = some (.ins "Folding" (lU w h b))->g[b]? = some (.lst [d])->StZ g b d (fun _=>cX) (bV w h) (eL (bV w h))->Q (.non,g)):W (f (k+5) "Folding" [.loc i.length,.int w,.int h] (i++[.ins "Folding" []])) Q:=by
 rw [QC,Qx,W_fin]
 simp only [bH,mR,bE,aU,aR,aF,aJ]
 refine Rw k (by omega) (by omega) _ _ ?_
 refine zO ?_
 simp only [aF,aJ]
 refine ⟨_,_,rfl,cA _ _,by decide,?_⟩
 rw [y6,Se]
 try dsimp only
 refine zO ?_
 simp only [aF,aJ]
 refine ⟨_,_,rfl,cA _ _,show (1:Nat)<100 by decide,?_⟩
 rw [y6,Sf]
 try dsimp only
 refine zO ?_
 simp only [gD,bE,aU,aR,aF,aJ]
 refine Sj k hw u _ _ fun l p S a n o J s=>⟨D2,_,_,rfl,aP (n.trans (bD _ _)) (cA _ _),show (2:Nat)<100 by decide,?_⟩
 rw [Sg]
 have o1:i.length<a.length:=by
  have:=n.length_le
  rw [Tz] at this
  exact this
 have ne:a.length≠i.length:=by omega
 have v:i <+: (a++[C.lst [.tup [.loc l,.loc p]]]).set i.length (.ins "Folding" (lU w h a.length)):=fL (((bD _ _).trans n).trans (bD _ _)) (Tt _) _
 have j:∀ (c:Nat)(y:C),c≠i.length->a[c]? = some y->((a++[C.lst [.tup [.loc l,.loc p]]]).set i.length (.ins "Folding" (lU w h a.length)))[c]? = some y:=fun c y hc e=>by rw [Tv (Uu hc)];exact aP (bD _ _) e
 have q:a[i.length]? = some (.ins "Folding" [("wide",.int w),("high",.int h)]):=aP n (cA _ _)
 have r:=j p _ (fun e=>by have:=J.dic;rw [e,q] at this;cases this) J.dic
 refine H a.length _ _ v (by rw [Ud,Tz];exact Ve _) (TU (T9 o1 (bD a _).length_le)) (by rw [Tv (Uu ne)];exact cA _ _) ⟨l,p,S,rfl,j l _ (fun e=>by rw [e,q] at o;cases o) o,⟨.inl r,J.kd,fun z m=>j _ _ (fun e=>by have:=(J.at_ z m).2;rw [e,q] at this;cases this) (J.at_ z m).2⟩,r,s,fun z m e=>?_⟩
 have:=(Tf.mp (J.at_ z m).2).1
 omega
theorem Sl {a:Hm}{Q:D×Hm->Prop}:W (gT (.int 10) (.int 58) a) Q↔Q (.int (10 ^ 58),a):=DJ (by decide)
theorem Sm {a:Hm}{Q:D×Hm->Prop}:W (gT (.int 10) (.int 57) a) Q↔Q (.int (10 ^ 57),a):=DJ (by decide)
theorem Sn {u n j:Int}(a:0<=u/\u<4):atI [P (2+4 * j) n,P n (2+4 * j),P (n+1+2 * j) (1+2 * j),P (1+2 * j) (n - 1 - 2 * j)] u=some (PP (oW u n j)):=by
 have:u=0\/u=1\/u=2\/u=3:=by omega
 rcases this with rfl|rfl|rfl|rfl<;>rfl
theorem So {ps:List (Int×Int)}{i:Int}(a:0<=i)(h:i<ps.length):∃ q,atI (ps.map PP) i=some (PP q):=by
 unfold atI
 rw [D9 a (by rw [Tc];exact h)]
 have b:i.toNat<ps.length:=by omega
 exact ⟨ps[i.toNat],by rw [TZ,TH,TV b];rfl⟩
theorem Sq (k:Nat){d:Hm}{p:Nat}{i:D}{Z:Zr}(g:d[p]? = some (.dT (aM Z)))(J:0<Z.length)(v b:Int)(Q:D×Hm->Prop)
  (H:∀ e u n a o l,d <+: l->OnL e u n->n % 4=0->Q (.tup [PP e,.tup [.int u,.int n],.bl a,.bl o],l)):W (f (k+2) "_law_plan" [.tup [i,.loc p],.int v,.int b] d) Q:=by
 have w:0<=v % 4/\v % 4<4:=⟨WK _ (by decide),We _ (by decide)⟩
 rw [Qs,W_fin]
 simp only [bH,b7,bE,aU,aR,a9,bB,hW,aF,aJ,dP (show (0:Int)<4 by decide),Tj,Tn]
 refine (yU g).mpr ?_
 have y:(aM Z).map (fun k=>D.tup (k.1.map D.int))=(Z.map (·.1)).map PP:=by
  unfold aM
  rw [TF,TF]
  rfl
 rw [y]
 simp only [Tj,Tn,aF,aJ,jI (show (0:Int)<64 by decide) (by decide),tK (cA d (C.lst ((Z.map (·.1)).map PP)))]
 have h:(0:Int)<(((Z.map (·.1)).map PP).length:Nat):=by rw [Tc,Tc];omega
 refine (dP h).mpr ?_
 obtain ⟨q,A⟩:=So (ps:=Z.map (·.1)) (i:=v / 64 % (((Z.map (·.1)).map PP).length:Nat)) (WK _ (by omega)) (by have:=We (v / 64) h;rw [Tc] at this ⊢;exact this)
 refine (tH (cA _ _) A).mpr ?_
 simp only [Tj,Tn,aF,aJ]
 refine ET k q (v % 4) w _ _ fun c G=>?_
 simp only [jI (show (0:Int)<4 by decide) (by decide),QH,dP (show (0:Int)<2 by decide),fM,aF,aJ]
 have I:d <+: c:=(bD _ _).trans G
 generalize hn0:bG (v % 4) q / 4 * 4+v / 4 % 2 * 4=n0
 have z:n0 % 4=0:=by omega
 have E:W ((bN (aT (aB (a8 false) (aB bJ (aB dS (aA 1) (mC (.int 8))) (mC (.int 7))) (mC (.int 3)))) (aQ 6 (aB bX (mC (.int 4)) (aB cQ (aB bJ (aA 2) (aB bX (mC (.int 2)) (aB gT (mC (.int 10)) (mC (.int 58))))) (aB gT (mC (.int 10)) (mC (.int 58)))))) bM) [some (.tup [i,.loc p]),some (.int v),some (.int b),some (.int (v % 4)),some (.loc d.length),some (PP q),some (.int n0),none,none] c)
   fun r=>∃ n:Int,n % 4=0/\r=(.nx,[some (.tup [i,.loc p]),some (.int v),some (.int b),some (.int (v % 4)),some (.loc d.length),some (PP q),some (.int n),none,none],c):=by
  simp only [c7,dG,a9,bB,aF,aJ,jI (show (0:Int)<8 by decide) (by decide),dP (show (0:Int)<7 by decide),w_eqI]
  split
  ·simp only [b7,a9,bB,aF,aJ,Sl]
   have m:(0:Int)<10 ^ 58:=by decide
   generalize (10:Int) ^ 58=t at m
   simp only [yY,dP (show (0:Int)<2 * t by omega),qI,oO,Tj,Tn]
   exact ⟨_,by omega,rfl⟩
  ·simp only [dE]
   exact ⟨n0,z,rfl⟩
 refine bO E fun r ⟨n,x,s⟩=>?_
 subst s
 simp only [bH,b7,a9,bB,aF,aJ,jI (show (0:Int)<3 by decide) (by decide),dP (show (0:Int)<9 by decide),qI,Tj,Tn]
 have B:W ((bN (aT (aB (a8 false) (aB bJ (aB dS (aA 1) (mC (.int 56))) (mC (.int 5))) (mC (.int 2)))) (aQ 7 (aB bJ (aB dS (aA 2) (mC (.int 7))) (aB gT (mC (.int 10)) (mC (.int 57))))) bM) [some (.tup [i,.loc p]),some (.int v),some (.int b),some (.int (v % 4)),some (.loc d.length),some (PP q),some (.int n),some (.int (b / 3 % 9 - 4)),none] c)
   fun r=>∃ j:Int,r=(.nx,[some (.tup [i,.loc p]),some (.int v),some (.int b),some (.int (v % 4)),some (.loc d.length),some (PP q),some (.int n),some (.int j),none],c):=by
  simp only [c7,dG,a9,bB,aF,aJ,jI (show (0:Int)<56 by decide) (by decide),dP (show (0:Int)<5 by decide),w_eqI]
  split
  ·simp only [b7,a9,bB,aF,aJ,Sm,jI (show (0:Int)<7 by decide) (by decide)]
   have m:(0:Int)<10 ^ 57:=by decide
   generalize (10:Int) ^ 57=t at m
   simp only [dP m,Tj,Tn]
   exact ⟨_,rfl⟩
  ·simp only [dE]
   exact ⟨_,rfl⟩
 refine bO B fun r ⟨j,s⟩=>?_
 subst s
 simp only [bH,b7,a9,bB,gD,eM,aU,aR,aF,aJ,oO,yY,fM,qI]
 refine ⟨eP,eP,eP,eP,(by show (4:Nat)<=TC;decide),?_⟩
 refine (tH (cA _ _) (Sn w)).mpr ?_
 simp only [w_mRet,eM,aU,aR,a9,bB,aF,aJ,jI (show (0:Int)<280 by decide) (by decide),jI (show (0:Int)<560 by decide) (by decide),dP (show (0:Int)<2 by decide),w_eqI,Tj,Tn]
 exact ⟨eP,(by show (4:Nat)<=TC;decide),H _ _ _ _ _ _ (I.trans (bD _ _)) (Sh w x j) x⟩
noncomputable def Nr (p q:Int×Int):Prop:=-16<=p.1 - q.1/\p.1 - q.1<=16/\-16<=p.2 - q.2/\p.2 - q.2<=16
theorem lV (n:Int)(p:Int×Int):aL (aZ 0 n) p=(p.1,2 * n - p.2)/\aL (aZ 1 n) p=(2 * n - p.1,p.2)/\aL (aZ 2 n) p=(p.2+n,p.1 - n)/\aL (aZ 3 n) p=(n - p.2,n - p.1):=by
 refine ⟨WD ?_ ?_,WD ?_ ?_,WD ?_ ?_,WD ?_ ?_⟩
 ·show 1 * p.1+0 * p.2+0=p.1
  omega
 ·show 0 * p.1+(-1) * p.2+2 * n=2 * n - p.2
  omega
 ·show (-1) * p.1+0 * p.2+2 * n=2 * n - p.1
  omega
 ·show 0 * p.1+1 * p.2+0=p.2
  omega
 ·show 0 * p.1+1 * p.2+n=p.2+n
  omega
 ·show 1 * p.1+0 * p.2+-n=p.1 - n
  omega
 ·show 0 * p.1+(-1) * p.2+n=n - p.2
  omega
 ·show (-1) * p.1+0 * p.2+n=n - p.1
  omega
theorem Sr {u n:Int}(g:0<=u/\u<4)(a:Bool){p q:Int×Int}(h:Nr p q)(b:bG u p≠n)(d:bG u q≠n):Nr (if aV u n a p then aL (aZ u n) p else p) (if aV u n a q then aL (aZ u n) q else q):=by
 have c:u=0\/u=1\/u=2\/u=3:=by omega
 unfold Nr at *
 have e:∀ p,aV u n a p=true↔(if a=true then n<bG u p else ¬ n<bG u p):=fun p=>by
  unfold aV
  cases a<;>simp
 simp only [e]
 rcases c with rfl|rfl|rfl|rfl
 ·rw [(lV n p).1,(lV n q).1]
  change p.2≠n at b
  change q.2≠n at d
  simp only [show bG 0 p=p.2 from rfl,show bG 0 q=q.2 from rfl]
  cases a<;>simp only [if_true,if_false,Tw]<;>split<;>split<;>omega
 ·rw [(lV n p).2.1,(lV n q).2.1]
  change p.1≠n at b
  change q.1≠n at d
  simp only [show bG 1 p=p.1 from rfl,show bG 1 q=q.1 from rfl]
  cases a<;>simp only [if_true,if_false,Tw]<;>split<;>split<;>omega
 ·rw [(lV n p).2.2.1,(lV n q).2.2.1]
  change p.1 - p.2≠n at b
  change q.1 - q.2≠n at d
  simp only [show bG 2 p=p.1 - p.2 from rfl,show bG 2 q=q.1 - q.2 from rfl]
  cases a<;>simp only [if_true,if_false,Tw]<;>split<;>split<;>omega
 ·rw [(lV n p).2.2.2,(lV n q).2.2.2]
  change p.1+p.2≠n at b
  change q.1+q.2≠n at d
  simp only [show bG 3 p=p.1+p.2 from rfl,show bG 3 q=q.1+q.2 from rfl]
  cases a<;>simp only [if_true,if_false,Tw]<;>split<;>split<;>omega
structure Nw (qs:List (Int×Int))(F:Int×Int->Ly)(B:Int):Prop where
 nr:∀ p∈qs,∀ q∈qs,Nr (aL (F p) p) (aL (F q) q)
 bd:∀ q∈qs,-B<=(aL (F q) q).1/\(aL (F q) q).1<=B/\-B<=(aL (F q) q).2/\(aL (F q) q).2<=B
theorem Ff {G:Gr}{mv:Int×Int->Bool}(h:kM G mv=false):∃ p∈G.map (·.1),mv p=false:=by
 unfold kM at h
 rw [a0t] at h
 apply Wm
 intro a
 have:(G.map (·.1)).filter mv=G.map (·.1):=WB.mpr fun p b=>by
  cases e:mv p with
  | true=>rfl
  | false=>exact absurd ⟨p,b,e⟩ a
 rw [this,Tc,beq_self_eq_true] at h
 exact absurd h.2 (by decide)
theorem Nw.fold {qs:List (Int×Int)}{F:Int×Int->Ly}{B:Int}{G:Gr}(N:Nw qs F B)(g:Gd qs F G){u n:Int}(r:0<=u/\u<4)(h:n % 4=0){a:Bool}(m:kM G (aV u n a)=false):Nw qs (bT u n a F) (B+16):=by
 have i:∀ p∈qs,∀ q∈qs,Nr (aL (bT u n a F p) p) (aL (bT u n a F q) q):=fun p b q c=>by
  rw [mZ,mZ]
  exact Sr r a (N.nr p b q c) (oV (g.qr p b) h) (oV (g.qr q c) h)
 refine ⟨i,fun q c=>?_⟩
 obtain ⟨s,o,j⟩:=Ff m
 obtain ⟨p,b,e⟩:=g.pl.key.mp o
 have d:=i q c p b
 have v:=N.bd p b
 have l:aL (bT u n a F p) p=aL (F p) p:=by rw [mZ,if_neg (by rw [e,j];exact Uc)]
 rw [l] at d
 unfold Nr at d
 omega
noncomputable def lW (c:Nat):Str:=if c=0 then "." else if c<=9 then toString (c:Int) else "#"
noncomputable def kN (c:Int×Int->Nat)(p:Int×Int):Str:=if cN p then lW (c p) else " "
noncomputable def fB (c:Int×Int->Nat)(lo:Int)(n:Nat)(y:Int):List Str:=(Ui n).map fun (j:Nat)=>kN c (lo+(j:Int),y)
noncomputable def fR (c:Int×Int->Nat)(a:Int)(nx:Nat)(b:Int)(ny:Nat):List Str:=(Ui ny).map fun (j:Nat)=>Uq "" (fB c a nx (b+(j:Int)))
theorem Ss:∀ c∈Ui 10,(atI (Str.cps ".123456789#").toList (min (c:Int) 10)).map (fun x=>(⟨#[x]⟩:Str))=some (lW c):=by decide +kernel
theorem Su (c:Nat):(atI (Str.cps ".123456789#").toList (min (c:Int) 10)).map (fun x=>(⟨#[x]⟩:Str))=some (lW c):=by
 by_cases h:c<10
 ·exact Ss c (Vk.mpr h)
 ·rw [show min (c:Int) 10=10 by omega]
  unfold lW
  rw [if_neg (by omega),if_neg (by omega)]
  decide +kernel
theorem Sv (c:Nat):(lW c).length<=1:=by
 have h:∀ c∈Ui 10,(lW c).length<=1:=by decide +kernel
 by_cases hc:c<10
 ·exact h c (Vk.mpr hc)
 ·unfold lW
  rw [if_neg (by omega),if_neg (by omega)]
  decide
theorem Sw (ss:List Str)(s:Str):Uq "" (ss++[s])=Uq "" ss++s:=by
 refine Ry ?_
 rw [zC,Zy,Zy,zD,zD]
 show jn [] _=jn [] _++_
 rw [zE,zE,TM,List.flatten_append]
 simp
theorem Fg (c:Int×Int->Nat)(p:Int×Int):(kN c p).length<=1:=by
 unfold kN
 split
 ·exact Sv _
 ·decide
theorem zR (c:Int×Int->Nat)(lo:Int){n:Nat}(g:n<=25)(y:Int):(fB c lo n y).length<=25/\(∀ s∈fB c lo n y,s.length<=25)/\(Uq "" (fB c lo n y)).length<=25:=by
 have e:(fB c lo n y).length=n:=by unfold fB;rw [Tc,WT]
 have b:∀ s∈fB c lo n y,s.length<=1:=fun s a=>by
  obtain ⟨j,_,rfl⟩:=Ts.mp a
  exact Fg _ _
 refine ⟨by omega,fun s a=>UE (b s a) (by decide),?_⟩
 rw [size_glued]
 have d:=tU b 0
 simp only [X6,Nat.mul_one] at d
 have:(("":Str)).length=0:=rfl
 rw [this,Nat.mul_zero,X6]
 omega
theorem uE (c:Int×Int->Nat)(a:Int){nx:Nat}(e:nx<=25)(b:Int){ny:Nat}(g:ny<=25):(fR c a nx b ny).length<=25/\∀ s∈fR c a nx b ny,s.length<=25:=by
 refine ⟨by unfold fR;rw [Tc,WT];exact g,fun s d=>?_⟩
 obtain ⟨j,_,rfl⟩:=Ts.mp d
 exact (zR c a e _).2.2
theorem Sx {c:Nat}(h:c<=9){a:Hm}{Q:D×Hm->Prop}:W (mP [.int (c:Int)] a) Q↔Q (.str (toString (c:Int)),a):=by
 have:mP [.int (c:Int)] a=some (.str (toString (c:Int)),a):=by
  unfold mP
  dsimp only
  rw [if_pos (by omega)]
 rw [this]
 exact W_some
noncomputable abbrev cS (G:Gr)(p:Int×Int):Nat:=(cB G p).length
structure Bx (ps:List (Int×Int))(lx:Int)(nx:Nat)(ly:Int)(ny:Nat):Prop where
 x0:fH (ps.map (·.1))=lx
 x1:eC (ps.map (·.1))+1 - lx=nx
 y0:fH (ps.map (·.2))=ly
 y1:eC (ps.map (·.2))+1 - ly=ny
 sx:nx<=17
 sy:ny<=17
 bx:-1000<=lx/\lx<=1000
 by_:-1000<=ly/\ly<=1000
theorem Sy {ps:List (Int×Int)}(d:ps≠[])(h:∀ p∈ps,∀ q∈ps,Nr p q){B:Int}(hB:B<=1000)(g:∀ p∈ps,-B<=p.1/\p.1<=B/\-B<=p.2/\p.2<=B):∃ u nx v ny,Bx ps u nx v ny:=by
 have i:0<(ps.map (·.1)).length:=by rw [Tc];exact VM.mpr d
 have j:0<(ps.map (·.2)).length:=by rw [Tc];exact VM.mpr d
 obtain ⟨b,A⟩:=tX i
 obtain ⟨n,o⟩:=tY i
 obtain ⟨c,E⟩:=tX j
 obtain ⟨r,s⟩:=tY j
 obtain ⟨l,e,G⟩:=Ts.mp b
 obtain ⟨y,a,H⟩:=Ts.mp n
 obtain ⟨m,hc,I⟩:=Ts.mp c
 obtain ⟨z,hd,J⟩:=Ts.mp r
 have w:=h y a l e
 have x:=h z hd m hc
 have M:=o _ b
 have N:=s _ c
 have K:=g l e
 have L:=g m hc
 unfold Nr at w x
 refine ⟨_,(eC (ps.map (·.1))+1 - fH (ps.map (·.1))).toNat,_,(eC (ps.map (·.2))+1 - fH (ps.map (·.2))).toNat,rfl,?_,rfl,?_,?_,?_,?_,?_⟩<;>omega
theorem Fh {l m:List Int}(h:l.Perm m)(a:0<l.length):fH l=fH m:=by
 have g:0<m.length:=by rw [<- h.length_eq];exact a
 obtain ⟨b,c⟩:=tX a
 obtain ⟨d,e⟩:=tX g
 have:=c _ (h.mem_iff.mpr d)
 have:=e _ (h.mem_iff.mp b)
 omega
theorem Fi {l m:List Int}(h:l.Perm m)(a:0<l.length):eC l=eC m:=by
 have g:0<m.length:=by rw [<- h.length_eq];exact a
 obtain ⟨b,c⟩:=tY a
 obtain ⟨d,e⟩:=tY g
 have:=c _ (h.mem_iff.mpr d)
 have:=e _ (h.mem_iff.mp b)
 omega
theorem Bx.perm {ps qs:List (Int×Int)}{a b:Int}{nx ny:Nat}(B:Bx ps a nx b ny)(h:ps.Perm qs)(i:ps≠[]):Bx qs a nx b ny:=by
 have l:0<ps.length:=VM.mpr i
 have c:=Fh (h.map (·.1)) (by rw [Tc];exact l)
 have d:=Fi (h.map (·.1)) (by rw [Tc];exact l)
 have e:=Fh (h.map (·.2)) (by rw [Tc];exact l)
 have g:=Fi (h.map (·.2)) (by rw [Tc];exact l)
 exact ⟨c ▸ B.x0,d ▸ B.x1,e ▸ B.y0,g ▸ B.y1,B.sx,B.sy,B.bx,B.by_⟩
theorem zS {d:Type} [DecidableEq d]:∀ {l m:List d},l.Nodup->(∀ x∈l,x∈m)->l.length<=m.length
 | [],_,_,_=>by simp
 | a::l,m,h,s=>by
  rw [UU] at h
  have b:=s a (by simp)
  have:l.length<=(m.erase a).length:=zS h.2 fun x c=>(Xb (fun e:x=a=>h.1 (by rw [<- e];exact c))).mpr (s x (by simp [c]))
  rw [XH b] at this
  have:=XZ b
  simp
  omega
theorem Fj {qs:List (Int×Int)}{F:Int×Int->Ly}{G:Gr}(g:Gd qs F G){u n:Int}(c:n % 4=0)(a o:Bool):(iS (aV u n a) (aL (aZ u n)) o G).length<=G.length:=by
 have b:=g.fold (u:=u) c a o
 have:=zS (m:=(G.map (·.1)).map fun p=>if aV u n a p then aL (aZ u n) p else p) b.pl.kd fun x h=>by
  obtain ⟨q,d,e⟩:=b.pl.key.mp h
  rw [mZ] at e
  exact Ts.mpr ⟨aL (F q) q,g.pl.key.mpr ⟨q,d,rfl⟩,e⟩
 simpa using this
theorem Sz {qs:List (Int×Int)}{F:Int×Int->Ly}{G:Gr}(g:Gd qs F G)(l:∀ q,aL (F q) q=q){u n:Int}(i:n % 4=0)(a o:Bool){p q:Int×Int}(d:p∈qs)(j:q∈qs)(ne:p≠q)(e:(if aV u n a p then aL (aZ u n) p else p)=if aV u n a q then aL (aZ u n) q else q):(iS (aV u n a) (aL (aZ u n)) o G).length<qs.length:=by
 have c:=g.fold (u:=u) i a o
 have:=zS (m:=(qs.erase p).map fun p=>if aV u n a p then aL (aZ u n) p else p) c.pl.kd fun x m=>by
  obtain ⟨z,r,b⟩:=c.pl.key.mp m
  rw [mZ,l] at b
  by_cases h:z=p
  ·subst h
   exact Ts.mpr ⟨q,(Xb (Uu ne)).mpr j,e.symm.trans b⟩
  ·exact Ts.mpr ⟨z,(Xb h).mpr r,b⟩
 rw [Tc,Tc,XH d] at this
 have:=XZ d
 omega
theorem SA {G:Gr}{mv:Int×Int->Bool}(h:kM G mv=false):∃ p∈G.map (·.1),mv p=true:=by
 unfold kM at h
 rw [a0t] at h
 cases e:(G.map (·.1)).filter mv with
 | nil=>rw [e] at h;cases h.1
 | cons p l=>
  have:p∈(G.map (·.1)).filter mv:=by rw [e];exact Um ..
  exact ⟨p,(UK.mp this).1,(UK.mp this).2⟩
theorem SD:∀ u∈[(0:Int),1,2,3],∀ n∈[(-12:Int),-8,-4,0,4,8,12,16,20,24,28],((bV 4 4).any fun q=>decide (n<bG u q))=true->((bV 4 4).any fun q=>decide (bG u q<n))=true->((bV 4 4).any fun q=>decide (n<bG u q)&&((bV 4 4).contains (aL (aZ u n) q)&&decide (bG u (aL (aZ u n) q)<n)))=true:=by decide +kernel
theorem Fm:∀ w∈[(1:Int),2,3,4],∀ h∈[(1:Int),2,3,4],(bV w h).length<64\/(w=4/\h=4):=by decide +kernel
theorem uF {u:Int}(a:0<=u/\u<4){q:Int×Int}(h:0<=q.1/\q.1<=16/\0<=q.2/\q.2<=16):-16<=bG u q/\bG u q<=32:=by
 have c:u=0\/u=1\/u=2\/u=3:=by omega
 rcases c with rfl|rfl|rfl|rfl
 ·show -16<=q.2/\q.2<=32
  omega
 ·show -16<=q.1/\q.1<=32
  omega
 ·show -16<=q.1 - q.2/\q.1 - q.2<=32
  omega
 ·show -16<=q.1+q.2/\q.1+q.2<=32
  omega
noncomputable def Un (w h:Int)(F:Int×Int->Ly)(G:Gr):Prop:=G.length<64\/(F=(fun _=>cX)/\G=eL (bV w h))
theorem Un.fold {w h:Int}(hw:1<=w/\w<=4)(A:1<=h/\h<=4){F:Int×Int->Ly}{G:Gr}(U:Un w h F G)(g:Gd (bV w h) F G){u n:Int}(l:0<=u/\u<4)(i:n % 4=0){a:Bool}(o:Bool)(v:kM G (aV u n a)=false):(iS (aV u n a) (aL (aZ u n)) o G).length<64:=by
 rcases U with Z|⟨rfl,rfl⟩
 ·have:=Fj g (u:=u) i a o
  omega
 obtain ⟨_,q2,_,_,_,R⟩:=lT w (dQ hw) h (dQ A)
 rcases Fm w (dQ hw) h (dQ A) with h2|⟨rfl,rfl⟩
 ·have:=Fj g (u:=u) i a o
  have:(eL (bV w h)).length=(bV w h).length:=by unfold eL;rw [Tc]
  omega
 have c:∀ q∈bV 4 4,cN q=true/\0<=q.1/\q.1<=16/\0<=q.2/\q.2<=16:=fun q b=>by
  have:=Vd.mp R q b
  rw [To,decide_eq_true_iff] at this
  exact this
 obtain ⟨p,j,J⟩:=SA v
 obtain ⟨q,b,eq⟩:=Ff v
 rw [qQ] at j b
 have vp:=oV (c p j).1 (u:=u) i
 have vq:=oV (c q b).1 (u:=u) i
 have T:=uF l (c p j).2
 have X:=uF l (c q b).2
 have d:∀ p,aV u n a p=true↔(if a=true then n<bG u p else ¬ n<bG u p):=fun p=>by
  unfold aV
  cases a<;>simp
 have two:(∃ p∈bV 4 4,n<bG u p)/\∃ q∈bV 4 4,bG u q<n:=by
  have r:=(d p).mp J
  have s:¬ (if a=true then n<bG u q else ¬ n<bG u q):=fun z=>by rw [(d q).mpr z] at eq;cases eq
  cases a with
  | true=>
   simp only [if_true] at r s
   exact ⟨⟨p,j,r⟩,q,b,by omega⟩
  | false=>
   simp only [Tw,if_false] at r s
   exact ⟨⟨q,b,by omega⟩,p,j,by omega⟩
 have un:u∈[(0:Int),1,2,3]:=by
  simp only [T1,Wv,or_false]
  omega
 obtain ⟨⟨x,B,K⟩,y,E,L⟩:=two
 have Y:=uF l (c x B).2
 have I:=uF l (c y E).2
 have Q:n∈[(-12:Int),-8,-4,0,4,8,12,16,20,24,28]:=by
  simp only [T1,Wv,or_false]
  omega
 have m:=SD u un n Q (YU.mpr ⟨x,B,decide_eq_true K⟩) (YU.mpr ⟨y,E,decide_eq_true L⟩)
 obtain ⟨z,M,m⟩:=YU.mp m
 rw [To,To,decide_eq_true_iff,decide_eq_true_iff,UP] at m
 obtain ⟨H,N,O⟩:=m
 have ne:z≠aL (aZ u n) z:=fun e=>by rw [<- e] at O;omega
 have:(iS (aV u n a) (aL (aZ u n)) o (eL (bV 4 4))).length<(bV 4 4).length:=by
  refine Sz g (fun q=>oP q) i a o M N ne ?_
  cases a with
  | true=>
   rw [if_pos ((d z).mpr (by simpa using H)),if_neg fun h=>by have:=(d _).mp h;simp only [if_true] at this;omega]
  | false=>
   rw [if_neg fun h=>by have:=(d _).mp h;simp only [Tw,if_false] at this;exact this H,if_pos ((d _).mpr (by simp only [Tw,if_false];omega)),Es]
 omega
theorem SE {b:Hm}{a:Nat}{v:Int×Int->D}{ps:List (Int×Int)}(h:b[a]? = some (.dT (aX v ps)))(o:ps.length<64\/ps=bV 4 4)(Q:D×Hm->Prop)(H:∀ ks:List (Int×Int),ks.Perm ps->Q (.loc b.length,b++[.lst (ks.map PP)])):W (kH [.loc a] b) Q:=by
 have j:∀ p∈aX v ps,p.1≠[]:=fun p n=>by
  obtain ⟨q,_,rfl⟩:=Ts.mp n
  simp [bR]
 have le:(aX v ps).length=ps.length:=by unfold aX;rw [Tc]
 by_cases c:ps.length<64
 ·have e:lF [.loc a] b=some (.loc b.length,b++[.lst ((qP ps).map PP)]):=by
   simp only [lF,h]
   rw [if_pos ⟨by rw [le];exact c,j⟩,Rj]
   unfold aX
   rw [TF]
   rfl
  have d:kH [.loc a] b=some (.loc b.length,b++[.lst ((qP ps).map PP)]):=by
   unfold kH
   rw [e]
  rw [d]
  exact W_some.mpr (H _ (Ri ps))
 ·have i:ps=bV 4 4:=o.resolve_left c
  have g:ps.length=64:=by rw [i];decide +kernel
  have e:lF [.loc a] b=none:=by
   simp only [lF,h]
   rw [if_neg fun z=>c (by rw [<- le];exact z.1)]
  have m:(aX v ps).map (·.1)=ps.map bR:=by
   unfold aX
   rw [TF]
   rfl
  have r:sP ((bV 4 4).map bR) 63=true:=by decide +kernel
  have l:pX [.loc a] b=some (.loc b.length,b++[.lst (ps.map PP)]):=by
   simp only [pX,h]
   rw [if_pos ⟨by omega,by omega,j,by rw [m,le,g,i];exact r⟩]
   unfold aX
   rw [TF]
   rfl
  have d:kH [.loc a] b=some (.loc b.length,b++[.lst (ps.map PP)]):=by
   unfold kH
   rw [e]
   exact l
  rw [d]
  exact W_some.mpr (H _ (.refl _))
theorem Fn {b:Hm}{a:Nat}{xs:List D}(h:b[a]? = some (.lst xs)):jX b (.loc a)=true:=by simp only [jX,h]
theorem SF {x y:Int}{a:Hm}{Q:D×Hm->Prop}:W (kW (.int x) (.int y) a) Q↔Q (.bl (decide (x<=y)),a):=W_some
theorem Fo {b:Hm}{n a:Nat}{Z:Zr}(J:Pz b n a Z)(p:Int×Int){d:aI}{e:ME}(l:e d b=some (.loc a,b)){g:ME}(m:∀ b,g d b=some (PP p,b))(Q:D×Hm->Prop)(H:∀ μ',b <+: μ'->Q (.int (cS (GZ Z) p:Nat),μ')) :
  W (aG eI (aC (f7 fJ e (aC g (aC (cU aD) aD))) aD) d b) Q:=by
 simp only [bE,aU]
 refine tR ?_
 rw [l,W_some]
 refine ⟨tS J.dic,?_⟩
 rw [aU,m,W_some]
 simp only [aU,aR,gD]
 refine ⟨Uz _,?_⟩
 obtain ⟨c,i,j⟩:=zL (d:=b.length) (J.keep (μ':=b++[C.lst []]) fun c y h=>aP (bD _ _) h) (p:=p) (cA _ _)
 rw [i,W_some]
 refine (tK j).mpr ?_
 rw [Tc]
 exact H _ (bD _ _)
theorem SG (k:Nat){b:Hm}{n a:Nat}{Z:Zr}(J:Pz b n a Z)(x y:Int)(Q:D×Hm->Prop)(H:∀ μ',b <+: μ'->Q (.str (kN (cS (GZ Z)) (x,y)),μ')):W (f (k+1) "_law_sign" [.loc a,.int x,.int y] b) Q:=by
 have i:cN (x,y)=((x % 4 == 2&&y % 2 == 1)||(x % 2 == 1&&y % 4 == 2)):=by
  unfold cN
  dsimp only
  by_cases h:x % 2=1
  ·rw [if_pos h,h,show (x % 4 == 2)=false by rw [beq_eq_false_iff_ne];omega]
   rfl
  ·rw [if_neg h,show (x % 2 == 1)=false by rw [beq_eq_false_iff_ne];exact h]
   simp
 rw [Qu,W_fin,bH,c7]
 have c:∀ Q:Bool×Hm->Prop,Q (!cN (x,y),b)->W ((iX (eT (gP (aT (aB (a8 false) (aB bJ (aA 1) (mC (.int 4))) (mC (.int 2)))) (aT (aB (a8 false) (aB bJ (aA 2) (mC (.int 2))) (mC (.int 1))))) (gP (aT (aB (a8 false) (aB bJ (aA 1) (mC (.int 2))) (mC (.int 1)))) (aT (aB (a8 false) (aB bJ (aA 2) (mC (.int 4))) (mC (.int 2))))))) [some (.loc a),some (.int x),some (.int y),none] b) Q:=fun Q h=>by
  rw [i] at h
  simp only [tF,qH,yO,dG,a9,aF,aJ,bB,tL,qL,w_eqI]
  revert h
  cases x % 4 == 2<;>cases y % 2 == 1<;>cases x % 2 == 1<;>cases y % 4 == 2<;>simp
 refine c _ ?_
 unfold kN at H
 cases e:cN (x,y) with
 | false=>
  simp only [e,VD,if_true,w_mRet,bB,Tw,if_false] at H ⊢
  exact H _ (UI _)
 | true=>
  simp only [e,Vs,if_true,Tw,if_false,dE,bH,b7] at H ⊢
  refine Fo J (x,y) rfl (fun _=>rfl) _ fun l j=>?_
  simp only [Tj,Tn,w_mRet,a9,bE,aU,aR,bB,aF,aJ,PL]
  obtain ⟨c,d,g⟩:=Tg.mp (Su (cS (GZ Z) (x,y)))
  refine (PR (by rw [T5];decide) d).mpr ?_
  rw [g]
  exact H _ j
theorem SH (k:Nat){g:Hm}{n a:Nat}{Z:Zr}(J:Pz g n a Z)(p:Int×Int)(Q:D×Hm->Prop)(H:∀ μ',g <+: μ'->Q (.str (kN (cS (GZ Z)) p),μ')):W (f (k+2) "sign_for" [.loc a,PP p] g) Q:=by
 rw [P5,W_fin,bH,c7]
 simp only [tF,lK,bE,aU,aR,aF,aJ,EK,kK]
 unfold kN at H
 cases e:cN p with
 | false=>
  simp only [e,VD,if_true,w_mRet,bB,Tw,if_false] at H ⊢
  exact H _ (UI _)
 | true=>
  simp only [e,Vs,if_true,Tw,if_false,dE,bH,b7] at H ⊢
  refine Fo J p rfl (fun _=>rfl) _ fun j i=>?_
  have b:=H _ i
  generalize hc:cS (GZ Z) p=c at b ⊢
  simp only [Tj,Tn,c7,w_mRet,dG,a9,bB,aF,aJ,w_eqI,SF,oI,dE]
  unfold lW at b
  by_cases h:c=0
  ·subst h
   simp only [if_true] at b
   simpa using b
  ·rw [if_neg h] at b
   rw [if_neg (by rw [beq_iff_eq];omega)]
   by_cases d:c<=9
   ·rw [if_pos d] at b
    rw [if_pos (by rw [decide_eq_true_iff];omega)]
    simp only [bE,aU,aR,aF,aJ]
    exact (Sx d).mpr b
   ·rw [if_neg d] at b
    rw [if_neg (by rw [decide_eq_true_iff];omega)]
    exact b
noncomputable def m5 (pr:Int×Int->Int)(ps:List (Int×Int)):List D:=(ps.map pr).map D.int
theorem Fp {pr:Int×Int->Int}{i:Int}(u:∀ (q:Int×Int)(c:Hm)(Q:D×Hm->Prop),W (aH (PP q) (.int i) c) Q↔Q (.int (pr q),c)){c:Hm}{a:Nat}{Z:Zr}(g:c[a]? = some (.dT (aM Z)))(w:Z.length<=100){j:Nat}{l m n o:Option D}{v:MS}(Q:Fl×aI×Hm->Prop)
  (H:∀ t b,c <+: b->b[t]? = some (.lst (m5 pr (Z.map (·.1))))->Q (.nx,[some (.loc a),l,m,n,o].set j (some (.loc t)),b)) :
  W (dB 0 (aQ j (c4 (e8 (aA 0)) dA (aB aH (aA 5) (mC (.int i))))) v [some (.loc a),l,m,n,o] c) Q:=by
 have h:a<c.length:=(Tf.mp g).1
 have p:(c.set a (.dF (aM Z)))[a]? = some (.dF (aM Z)):=TU h
 refine tZ (a:=a) rfl g ?_
 rw [b7]
 refine mT (xs:=(Z.map (·.1)).map PP) (p:=fun _=>true) (v:=fun d=>.int (pr (iB d))) ?_
 rw [t4 (a:=a) rfl p,qS,W_some]
 refine ⟨yS,rfl,by rw [Tc,Tc,T5];omega,fun d b hd e=>w_mTrue.mpr ⟨rfl,UI _⟩,fun d b hd _ e=>?_,fun b e r=>?_⟩
 ·obtain ⟨q,_,rfl⟩:=Ts.mp hd
  simp only [UJ,VH,a9,bB,aF,aJ]
  exact (u _ _ _).mpr ⟨rfl,UI _⟩
 ·refine ⟨aP e p,?_⟩
  dsimp only
  have s:(((Z.map (·.1)).map PP).filter fun _=>true).map (fun d=>D.int (pr (iB d)))=m5 pr (Z.map (·.1)):=by
   rw [WB.mpr (fun _ _=>rfl)]
   unfold m5
   simp only [TF]
   rfl
  rw [s,Ud] at r
  rw [Ud]
  exact H _ _ (tT g e) (by rw [Tv (by omega)];exact r)
theorem uG {pr:Int×Int->Int}{i:Int}(r:∀ (q:Int×Int)(c:Hm)(Q:D×Hm->Prop),W (aH (PP q) (.int i) c) Q↔Q (.int (pr q),c)){c:Hm}{t:Nat}{ps:List (Int×Int)}(g:c[t]? = some (.lst (ps.map PP)))(s:ps.length<=100){j l m n o:Option D}(Q:D×Hm->Prop)
  (H:∀ b a,c <+: a->a[b]? = some (.lst (m5 pr ps))->Q (.loc b,a)) :
  W (c4 (cR (aA 1)) dA (aB aH (aA 6) (mC (.int i))) [j,some (.loc t),l,m,n,o] c) Q:=by
 refine mT (xs:=ps.map PP) (p:=fun _=>true) (v:=fun d=>.int (pr (iB d))) ?_
 simp only [mS,aF,aJ]
 refine (mU g).mpr ⟨DP g,rfl,by rw [Tc,T5];omega,fun d a hd e=>w_mTrue.mpr ⟨rfl,UI _⟩,fun d a hd _ e=>?_,fun a e h=>?_⟩
 ·obtain ⟨q,_,rfl⟩:=Ts.mp hd
  simp only [UJ,VH,a9,bB,aF,aJ]
  exact (r _ _ _).mpr ⟨rfl,UI _⟩
 ·have p:((ps.map PP).filter fun _=>true).map (fun d=>D.int (pr (iB d)))=m5 pr ps:=by
   rw [WB.mpr (fun _ _=>rfl)]
   unfold m5
   simp only [TF]
   rfl
  rw [p] at h
  exact H _ _ e h
theorem zT (q:Int×Int)(a:Hm)(Q:D×Hm->Prop):W (aH (PP q) (.int 0) a) Q↔Q (.int q.1,a):=W_some
theorem zU (q:Int×Int)(a:Hm)(Q:D×Hm->Prop):W (aH (PP q) (.int 1) a) Q↔Q (.int q.2,a):=W_some
theorem lX {pr:Int×Int->Int}{ps:List (Int×Int)}(h:ps≠[]):0<(ps.map pr).length:=by rw [Tc];exact VM.mpr h
theorem Fq (c:Int×Int->Nat)(a:Int)(nx:Nat)(b:Int)(i:Nat):fR c a nx b (i+1)=fR c a nx b i++[Uq "" (fB c a nx (b+(i:Int)))]:=by
 unfold fR
 rw [Xd,TM]
 rfl
theorem SI (c:Int×Int->Nat)(a:Int)(i:Nat)(y:Int):fB c a (i+1) y=fB c a i y++[kN c (a+(i:Int),y)]:=by
 unfold fB
 rw [Xd,TM]
 rfl
noncomputable def Fs (c:Int×Int->Nat)(y:Int):D->D
 | .int x=>.str (kN c (x,y))
 | _=>.non
theorem SJ (c:Int×Int->Nat)(a:Int)(nx:Nat)(y:Int):((fN a nx).filter fun _=>true).map (Fs c y)=(fB c a nx y).map D.str:=by
 rw [WB.mpr (fun _ _=>rfl)]
 unfold fN fB
 simp only [TF]
 rfl
theorem SK (k:Nat){l:Hm}{n a s E r:Nat}{Z:Zr}(J:Pz l n a Z)(p:Z.map (·.1)≠[]){e g:Int}{nx ny:Nat}(B:Bx (Z.map (·.1)) e nx g ny)(m:l[s]? = some (.lst (m5 (·.1) (Z.map (·.1))))){i:Nat}(L:i<=17)(o:l[r]? = some (.lst ((fR (cS (GZ Z)) e nx g i).map D.str)))(Q:D×Hm->Prop)
  (H:∀ b,l <+: b->Q (.non,b.set r (.lst ((fR (cS (GZ Z)) e nx g (i+1)).map D.str)))) :
  W ((gZ iN (aA 3) (aC (j5 jE (mC (.str "")) (aC (c4 (gY (aC (aG fI (aC (aA 1) aD)) (aC (aB bK (aG hV (aC (aA 1) aD)) (mC (.int 1))) aD))) dA (aG (f (k+2) "sign_for") (aC (aA 0) (aC (bW (aC (aA 5) (aC (aA 4) aD))) aD)))) aD)) aD)) [some (.loc a),some (.loc s),some (.loc E),some (.loc r),some (.int (g+(i:Int)))] l) Q:=by
 have G:=B.x0
 have I:=B.x1
 have K:=B.bx
 have N:=B.sx
 have O:=B.sy
 refine qK ?_
 simp only [aF,aJ,aU]
 refine ⟨Fn o,?_⟩
 refine yW ?_
 simp only [bB,aU]
 refine ⟨_,rfl,?_⟩
 refine mT (xs:=fN e nx) (p:=fun _=>true) (v:=Fs (cS (GZ Z)) (g+(i:Int))) ?_
 simp only [oJ,aU,aR,bE,a9,bB,aF,aJ]
 refine (tW m (lX p)).mpr ((tV m (lX p)).mpr ?_)
 rw [G]
 simp only [fM]
 have v:(eC ((Z.map (·.1)).map (·.1))+1 - e).toNat=nx:=by rw [I];rfl
 rw [v]
 refine ⟨by omega,DQ,by unfold fN;simp,by unfold fN;rw [Tc,WT,T5];omega,fun d b hd j=>w_mTrue.mpr ⟨rfl,UI _⟩,fun d b hd _ j=>?_,fun b j q=>?_⟩
 ·obtain ⟨x,_,rfl⟩:=Ts.mp hd
  simp only [UJ,VH,bE,eM,aU,aR,aF,aJ]
  exact ⟨eP,SH k (J.keep fun c y h=>aP j h) (e+(x:Int),g+(i:Int)) _ fun u w=>⟨rfl,w⟩⟩
 ·rw [SJ] at q
  obtain ⟨z,A,_⟩:=zR (cS (GZ Z)) e (n:=nx) (by omega) (g+(i:Int))
  refine (zF (by decide) q z A).mpr ?_
  have M:=(uE (cS (GZ Z)) e (nx:=nx) (by omega) g (ny:=i) (by omega)).1
  refine (tJ (aP j o) (by rw [Tc,T5];omega)).mpr ?_
  have:=H _ j
  rw [Fq,TM] at this
  exact this
theorem zV (k:Nat){p:Hm}{n a:Nat}{Z:Zr}(J:Pz p n a Z)(r:Z.length<=100)(m:Z.map (·.1)≠[]){l e:Int}{nx ny:Nat}(B:Bx (Z.map (·.1)) l nx e ny)(Q:D×Hm->Prop)(H:∀ μ',p <+: μ'->Q (.str (Uq "\n" (fR (cS (GZ Z)) l nx e ny)),μ')):W (f (k+3) "outline" [.loc a] p) Q:=by
 have M:=B.y0
 have N:=B.y1
 have E:=B.by_
 have U:=B.sx
 have X:=B.sy
 rw [P6,W_fin,bH]
 refine Fp (pr:=fun x=>x.1) zT J.dic r _ fun K O s A=>?_
 simp only [Tj,Tn]
 rw [bH]
 refine Fp (pr:=fun x=>x.2) zU (aP s J.dic) r _ fun L b u q=>?_
 simp only [Tj,Tn,bH,b7,gD,aR]
 refine ⟨Uz _,?_⟩
 simp only [Tj,Tn,gE,oJ,aU,aR,bE,a9,bB,aF,aJ]
 refine (tW (aP (bD _ _) q) (lX m)).mpr ((tV (aP (bD _ _) q) (lX m)).mpr ?_)
 rw [M]
 simp only [fM]
 have z:(eC ((Z.map (·.1)).map (·.2))+1 - e).toNat=ny:=by rw [N];rfl
 rw [z]
 refine ⟨by omega,?_⟩
 have w:=s.trans u
 refine oM (lo:=e) (n:=ny) (fun i d μ'=>∃ x,d=[some (.loc a),some (.loc K),some (.loc L),some (.loc b.length),x]/\b <+: μ'/\μ'[b.length]? = some (.lst ((fR (cS (GZ Z)) l nx e i).map D.str))) ⟨none,rfl,bD _ _,cA _ _⟩ (fun i d μ' T o=>?_) fun d μ' o=>?_
 ·obtain ⟨x,rfl,g,j⟩:=o
  refine ⟨_,rfl,?_⟩
  simp only [Tj,Tn,mR]
  refine SK k (J.keep fun c y h=>aP (w.trans g) h) m B (aP (u.trans g) A) (by omega) j _ fun R v=>?_
  exact ⟨_,rfl,fL (g.trans v) (Tt _) _,TU (T9 (Tf.mp j).1 v.length_le)⟩
 ·obtain ⟨x,rfl,g,j⟩:=o
  simp only [w_mRet]
  refine yW ?_
  simp only [bB,aU,aR,aF,aJ]
  obtain ⟨G,I⟩:=uE (cS (GZ Z)) l (nx:=nx) (by omega) e (ny:=ny) (by omega)
  exact ⟨_,rfl,(zF (by decide) j G I).mpr (H _ (w.trans g))⟩
theorem SM (k:Nat){g:Hm}{n a t r:Nat}{Z:Zr}(J:Pz g n a Z)(z:Z.length<=100)(o:Z.map (·.1)≠[]){d A:Int}{nx ny:Nat}(B:Bx (Z.map (·.1)) d nx A ny)(m:g[t]? = some (.lst ((Z.map (·.1)).map PP))){y:Int}{L s:Option D}{ms:MS}(Q:Fl×aI×Hm->Prop)
  (H:∀ x b,g <+: b->W (ms [some (.loc a),some (.loc t),some (.loc r),some (.int y),some (.str (Uq "" (fB (cS (GZ Z)) d nx y))),x] b) Q) :
  W (aK (aQ 4 (mC (.str ""))) (aK (cD (gY (aC (aG fI (aC (c4 (cR (aA 1)) dA (aB aH (aA 6) (mC (.int 0)))) aD)) (aC (aB bK (aG hV (aC (c4 (cR (aA 1)) dA (aB aH (aA 6) (mC (.int 0)))) aD)) (mC (.int 1))) aD))) (cI 5) (aQ 4 (aB bK (aA 4) (aG (f (k+1) "_law_sign") (aC (aA 0) (aC (aA 5) (aC (aA 3) aD))))))) ms) [some (.loc a),some (.loc t),some (.loc r),some (.int y),L,s] g) Q:=by
 have I:=B.x0
 have K:=B.x1
 have U:=B.bx
 have sx:=B.sx
 have p:(Z.map (·.1)).length<=100:=by rw [Tc];exact z
 rw [bH,b7]
 simp only [bB,Tj,Tn,bH,gE,oJ,aU,aR,bE,a9]
 refine uG (pr:=fun x=>x.1) zT m p _ fun R M q v=>?_
 refine (tW v (lX o)).mpr ?_
 refine uG (pr:=fun x=>x.1) zT (aP q m) p _ fun T N E w=>?_
 refine (tV w (lX o)).mpr ?_
 rw [I]
 simp only [fM]
 have u:(eC ((Z.map (·.1)).map (·.1))+1 - d).toNat=nx:=by rw [K];rfl
 rw [u]
 refine ⟨by omega,?_⟩
 refine oM (lo:=d) (n:=nx) (fun i e b=>∃ x,e=[some (.loc a),some (.loc t),some (.loc r),some (.int y),some (.str (Uq "" (fB (cS (GZ Z)) d i y))),x]/\g <+: b) ⟨s,rfl,q.trans E⟩ (fun i e b X l=>?_) fun e b l=>?_
 ·obtain ⟨x,rfl,j⟩:=l
  refine ⟨_,rfl,?_⟩
  simp only [Tj,Tn,b7,a9,bE,aU,aR,aF,aJ]
  refine SG k (J.keep fun c y h=>aP j h) _ _ _ fun O G=>?_
  obtain ⟨_,_,Y⟩:=zR (cS (GZ Z)) d (n:=i) (by omega) y
  have s4:=Fg (cS (GZ Z)) (d+(i:Int),y)
  refine (PU (by rw [T5];omega)).mpr ?_
  rw [<- Sw,<- SI]
  exact ⟨_,rfl,j.trans G⟩
 ·obtain ⟨x,rfl,j⟩:=l
  exact H x _ j
theorem SN (k:Nat){b:Hm}{n a:Nat}{Z:Zr}(J:Pz b n a Z)(A:Z.length<=100)(p:Z.map (·.1)≠[]){g d:Int}{nx ny:Nat}(B:Bx (Z.map (·.1)) g nx d ny)(Q:D×Hm->Prop)(H:∀ μ',b <+: μ'->Q (.str (Uq "\n" (fR (cS (GZ Z)) g nx d ny)),μ')):W (f (k+2) "_law_due" [.loc a] b) Q:=by
 have U:=B.y0
 have X:=B.y1
 have O:=B.by_
 have sx:=B.sx
 have sy:=B.sy
 have E:(Z.map (·.1)).length<=100:=by rw [Tc];exact A
 rw [Qv,W_fin]
 simp only [bH,b7,bE,aU,aR,aF,aJ]
 refine (yU J.dic).mpr ?_
 have L:(aM Z).map (fun k=>D.tup (k.1.map D.int))=(Z.map (·.1)).map PP:=by
  unfold aM
  rw [TF,TF]
  rfl
 rw [L]
 have r:b <+: b++[C.lst ((Z.map (·.1)).map PP)]:=bD _ _
 have l:(b++[C.lst ((Z.map (·.1)).map PP)])[b.length]? = some (.lst ((Z.map (·.1)).map PP)):=cA _ _
 generalize b++[C.lst ((Z.map (·.1)).map PP)]=μ1 at r l
 simp only [Tj,Tn,gD,aR]
 refine ⟨Uz _,?_⟩
 simp only [Tj,Tn,gE,oJ,aU,aR,bE,a9,bB]
 have s:μ1 <+: μ1++[C.lst []]:=bD _ _
 refine uG (pr:=fun x=>x.2) zU (aP s l) E _ fun b1 Y u M=>?_
 refine (tW M (lX p)).mpr ?_
 refine uG (pr:=fun x=>x.2) zU (aP (s.trans u) l) E _ fun b2 μ4 G N=>?_
 refine (tV N (lX p)).mpr ?_
 rw [U]
 simp only [fM]
 have K:(eC ((Z.map (·.1)).map (·.2))+1 - d).toNat=ny:=by rw [X];rfl
 rw [K]
 refine ⟨by omega,?_⟩
 refine oM (lo:=d) (n:=ny) (fun i e μ'=>∃ v w z,e=[some (.loc a),some (.loc b.length),some (.loc μ1.length),v,w,z]/\μ1 <+: μ'/\μ'[μ1.length]? = some (.lst ((fR (cS (GZ Z)) g nx d i).map D.str))) ⟨none,none,none,rfl,(s.trans u).trans G,aP (u.trans G) (cA _ _)⟩ (fun i e μ' hi q=>?_) fun e μ' q=>?_
 ·obtain ⟨v,w,z,rfl,j,m⟩:=q
  refine ⟨_,rfl,?_⟩
  simp only [Tj,Tn]
  refine SM k (J.keep fun c y h=>aP (r.trans j) h) A p B (aP j l) _ fun x μ6 I=>?_
  rw [mR]
  refine qK ?_
  simp only [aU,aR,aF,aJ]
  have o:=aP I m
  have ol:=(uE (cS (GZ Z)) g (nx:=nx) (by omega) d (ny:=i) (by omega)).1
  refine ⟨Fn o,(tJ o (by rw [Tc,T5];omega)).mpr ⟨_,_,_,rfl,fL (j.trans I) (Tt _) _,?_⟩⟩
  rw [TU (Tf.mp o).1,Fq,TM]
  rfl
 ·obtain ⟨v,w,z,rfl,j,m⟩:=q
  simp only [w_mRet]
  refine yW ?_
  simp only [bB,aU,aR,aF,aJ]
  obtain ⟨R,T⟩:=uE (cS (GZ Z)) g (nx:=nx) (by omega) d (ny:=ny) (by omega)
  exact ⟨_,rfl,(zF (by decide) m R T).mpr (H _ (r.trans j))⟩
theorem Nw.mono {qs:List (Int×Int)}{F:Int×Int->Ly}{B C:Int}(N:Nw qs F B)(h:B<=C):Nw qs F C:=⟨N.nr,fun q a=>by have:=N.bd q a;omega⟩
theorem SO {w h:Int}(hw:1<=w/\w<=4)(c:1<=h/\h<=4):Nw (bV w h) (fun _=>cX) 16:=by
 obtain ⟨_,_,_,_,_,e⟩:=lT w (dQ hw) h (dQ c)
 have b:∀ q∈bV w h,0<=q.1/\q.1<=16/\0<=q.2/\q.2<=16:=fun q a=>by
  have:=Vd.mp e q a
  rw [To,decide_eq_true_iff] at this
  exact this.2
 refine ⟨fun p d q a=>?_,fun q a=>?_⟩
 ·have:=b p d
  have:=b q a
  rw [oP,oP]
  unfold Nr
  omega
 ·have:=b q a
  rw [oP]
  omega
structure Iny (w h:Int)(o b:Nat)(xs:List D)(d dl:D)(F:Int×Int->Ly)(G:Gr)(B:Int)(μ:Hm):Prop where
 i1:μ[o]? = some (.ins "Folding" (lU w h b))
 i2:μ[b]? = some (.lst (xs++[d]))
 s1:StZ μ b d F (bV w h) G
 s2:StZ μ b dl F (bV w h) G
 gd:Gd (bV w h) F G
 nw:Nw (bV w h) F B
 un:Un w h F G
theorem Iny.more {w h:Int}{o b:Nat}{xs:List D}{d a:D}{F:Int×Int->Ly}{G:Gr}{B:Int}{c μ':Hm}(I:Iny w h o b xs d a F G B c)(p:c <+: μ'):Iny w h o b xs d a F G B μ':=⟨aP p I.i1,aP p I.i2,I.s1.more p,I.s2.more p,I.gd,I.nw,I.un⟩
noncomputable def Ty (ns:List Int)(s w h:Int)(o b i:Nat)(p:aI)(n:Hm):Prop:=∃ xs d g F G j l m a c e,p=[some (.rol (ns.map D.int)),some (.int 4),some (.int s),some (.int w),some (.int h),some (.loc o),some g,j,l,m,a,c,e]/\xs.length<=i/\Iny w h o b xs d g F G (16+16 * (i:Int)) n
theorem SQ {e:aI}{i j k l:Nat}{a b c d:D}{g:Hm}{Q:aI->Prop}:W (dM [i,j,k,l] (.tup [a,b,c,d]) e g) Q↔Q ((((e.set i (some a)).set j (some b)).set k (some c)).set l (some d)):=W_some
theorem SR (k:Nat){ns:List Int}{s w h:Int}(hw:1<=w/\w<=4)(U:1<=h/\h<=4){o b i:Nat}(hi:i<=20){c:Int}(hc:0<=c/\c<=50){xs:List D}{d R:D}{F:Int×Int->Ly}{G:Gr}{μ:Hm}(J:Iny w h o b xs d R F G (16+16 * (i:Int)) μ)(hx:xs.length<=i){x8 x9 B K L:Option D}(Q:Fl×aI×Hm->Prop)(H:∀ ρ μ',Ty ns s w h o b (i+1) ρ μ'->Q (.nx,ρ,μ')) :
  W ((aK (iK (aG (f (k+5) "_law_plan") (aC (aA 6) (aC (aG (f (k+5) "_law_cell") (aC (aA 0) (aC (aA 7) aD))) (aC (aG (f (k+5) "_law_cell") (aC (aA 0) (aC (aB bK (aA 7) (mC (.int 1))) aD))) aD)))) (dM [8,9,10,11])) (aK (aQ 12 (aG (f (k+5) "_law_folded") (aC (aA 6) (aC (aA 9) (aC (aA 10) (aC (aA 11) aD)))))) (bN (aT (aB (hU true) (aA 12) (mC .non))) (aK (eU (hJ "Folding" "fold" (f (k+5) "Folding.fold") (aA 5) (aC (aA 8) (aC (aA 10) (aC (aA 11) aD))))) (aQ 6 (aA 12))) bM)))
   [some (.rol (ns.map D.int)),some (.int 4),some (.int s),some (.int w),some (.int h),some (.loc o),some R,some (.int c),x8,x9,B,K,L] μ) Q:=by
 obtain ⟨_,q2,q3,q4,q5,_⟩:=lT w (dQ hw) h (dQ U)
 simp only [bH,yQ,b7,bE,aU,aR,aF,aJ]
 refine mW (k+4) ns c (by omega) _ _ fun μ1 p1=>?_
 simp only [a9,bB,fM,aF,aJ]
 refine mW (k+4) ns (c+1) (by omega) _ _ fun μ2 p2=>?_
 have v:=J.more (p1.trans p2)
 obtain ⟨l,p,Z,rfl,g1,I,T,y,nb⟩:=v.s2.ex
 have G2:Gd (bV w h) F (GZ Z):=by rw [y];exact v.gd
 obtain ⟨Y,_,lZ,bZ⟩:=G2.key
 have zp:0<Z.length:=by
  cases Z with
  | nil=>
   obtain ⟨q,hq⟩:=XB _ q3
   exact absurd (Y q hq) (by simp)
  | cons _ _=>exact X4 _
 refine Sq (k+3) T zp _ _ _ fun e u n a ov M r E m=>?_
 simp only [SQ,Tj,Tn,aF,aJ]
 have x:=v.more r
 have bl:b<M.length:=(Tf.mp x.i2).1
 refine RS (k+3) J.gd.di q4 (by omega) q3 q5 (I.more r) (aP r T) (aP r g1) (by omega) (fun z hz=>by have:=bZ z hz;omega) Y E.u0 _ (fun j N A=>?_) fun j S l' p' N A _ gl PJ eS=>?_
 ·have g:=x.more A
  simp only [Tj,Tn,c7,dG,a9,bB,aF,aJ,PH,Tw,if_false,dE]
  exact H _ _ ⟨xs,d,_,F,G,_,_,_,_,_,_,rfl,by omega,⟨g.i1,g.i2,g.s1,g.s2,g.gd,g.nw.mono (by omega),g.un⟩⟩
 ·rw [Fd,y] at j
  have g:=x.more A
  have O:=StZ.new (b:=b) gl PJ bl
  rw [eS,y] at O
  simp only [Tj,Tn,c7,dG,a9,bB,aF,aJ,PK,if_true,bH,mR]
  refine zP ?_
  simp only [aU,aR,aF,aJ]
  refine ⟨o,_,rfl,g.i1,rfl,?_⟩
  refine Sd k q4 q2 g.i1 g.i2 (by omega) g.s1 g.gd E m j _ fun d' μ5 X gb S5=>?_
  have ob:o≠b:=fun e=>by have:=g.i1;rw [e,g.i2] at this;cases this
  simp only [b7,aF,aJ,Tj,Tn]
  refine H _ _ ⟨xs++[d],d',_,_,_,_,_,_,_,_,_,rfl,by rw [Tz,Vj];omega,⟨X _ _ ob g.i1,gb,S5,O.keep g.i2 X,J.gd.fold m a ov,(J.nw.fold J.gd E.u0 m j).mono (by omega),.inl (J.un.fold hw U J.gd E.u0 m ov j)⟩⟩
theorem SS:∀ s∈[(0:Int),1,2,3,4,5,6],pO 1 (2 * s+1) 2=true/\(Ut 1 (2 * s+1) 2).toNat<=6:=by decide +kernel
theorem SU {s:Int}(h:0<=s/\s<=6):s∈[(0:Int),1,2,3,4,5,6]:=by
 simp only [T1,Wv,or_false]
 omega
theorem SV (k:Nat)(ns:List Int){s:Int}(M:0<=s/\s<=6)(μ:Hm)(Q:D×Hm->Prop)(H:∀ w h o b xs d g F G μ',(1<=w/\w<=4)->(1<=h/\h<=4)->Iny w h o b xs d g F G 1000 μ'->Q (.tup [.int w,.int h,.loc o],μ')):W (f (k+6) "_law_go" [.rol (ns.map D.int),.int 4,.int s] μ) Q:=by
 rw [Qt,W_fin]
 simp only [bH,b7,a9,bB,bE,aU,aR,aF,aJ]
 refine mW (k+4) ns 0 (by omega) _ _ fun μ1 p1=>?_
 simp only [qL,fM,Tj,Tn,aF,aJ]
 refine mW (k+4) ns 0 (by omega) _ _ fun e p2=>?_
 simp only [jI (show (0:Int)<4 by decide) (by decide),qL,fM,Tj,Tn,aF,aJ]
 generalize hw0:1+iC ns 0 % 4=w
 generalize hh0:1+iC ns 0 / 4 % 4=h
 have hw:1<=w/\w<=4:=by omega
 have c:1<=h/\h<=4:=by omega
 obtain ⟨_,q2,q3,R,q5,T⟩:=lT w (dQ hw) h (dQ c)
 refine RT ?_
 simp only [aU,aR,aF,aJ]
 refine Sk k hw c _ _ fun b d μ3 p3 bl N O S=>⟨rfl,?_⟩
 simp only [Tj,Tn,aF,aJ]
 refine Si (k+3) hw c _ _ fun l p Z v m I B E=>?_
 have K:Gd (bV w h) (fun _=>cX) (eL (bV w h)):=by
  refine ⟨fun _=>QY,Rn R,fun q L=>?_⟩
  rw [oP]
  have:=Vd.mp T q L
  rw [To] at this
  exact this.1
 have x:=StZ.new (b:=b) I B bl
 rw [E] at x
 have A:Iny w h e.length b [] d (.tup [.loc l,.loc p]) (fun _=>cX) (eL (bV w h)) (16+16 * ((0:Nat):Int)) v:=⟨aP m N,aP m O,S.more m,x,K,SO hw c,.inr ⟨rfl,rfl⟩⟩
 simp only [Tj,Tn,gE]
 refine PV ?_
 simp only [aU,aR,bB,a9,aF,aJ,yY,fM]
 obtain ⟨U,r2⟩:=SS s (SU M)
 refine ⟨1,2 * s+1,2,rfl,U,?_⟩
 refine PX (fun i a μ'=>Ty ns s w h e.length b i a μ') ⟨[],d,_,_,_,none,none,none,none,none,none,rfl,Tt _,A⟩ (fun i a μ' hi j=>?_) fun a μ' j=>?_
 ·obtain ⟨xs,y,g,F,G,X,Y,x9,n,r,u,rfl,z,J⟩:=j
  refine ⟨_,rfl,?_⟩
  simp only [Tj,Tn]
  exact SR k hw c (by omega) (by omega) J z _ fun ρ μ' t=>t
 ·obtain ⟨xs,y,g,F,G,X,Y,x9,n,r,u,rfl,z,J⟩:=j
  simp only [w_mRet,eM,aU,aR,aF,aJ]
  exact ⟨by show (3:Nat)<=TC;decide,H w h _ b xs y g F G μ' hw c ⟨J.i1,J.i2,J.s1,J.s2,J.gd,J.nw.mono (by omega),J.un⟩⟩
theorem Ft {a:Hm}{Y:Zr}(i:(Y.map (·.1)).Nodup)(b:∀ y∈Y,a[y.2.2]? = some (.lst (y.2.1.map PP))):∀ l:Zr,(∀ z∈l,a[z.2.2]? = some (.lst (z.2.1.map PP))/\(z.1,z.2.1)∈GZ Y)->j9 a (aM Y) (aM l)=some true
 | [],_=>rfl
 | z::l,h=>by
  obtain ⟨n,o⟩:=h z (Um ..)
  obtain ⟨y,g,e⟩:=Ts.mp o
  have q:=Ft i b l fun x p=>h x (Ua _ p)
  have j:y.1=z.1:=congrArg (·.1) e
  have m:y.2.1=z.2.1:=congrArg (·.2) e
  have d:=mX i g
  rw [j] at d
  have c:=b y g
  rw [m] at c
  show j9 a (aM Y) ((bR z.1,.loc z.2.2)::aM l)=some true
  unfold j9
  rw [d]
  dsimp only
  rw [Px n c,q,beq_self_eq_true]
  rfl
theorem SW {Z:Zr}(b:(Z.map (·.1)).Nodup):aM Z=aX (fun p=>(b9 (aM Z) (bR p)).getD .non) (Z.map (·.1)):=by
 unfold aX
 rw [TF]
 conv=>lhs;unfold aM
 refine Ul fun z a=>?_
 rw [W9]
 dsimp only
 rw [mX b a]
 rfl
theorem Fu {m n:Type}(g:m->n){ks l:List n}(h:ks.Perm l):∀ Z:List m,Z.map g=l->∃ Y:List m,Y.map g=ks/\Y.Perm Z:=by
 induction h with
 | nil=>exact fun Z e=>⟨Z,e,.refl _⟩
 | cons x _ q=>
  intro Z e
  cases Z with
  | nil=>cases e
  | cons z Z=>
   injection e with e1 e2
   obtain ⟨Y,c,d⟩:=q Z e2
   exact ⟨z::Y,by rw [Tq,e1,c],d.cons z⟩
 | swap x y l=>
  intro Z e
  cases Z with
  | nil=>cases e
  | cons a Z=>
   cases Z with
   | nil=>injection e with _ e;cases e
   | cons b Z=>
    injection e with e1 e
    injection e with e2 e3
    exact ⟨b::a::Z,by rw [Tq,Tq,e1,e2,e3],.swap a b Z⟩
 | trans _ _ i j=>
  intro Z e
  obtain ⟨Y,c,d⟩:=j Z e
  obtain ⟨X,o,p⟩:=i Y c
  exact ⟨X,o,p.trans d⟩
theorem SX (xs:List D){j:Int}(h:0<=j/\j<=xs.length):iZ xs (some j) none=xs.drop j.toNat:=by
 unfold iZ
 have a:HT.sIx xs.length xs.length none=xs.length:=HT.sIx_none _ _
 have b:HT.sIx xs.length 0 (some j)=j.toNat:=by
  show (if j<0 then (j+(xs.length:Int)).toNat else min j.toNat xs.length)=j.toNat
  rw [if_neg (by omega)];omega
 rw [a,b,XY (by rw [Ww];exact Tt _)]
theorem SY (xs:List D){j:Int}(h:0<=j/\j<=xs.length):iZ xs none (some j)=xs.take j.toNat:=by
 unfold iZ
 have a:HT.sIx xs.length 0 none=0:=HT.sIx_none _ _
 have b:HT.sIx xs.length xs.length (some j)=j.toNat:=by
  show (if j<0 then (j+(xs.length:Int)).toNat else min j.toNat xs.length)=j.toNat
  rw [if_neg (by omega)];omega
 rw [a,b,a1Q,a0b]
theorem S1 {Z Y:Zr}(c:(Z.map (·.1)).Nodup)(h:Y.Perm Z):cS (GZ Y)=cS (GZ Z):=by
 have d:(Y.map (·.1)).Nodup:=(h.map (·.1)).nodup_iff.mpr c
 funext p
 unfold cS
 by_cases a:p∈Z.map (·.1)
 ·obtain ⟨z,b,rfl⟩:=Ts.mp a
  rw [zK c b,zK d (h.mem_iff.mpr b)]
 ·rw [mY (G:=GZ Z) (by rw [gG];exact a),mY (G:=GZ Y) (by rw [gG,(h.map (·.1)).mem_iff];exact a)]
theorem Fv (k:Nat){a:Hm}{o b:Nat}{w h:Int}{xs:List D}{d:D}{F:Int×Int->Ly}{qs:List (Int×Int)}{G:Gr}(m:qs.length<=64)(i1:a[o]? = some (.ins "Folding" (lU w h b))) (i2:a[b]? = some (.lst (xs++[d])))(S:StZ a b d F qs G)(e:Gd qs F G)(Q:D×Hm->Prop)
  (H:∀ Y c,a <+: c->Pz c a.length a.length Y->GZ Y=G->Q (.loc a.length,c)):W (f (k+2) "Folding.piles" [.loc o] a) Q:=by
 obtain ⟨l,p,Z,rfl,j,I,g,rfl,q⟩:=S.ex
 obtain ⟨_,_,n,_⟩:=e.key
 refine Sa k i1 i2 I g (by omega) _ ?_
 generalize hν:a++(C.dT (aM (cC (a.length+1) Z))::Z.map fun z=>C.lst (z.2.1.map PP))=ν
 refine H (cC (a.length+1) Z) ν (by rw [<- hν];exact Vn _ _) ⟨?_,by rw [t9 (lR _ _)];exact I.kd,fun z i=>?_⟩ (lR _ _)
 ·rw [<- hν,Us (Tt _),WZ];rfl
 ·have:=uA Z (a.length+1) (a++[.dT (aM (cC (a.length+1) Z))]) [] (by rw [Tz];rfl) z i
  refine ⟨by omega,?_⟩
  rw [UM,Vt] at this
  rw [<- hν]
  exact this.2
theorem S2 {μ0 B:Hm}{n a t c:Nat}{Z Y:Zr}(m:μ0 <+: B)(J:Pz μ0 n a Z)(K:Z.length<=100)(hc:μ0.length<=c)(I:B[c]? = some (.dT []))(h:Y.Perm Z)(E:μ0[t]? = some (.lst ((Y.map (·.1)).map PP))){p q r s u v w o:Option D}(Q:Fl×aI×Hm->Prop)
  (H:∀ x b,μ0 <+: b->Pz b n c Y->Q (.nx,[p,q,r,s,some (.loc a),u,v,some (.loc t),w,some (.loc c),x],b)) :
  W (cD (cR (aA 7)) (cI 10) (cM (aA 9) (aA 10) (aB aH (aA 4) (aA 10))) [p,q,r,s,some (.loc a),u,v,some (.loc t),w,some (.loc c),o] B) Q:=by
 have G:(Y.map (·.1)).Nodup:=(h.map (·.1)).nodup_iff.mpr J.kd
 have L:=h.length_eq
 simp only [gE,mS,aF,aJ]
 refine (mU (aP m E)).mpr ?_
 refine tI (fun i e b=>∃ x,e=[p,q,r,s,some (.loc a),u,v,some (.loc t),w,some (.loc c),x]/\μ0 <+: b/\b[c]? = some (.dT (aM (Y.take i)))) ⟨o,rfl,m,I⟩ (fun _ _ _ ⟨_,_,h,_⟩=>aP h E) (fun i d e b hd y=>?_) fun e b y=>?_
 ·obtain ⟨x,rfl,l,j⟩:=y
  rw [TF,TH] at hd
  obtain ⟨z,g,rfl⟩:=Tg.mp hd
  have A:=Ue g
  refine ⟨_,rfl,?_⟩
  simp only [W9,Tj,Tn,jK,a9,aF,aJ]
  refine (DZ (aP l J.dic) (iD z.1) (mX J.kd (h.mem_iff.mp A))).mpr ?_
  refine (oN j (iD z.1) (by rw [oR,Uv,T5];omega)).mpr ⟨_,rfl,fL l hc _,?_⟩
  have nd:z.1∉(Y.take i).map (·.1):=by
   rw [XG]
   exact qO G (by rw [TH,g];rfl)
  rw [zA (tQ nd),TU (Tf.mp j).1,iT g]
  unfold aM
  rw [TM]
  rfl
 ·obtain ⟨x,rfl,l,j⟩:=y
  rw [Tc,Tc,Vy] at j
  exact H x _ l ⟨j,G,fun z g=>⟨(J.at_ z (h.mem_iff.mp g)).1,aP l (J.at_ z (h.mem_iff.mp g)).2⟩⟩
theorem S3 {e:Hm}{a b:Nat}{c d:List (List Int×D)}{Q:D×Hm->Prop}(g:e[a]? = some (.dT c))(h:e[b]? = some (.dT d))(j:c.length=d.length)(i:j9 e d c=some true):W (f9 false (.loc a) (.loc b) e) Q↔Q (.bl true,e):=by
 have:f9 false (.loc a) (.loc b) e=some (.bl true,e):=by
  simp only [f9,g,h,if_pos j,i,Ub]
  rfl
 rw [this]
 exact W_some
theorem Fw (k:Nat){m:Hm}{w h:Int}(hw:1<=w/\w<=4)(hh:1<=h/\h<=4){o b n a t:Nat}{xs:List D}{d dl:D}{F:Int×Int->Ly}{G:Gr}(I:Iny w h o b xs d dl F G 1000 m){Z Y:Zr}(J:Pz m n a Z)(q:GZ Z=G)(r:Z.map (·.1)≠[]){j l:Int}{nx ny:Nat}(B:Bx (Z.map (·.1)) j nx l ny)(i:Y.Perm Z)(gt:m[t]? = some (.lst ((Y.map (·.1)).map PP)))
  {R T U d8:Option D}(Q:Fl×aI×Hm->Prop)(H:∀ ρ u,Q (.rt (.bl true),ρ,u)) :
  W ((aK (aQ 9 f6) (aK (cD (cR (aA 7)) (cI 10) (cM (aA 9) (aA 10) (aB aH (aA 4) (aA 10)))) (aK (bN (eT (iX (eY (aG i7 (aC (aA 6) (aC (mC (.ty "str")) aD))))) (eT (aT (aB (a8 true) (aA 6) (aA 5))) (aT (aB (a8 true) (aG (f (k+6) "outline") (aC (aA 9) aD)) (aA 5))))) (bC (mC (.bl false))) bM) (bC (iY (aB (a8 false) (aG (f (k+6) "outline") (aC (aA 4) aD)) (aA 5)) (aB (f9 false) (hJ "Folding" "piles" (f (k+6) "Folding.piles") (aA 3) aD) (aA 4)))))))
   [R,T,U,some (.loc o),some (.loc a),some (.str (Uq "\n" (fR (cS (GZ Z)) j nx l ny))),some (.str (Uq "\n" (fR (cS (GZ Z)) j nx l ny))),some (.loc t),d8,none,none] m) Q:=by
 obtain ⟨_,q2,q3,q4,q5,_⟩:=lT w (dQ hw) h (dQ hh)
 have N:Gd (bV w h) F (GZ Z):=by rw [q];exact I.gd
 obtain ⟨_,_,lZ,_⟩:=N.key
 have lY:=i.length_eq
 rw [bH,b7,mV]
 simp only [Tj,Tn]
 rw [bH]
 refine S2 (bD _ _) J (by omega) (Tt _) (cA _ _) i gt _ fun x μ1 p1 O=>?_
 have M:Bx (Y.map (·.1)) j nx l ny:=B.perm (i.map (·.1)).symm r
 have s:Y.map (·.1)≠[]:=fun e=>r (by
  have:=congrArg Uo e
  rw [Tc,a1K] at this
  exact List.eq_nil_of_length_eq_zero (by rw [Tc];omega))
 simp only [bH,c7,qH,tF,lK,dG,a9,bE,aU,aR,bB,aF,aJ,PD,kK,Vs,Tw,if_false,DK,beq_self_eq_true]
 refine zV (k+3) O (by omega) s M _ fun μ2 p2=>?_
 rw [S1 J.kd i]
 simp only [DK,beq_self_eq_true,Vs,Tw,if_false,dE,w_mRet,tG,a9,bE,aU,aR,aF,aJ]
 have K:=p1.trans p2
 refine zV (k+3) (J.keep fun c y h=>aP K h) (by omega) r B _ fun μ4 p4=>?_
 simp only [Pm,beq_self_eq_true,if_true]
 have L:=K.trans p4
 have g:=I.more L
 refine zP ?_
 simp only [aF,aJ]
 refine ⟨o,_,rfl,g.i1,rfl,?_⟩
 simp only [aR]
 refine Fv (k+4) q2 g.i1 g.i2 g.s1 g.gd _ fun X μ6 p6 v A=>?_
 have p:=J.keep fun c y h=>aP (L.trans p6) h
 refine (S3 v.dic p.dic (by rw [oR,oR,<- jM,<- jM,A,q]) (Ft p.kd (fun y hy=>(p.at_ y hy).2) _ fun z E=>⟨(v.at_ z E).2,by rw [q,<- A];exact Ts.mpr ⟨z,E,rfl⟩⟩)).mpr (H _ _)
theorem S4 {d:aI}{i j k:Nat}{a b c:D}{e:Hm}{Q:aI->Prop}:W (dM [i,j,k] (.tup [a,b,c]) d e) Q↔Q (((d.set i (some a)).set j (some b)).set k (some c)):=W_some
theorem S6 (k:Nat)(ns:List Int)(hns:ns.length<=63)(μ:Hm):W (f (k+7) "law" [.rol (ns.map D.int)] μ) fun r=>r.1=.bl true:=by
 rw [Qw,W_fin,bH]
 simp only [yQ,a9,bB,bE,aU,aR,aF,aJ]
 refine mW (k+5) ns 13 (by omega) _ _ fun μ1 p1=>?_
 simp only [dP (show (0:Int)<7 by decide)]
 refine SV k ns (by omega) _ _ fun w h o b xs d dl F G μ2 hw v l=>?_
 obtain ⟨_,q2,q3,q4,q5,_⟩:=lT w (dQ hw) h (dQ v)
 simp only [S4,Tj,Tn]
 rw [bH,b7]
 refine zP ?_
 simp only [aF,aJ]
 refine ⟨o,_,rfl,l.i1,rfl,?_⟩
 simp only [aR]
 refine Fv (k+4) q2 l.i1 l.i2 l.s1 l.gd _ fun Z μ3 p3 z s=>?_
 have I3:=l.more p3
 have Q:Gd (bV w h) F (GZ Z):=by rw [s];exact l.gd
 obtain ⟨kq,_,lZ,_⟩:=Q.key
 have m:Z.map (·.1)≠[]:=fun e=>by
  obtain ⟨q,I⟩:=XB _ q3
  have:=kq q I
  rw [e] at this
  exact absurd this (by simp)
 have L:∀ p∈Z.map (·.1),∃ q∈bV w h,aL (F q) q=p:=fun p n=>by
  rw [<- gG] at n
  exact Q.pl.key.mp n
 obtain ⟨lx,nx,ly,ny,B⟩:=Sy m (fun p n q I=>by
  obtain ⟨x,K,rfl⟩:=L p n
  obtain ⟨y,hy,rfl⟩:=L q I
  exact l.nw.nr x K y hy) (Int.le_refl 1000) fun p n=>by
  obtain ⟨x,K,rfl⟩:=L p n
  exact l.nw.bd x K
 simp only [Tj,Tn]
 rw [bH,b7]
 simp only [bE,aU,aR,aF,aJ]
 refine SN (k+4) z (by omega) m B _ fun N p4=>?_
 simp only [Tj,Tn]
 rw [bH,b7]
 simp only [bE,aU,aR,aF,aJ]
 have T:=z.keep (μ':=N) fun c y h=>aP p4 h
 refine zV (k+3) T (by omega) m B _ fun g p5=>?_
 simp only [Tj,Tn]
 rw [bH,b7]
 simp only [bE,aU,aR,aF,aJ]
 have U:=T.keep (μ':=g) fun c y h=>aP p5 h
 have gk:=U.dic
 rw [SW U.kd] at gk
 have J:(Z.map (·.1)).length<64\/Z.map (·.1)=bV 4 4:=by
  rcases l.un with h1|⟨_,h2⟩
  ·left
   rw [Tc,<- jM,s]
   exact h1
  ·rcases Fm w (dQ hw) h (dQ v) with h3|⟨h4,h5⟩
   ·left
    rw [Tc]
    omega
   ·right
    rw [<- gG,s,h2,qQ,h4,h5]
 refine SE gk J _ fun a sp=>?_
 have lk:a.length=Z.length:=by rw [sp.length_eq,Tc]
 have zp:0<Z.length:=by
  have:=VM.mpr m
  rw [Tc] at this
  exact this
 have p6:g <+: g++[C.lst (a.map PP)]:=bD _ _
 have g6:(g++[C.lst (a.map PP)])[g.length]? = some (.lst (a.map PP)):=cA _ _
 generalize g++[C.lst (a.map PP)]=μ6 at p6 g6
 simp only [Tj,Tn]
 rw [bH,b7]
 simp only [a9,bB,bE,aU,aR,aF,aJ]
 refine mW (k+5) ns 14 (by omega) _ _ fun i p7=>?_
 have H:=aP p7 g6
 simp only [jI (show (0:Int)<2 by decide) (by decide),tK H,Tc]
 have kp:(0:Int)<(a.length:Int):=by omega
 refine (dP kp).mpr ?_
 have j0:=WK (iC ns 14 / 2) (show (a.length:Int)≠0 by omega)
 have j1:=We (iC ns 14 / 2) kp
 generalize iC ns 14 / 2 % (a.length:Int)=j at j0 j1
 simp only [Tj,Tn]
 rw [bH,b7,a9]
 refine DY ?_
 simp only [aF,aJ,DW,DX]
 refine ⟨_,rfl,_,H,?_⟩
 rw [SX _ (by rw [Tc];omega)]
 refine DY ?_
 simp only [aF,aJ,DW,DX]
 refine ⟨_,rfl,_,aP (bD _ _) H,?_⟩
 rw [SY _ (by rw [Tc];omega)]
 refine (qJ (aP (bD _ _) (cA _ _)) (cA _ _) (by rw [Ww,Uv,Tc,T5];omega)).mpr ?_
 have p8:i <+: i++[C.lst ((a.map PP).drop j.toNat)]++[C.lst ((a.map PP).take j.toNat)]++[C.lst ((a.map PP).drop j.toNat++(a.map PP).take j.toNat)]:=((bD _ _).trans (bD _ _)).trans (bD _ _)
 have u:=cA (i++[C.lst ((a.map PP).drop j.toNat)]++[C.lst ((a.map PP).take j.toNat)]) (C.lst ((a.map PP).drop j.toNat++(a.map PP).take j.toNat))
 generalize (i++[C.lst ((a.map PP).drop j.toNat)]++[C.lst ((a.map PP).take j.toNat)]).length=t8 at u
 generalize i++[C.lst ((a.map PP).drop j.toNat)]++[C.lst ((a.map PP).take j.toNat)]++[C.lst ((a.map PP).drop j.toNat++(a.map PP).take j.toNat)]=μ8 at p8 u
 rw [<- ZD,<- XG,<- TM] at u
 have M:(a.drop j.toNat++a.take j.toNat).Perm (Z.map (·.1)):=by
  refine (a0d).trans ?_
  rw [Vx]
  exact sp
 generalize a.drop j.toNat++a.take j.toNat=ms at M u
 simp only [Tj,Tn]
 rw [bH,c7]
 simp only [dG,a9,bB,bE,aU,aR,aF,aJ]
 refine mW (k+5) ns 14 (by omega) _ _ fun O p9=>?_
 simp only [tL,w_eqI]
 have q9:=p4.trans (p5.trans (p6.trans (p7.trans (p8.trans p9))))
 have X:=z.keep (μ':=O) fun c y h=>aP q9 h
 have R:=I3.more q9
 have g9:=aP p9 u
 split
 ·simp only [b7,bE,aU,aR,aF,aJ]
  refine (D1 g9).mpr ?_
  rw [<- YT]
  simp only [Tj,Tn]
  have s9:ms.reverse.Perm (Z.map (·.1)):=ms.reverse_perm.trans M
  obtain ⟨Y,A,E⟩:=Fu (·.1) s9 Z rfl
  exact Fw k hw v (R.more (bD _ _)) (X.keep fun c y h=>aP (bD _ _) h) s m B E (by rw [A];exact cA _ _) _ fun _ _=>rfl
 ·simp only [dE]
  obtain ⟨Y,A,E⟩:=Fu (·.1) M Z rfl
  exact Fw k hw v R X s m B E (by rw [A];exact g9) _ fun _ _=>rfl
theorem S7:∀ ns:List Int,ns.length<=63->∃ μ',fA S ds 7 "law" [.rol (ns.map D.int)] []=some (.bl true,μ'):=fun ns c=>by
 obtain ⟨⟨d,μ'⟩,a,b⟩:=S6 0 ns c []
 dsimp only at b
 subst b
 refine ⟨μ',?_⟩
 unfold f at a
 exact a
end Lw
namespace Lw
open PySem L2 L3
theorem oz (Q:Vr):∀ f x,S.ob.lookup f=some x → ∃ C,CAt (Kx Q) x C ∧ Cls (Kx Q) C ∧ NoAttr (Kx Q) C f:=Pd (by kernel_rfl)
theorem mz (Q:Vr):∀ m x y n,S.mt.lookup m=some (x,y,n) → ∃ (C g:Addr),CAt (Kx Q) x C ∧ Cls (Kx Q) C ∧ Meth (Kx Q) C m g ∧ mQ (Kx Q) (lk S ds y) n g:=Pe (Yh.mpr ⟨⟨by kernel_rfl,"Folding.fold",cL 44 1,by kernel_rfl,⟨by kernel_rfl,by kernel_rfl,by kernel_rfl⟩⟩,Yh.mpr ⟨⟨by kernel_rfl,"Folding.piles",cL 44 5,by kernel_rfl,⟨by kernel_rfl,by kernel_rfl,by kernel_rfl⟩⟩,fun _ z=>nomatch z⟩⟩)
theorem yz (Q:Vr):∀ x y n,S.mc.lookup x=some (y,n) → lk S ds x=none ∧ ∃ (C g:Addr),CAt (Kx Q) x C ∧ Mk (Kx Q) C g ∧ mQ (Kx Q) (lk S ds y) n g:=Pf (Yh.mpr ⟨⟨by kernel_rfl,by kernel_rfl,by kernel_rfl,"Folding.__init__",cL 44 0,by kernel_rfl,⟨by kernel_rfl,by kernel_rfl,by kernel_rfl⟩⟩,fun _ z=>nomatch z⟩)
theorem dz (Q:Vr):tD (Kx Q) ds:=by unfold tD;kernel_rfl
theorem cz (Q:Vr):DF (Kx Q) S.con=true:=by kernel_rfl
theorem nz (Q:Vr):S.no.map (V6 (Kx Q) US)=S.no.map fun _=>some none:=by kernel_rfl
theorem S8 {P:T3}{w:Uk}{Q:Vr}
  {h:UW}{mg:Str → Option Te}(X:(Kx Q).In h)(G:h.Ns US mg):TxtOk P w (Kx Q) mg S ds ∧ ∃ f a,Fun (Kx Q) "law" "law" (aE 57) f a ∧ mg "law" = some (.ref f) ∧ ∀ (s:Th)(u:Te),Zg s a ⟨[u],[]⟩ [("_law_script",u)]:=by
 refine ⟨⟨O5 (by decide +kernel),O6 fun p b=>(DC X G (dz Q) p b).1,O7 (Pc X G (cz Q)),fun x c e=>?_,O8 (Pb X G (nz Q)),oz Q,mz Q,yz Q,Pg (by kernel_rfl)⟩,Pa X G (dz Q) (by kernel_rfl) (by kernel_rfl)⟩
 ·cases e
end Lw
open PySem PySem.W PyProof.Rows
set_option maxRecDepth 100000 in
set_option maxHeartbeats 0 in
theorem PySem.Challenge.cw_creasecourt_k86_outlines_drawn_holds : PySem.Challenge.rw_creasecourt_k86_outlines_drawn.Holds := by
 w_on
 refine holds_law (by decide +kernel) fun a=>?_
 refine holds_open (q:=Lw.Vw) (loose:=[]) (Xt:=fun s=>xlAt Lw.Vw [] s&&recOk (a2s (a1l (U5 Tp))) s) (XP:=XL Lw.Vw []) (Yf:=Hook.obs (a3B Lw.Kx Lw.As Lw.o8)) (Ya:=Hook.val (a3B Lw.Kx Lw.As Lw.o8)) (YP:=Hook.says (a3B Lw.Kx Lw.As Lw.o8)) (N:=5148) Lw.run (Hook.of _) (Hook.keeps _) (fun s e=>xl_of s (Ws.mp e).1) XL.keeps (by rfl) (by rfl) (by rfl) (fun s e=>recFacts_of (Ws.mp e).2) (by rfl) (by first|assumption|decide +kernel) (by decide +kernel) ⟨rfl,rfl,rfl,rfl,rfl,by decide +kernel⟩ ?hw ?hc
 case hw=>w_witness2
 k_fill
 refine L3.walkM (l:=Tp) (S:=Lw.S) (ds:=Lw.ds) (k:=7) (st:=Lw.aE 57) (x:="_law_script") rfl rfl ⟨rfl,by decide,by decide⟩ (fun w h Y=>PySem.W.kIn_of Y) (by kernel_rfl) (by kernel_rfl) ?F (fun c h _=>Lw.S7 c h)
 case F=>
  intro w d h b G
  refine' Lw.S8 (P:=UD) (w:=w)  b G
